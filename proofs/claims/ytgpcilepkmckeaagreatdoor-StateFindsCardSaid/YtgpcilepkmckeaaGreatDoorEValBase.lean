/-
Sorted's comparison, of entries whose cells lie in a row; slices.SortStableFunc. The order of packages: texts in order, packages in order; order: its answer, and that it takes no draw back. Packages in a row of the call's own that is written in place: the cells of each, and where their lists lie. Which field a name is of: isAny, and the library's ContainsFunc and IndexFunc beneath it. What a value has within, by its kind: type assertions, the kind's name; demand's panic. What must be of a kind: what is within, or that panic; values of a text, a count, a yes. Try: of a function that returns, of one that panics with a Wrong, of one that panics with a text, of none. readYes; Read, by the kind of the field: what it tells is what the kind's own reader tells. awake: what every program must know.
-/
import Derived.Test.YtgpcilepkmckeaaGreatDoorEStaStable
import Derived.Test.YtgpcilepkmckeaaGreatDoorEStaConf
import Derived.Deep.MidRow
import Derived.Test.YtgpcilepkmckeaaGreatDoorEIxDef
import Derived.OrdersHeld
import Derived.Test.YtgpcilepkmckeaaGreatDoorEOwn
import Derived.Test.YtgpcilepkmckeaaGreatDoorProg
import Derived.Laws.Entries
import Derived.WalkLawsBesides
import Derived.Handy
import Derived.Lib.Strings
import Derived.Defers
import Derived.Recover
import Derived.Laws.Pointers
namespace Go.Proofs.YtgpcilepkmckeaaGreatDoor
open Go.RowKit
set_option linter.unusedSimpArgs false
set_option linter.unusedVariables false
namespace Sa
open Ver (Bs li li_len S S_self S_size S_li orr sgn Tri)
open Rc (Pk nPk)
open Go.Sort (HoldsK)
theorem cb_cc (x y:UInt8) (a b:Bs):Lib.compareBytes (x :: a) (y :: b) = orr (sgn (x.toNat:Int) (y.toNat:Int)) (Lib.compareBytes a b):=by
 have e:Lib.compareBytes (x :: a) (y :: b) = if x < y then -1 else if y < x then 1 else Lib.compareBytes a b:=rfl
 rw [e]
 unfold orr sgn
 by_cases h1:x < y
 ·have h1':(x.toNat:Int) < y.toNat:=by exact_mod_cast UInt8.lt_iff_toNat_lt.1 h1
  rw [if_pos h1,if_pos h1']; simp
 ·have h1':¬ (x.toNat:Int) < y.toNat:=fun h=>h1 (UInt8.lt_iff_toNat_lt.2 (by exact_mod_cast h))
  rw [if_neg h1,if_neg h1']
  by_cases h2:y < x
  ·have h2':(y.toNat:Int) < x.toNat:=by exact_mod_cast UInt8.lt_iff_toNat_lt.1 h2
   rw [if_pos h2,if_pos h2']; simp
  ·have h2':¬ (y.toNat:Int) < x.toNat:=fun h=>h2 (UInt8.lt_iff_toNat_lt.2 (by exact_mod_cast h))
   rw [if_neg h2,if_neg h2']; simp
theorem cb_turn:∀ a b:Bs,Lib.compareBytes b a = - Lib.compareBytes a b
 | [],[]=>rfl
 | [],_ :: _=>rfl
 | _ :: _,[]=>rfl
 | x :: a,y :: b=>by rw [cb_cc,cb_cc,cb_turn a b,Ver.sgn_turn (x.toNat:Int) y.toNat,Ver.orr_turn]
theorem cb_nn:Lib.compareBytes [] [] = 0:=rfl
theorem cb_nc (y:UInt8) (b:Bs):Lib.compareBytes [] (y :: b) = -1:=rfl
theorem cb_cn (x:UInt8) (a:Bs):Lib.compareBytes (x :: a) [] = 1:=rfl
theorem cb_tri:∀ a b c:Bs,Tri (Lib.compareBytes a b) (Lib.compareBytes b c) (Lib.compareBytes a c)
 | [],[],[]=>by unfold Tri; rw [cb_nn]; omega
 | [],[],_ :: _=>by unfold Tri; rw [cb_nn,cb_nc]; omega
 | [],_ :: _,[]=>by unfold Tri; rw [cb_nc,cb_cn,cb_nn]; omega
 | [],y :: b,z :: c=>by unfold Tri; rw [cb_nc,cb_nc]; omega
 | _ :: _,[],[]=>by unfold Tri; rw [cb_cn,cb_nn]; omega
 | _ :: _,[],_ :: _=>by unfold Tri; rw [cb_cn,cb_nc]; omega
 | x :: a,y :: b,[]=>by unfold Tri; rw [cb_cn,cb_cn]; omega
 | x :: a,y :: b,z :: c=>by
  rw [cb_cc,cb_cc,cb_cc]
  exact (Ver.tri_sgn _ _ _).or (cb_tri a b c)
theorem cb_self (a:Bs):Lib.compareBytes a a = 0:=by have:=cb_turn a a; omega
def One (p:Int):Prop:=p = -1 ∨ p = 0 ∨ p = 1
theorem one_sgn (x y:Int):One (sgn x y):=by
 unfold sgn One
 repeat' split
 all_goals simp
theorem One.or {p q:Int} (h:One p) (k:One q):One (orr p q):=by
 unfold orr
 split
 ·exact h
 ·exact k
theorem one_cb:∀ a b:Bs,One (Lib.compareBytes a b)
 | [],[]=>.inr (.inl rfl)
 | [],_ :: _=>.inl rfl
 | _ :: _,[]=>.inr (.inr rfl)
 | x :: a,y :: b=>by rw [cb_cc]; exact (one_sgn _ _).or (one_cb a b)
structure Et where
 pk:Pk
 u1:Value
 u2:Value
 u3:Value
 u4:Value
 u5:Value
 u6:Value
 cfg:Bool
 hld:Bool
 tg:Nat
 sl:∀ u ∈ [u1,u2,u3,u4,u5,u6],∃ a n c,u = Value.slice a n c
def Et.enc (x:Et):List Value:=[.string (S x.pk.nm),.string (S x.pk.vs),x.u1,x.u2,x.u3,x.u4,x.u5,x.u6,.bool x.pk.ess,.bool x.cfg,.bool x.hld]
def cfE (x y:Et):Int:=Lib.compareBytes x.pk.nm y.pk.nm
instance:Inhabited Et:=⟨⟨nPk,.slice none 0 0,.slice none 0 0,.slice none 0 0,.slice none 0 0,.slice none 0 0,.slice none 0 0,false,false,0,(fun u hu=>by simp at hu; exact ⟨none,0,0,hu⟩)⟩⟩
theorem Et.one (x:Et):∀ v ∈ x.enc,v.oneCell' = true:=by
 intro v hv
 have h:=x.sl
 unfold Et.enc at hv
 simp only [List.mem_cons,List.not_mem_nil,or_false] at hv
 have key:∀ u,u ∈ [x.u1,x.u2,x.u3,x.u4,x.u5,x.u6] → u.oneCell' = true:=fun u hu=>by obtain ⟨a,n,c,rfl⟩:=h u hu; rfl
 rcases hv with rfl | rfl | rfl | rfl | rfl | rfl | rfl | rfl | rfl | rfl | rfl
 ·rfl
 ·rfl
 ·exact key _ (by simp)
 ·exact key _ (by simp)
 ·exact key _ (by simp)
 ·exact key _ (by simp)
 ·exact key _ (by simp)
 ·exact key _ (by simp)
 ·rfl
 ·rfl
 ·rfl
theorem swoE:Sort.SWO (ltOf cfE):=by
 refine ⟨fun x=>?_,fun x y z h1 h2=>?_,fun x y z h1 h2=>?_⟩
 ·have:=cb_self x.pk.nm
  unfold ltOf cfE; rw [this]; rfl
 ·have t:=cb_tri x.pk.nm y.pk.nm z.pk.nm
  have a1:=one_cb x.pk.nm y.pk.nm
  have a2:=one_cb y.pk.nm z.pk.nm
  unfold ltOf cfE at *
  rw [decide_eq_true_eq] at *
  unfold Tri One at *
  omega
 ·have t:=cb_tri x.pk.nm y.pk.nm z.pk.nm
  have a1:=one_cb x.pk.nm y.pk.nm
  have a2:=one_cb y.pk.nm z.pk.nm
  unfold ltOf cfE at *
  rw [decide_eq_false_iff_not] at *
  unfold Tri One at *
  omega
set_option maxRecDepth 100000 in
set_option maxHeartbeats 4000000 in
theorem cmpE_gb (x y:Et) (w:World) :
  Calls Tryz.prog 29 #[.agg x.enc.toArray,.agg y.enc.toArray] w fun e w'=>e = .returned (.int .i64 (cfE x y)) ∧ ∃ q os,w' = Sort.grow (w.drewN q) os:=by
 obtain ⟨p,u1,u2,u3,u4,u5,u6,pc,ph,pt,hu⟩:=x
 obtain ⟨q,y1,y2,y3,y4,y5,y6,qc,qh,qt,hy⟩:=y
 unfold Et.enc cfE
 simp only
 obtain ⟨s1,m1,t1,e1⟩:=hu u1 (by simp)
 obtain ⟨s2,m2,t2,e2⟩:=hu u2 (by simp)
 obtain ⟨s3,m3,t3,e3⟩:=hu u3 (by simp)
 obtain ⟨s4,m4,t4,e4⟩:=hu u4 (by simp)
 obtain ⟨s5,m5,t5,e5⟩:=hu u5 (by simp)
 obtain ⟨s6,m6,t6,e6⟩:=hu u6 (by simp)
 obtain ⟨s7,m7,t7,e7⟩:=hy y1 (by simp)
 obtain ⟨s8,m8,t8,e8⟩:=hy y2 (by simp)
 obtain ⟨s9,m9,t9,e9⟩:=hy y3 (by simp)
 obtain ⟨sa,ma,ta,ea⟩:=hy y4 (by simp)
 obtain ⟨sb,mb,tb,eb⟩:=hy y5 (by simp)
 obtain ⟨sc,mc,tc,ec⟩:=hy y6 (by simp)
 subst e1 e2 e3 e4 e5 e6 e7 e8 e9 ea eb ec
 obtain ⟨cs,hcs⟩:∃ cs:Array Value,cs = #[.string (S p.nm),.string (S p.vs),.slice s1 m1 t1,.slice s2 m2 t2,.slice s3 m3 t3,.slice s4 m4 t4,.slice s5 m5 t5,.slice s6 m6 t6,.bool p.ess,.bool pc,.bool ph]:=⟨_,rfl⟩
 obtain ⟨ds,hds⟩:∃ ds:Array Value,ds = #[.string (S q.nm),.string (S q.vs),.slice s7 m7 t7,.slice s8 m8 t8,.slice s9 m9 t9,.slice sa ma ta,.slice sb mb tb,.slice sc mc tc,.bool q.ess,.bool qc,.bool qh]:=⟨_,rfl⟩
 have i1:=(Blk.Is.new w 45 cs).alloc (.cells ds 45)
 have i2:=Blk.Is.new (w.alloc (.cells cs 45)) 45 ds
 have hsz:(w.alloc (.cells cs 45)).heap.size = w.heap.size + 1:=by simp
 rw [hsz] at i2
 have hb:∃ q os,(w.alloc (.cells cs 45)).alloc (.cells ds 45) = Sort.grow (w.drewN q) os:=⟨0,#[.cells cs 45,.cells ds 45],by
  show ({ w with heap:=(w.heap.push _).push _ }:World) = { w with heap:=w.heap ++ #[_,_] }
  congr 1⟩
 have c0:((w.alloc (.cells cs 45)).alloc (.cells ds 45)).cell? ⟨w.heap.size,0,none⟩ = some (.string (S p.nm)):=i1.at (i:=0) (by rw [hcs]; rfl)
 have d0:((w.alloc (.cells cs 45)).alloc (.cells ds 45)).cell? ⟨w.heap.size + 1,0,none⟩ = some (.string (S q.nm)):=i2.at (i:=0) (by rw [hds]; rfl)
 rw [hcs,hds] at c0 d0 hb
 obtain ⟨W,hW⟩:∃ W,(w.alloc (.cells #[.string (S p.nm),.string (S p.vs),.slice s1 m1 t1,.slice s2 m2 t2,.slice s3 m3 t3,.slice s4 m4 t4,.slice s5 m5 t5,.slice s6 m6 t6,.bool p.ess,.bool pc,.bool ph] 45)).alloc (.cells #[.string (S q.nm),.string (S q.vs),.slice s7 m7 t7,.slice s8 m8 t8,.slice s9 m9 t9,.slice sa ma ta,.slice sb mb tb,.slice sc mc tc,.bool q.ess,.bool qc,.bool qh] 45) = W:=⟨_,rfl⟩
 rw [hW] at c0 d0 hb
 have HB:=Lib.hid hb
 clear i1 i2 hsz hb hu hy hcs hds cs ds
 go_enter Tryz.func29,Tryz.ntmps29
 go_wp2_with fail
 have cx:=Tryz.strings_Compare (S p.nm) (S q.nm) W
 rw [show (S p.nm).data.toList = p.nm from S_li _,show (S q.nm).data.toList = q.nm from S_li _] at cx
 refine cx.mono ?_
 rintro e u1 ⟨rfl,rfl⟩
 go_wp2_with fail
 go_ret
 exact ⟨rfl,HB.out⟩
theorem cmpLaysE (blk off size:Nat) (w:World):CmpLays Tryz.prog 29 #[] Et.enc 11 cfE blk off size w:=fun m os dk hd x y=>cmpE_gb x y _
set_option maxRecDepth 100000 in
set_option maxHeartbeats 4000000 in
theorem sortStable_any (blk off cap n:Nat) (d:Array Et) (w:World) (hH:HoldsK Et.enc 11 w blk off d) (hb:blk < w.heap.size) (hs:d.size = n) (hn:n < 40) (ht:∀ k l,k < l → l < n → (d[k]!).tg < (d[l]!).tg) :
  Calls Tryz.prog 28 #[.slice (some ⟨blk,off,none⟩) n cap,.func (.func 29) #[] #[]] w fun e w'=>e = .returned (.tuple #[]) ∧ ∃ d',SWK Et.enc 11 w blk off d' w' ∧ Sort.PermIn 0 n d d' ∧ Rise (ltOf cfE) Et.tg 0 n d':=by
 have eg:∀ args w,(callFunc 29 args).run Tryz.prog w = .ok (.enter 29 args) w:=enters_of Tryz.func29 (by kernel_rfl) rfl
 have hc:=stable_any Et.enc cfE swoE Et.tg 29 #[] blk off cap n d w eg (cmpLaysE _ _ _ _) ⟨fun _=>rfl,Et.one,hH,hb⟩ hs hn ht
 clear eg hH hb hs hn ht
 go_enter Tryz.func28,Tryz.ntmps28
 go_wp2_with fail
 refine hc.mono ?_
 rintro e w1 ⟨rfl,d1,h1,h2,h3⟩
 go_wp2_with fail
 go_end0
 exact ⟨rfl,d1,h1,h2,h3⟩
end Sa
end Go.Proofs.YtgpcilepkmckeaaGreatDoor
namespace Go.Proofs.YtgpcilepkmckeaaGreatDoor
open Go.RowKit
set_option linter.unusedSimpArgs false
set_option linter.unusedVariables false
namespace Ix
open Rl (isV)
open Rc (Pk)
structure El where
 pk:Pk
 u1:Value
 u2:Value
 u3:Value
 u4:Value
 u5:Value
 u6:Value
 sl:∀ u ∈ [u1,u2,u3,u4,u5,u6],∃ a n c,u = Value.slice a n c
 ver:isV pk.vs = true
 nm:pk.nm.length ≤ 140737488351232
 vs:pk.vs.length ≤ 140737488351232
instance:Inhabited El:=⟨⟨[],[49],[],[],[],[],[],[],false⟩,.slice none 0 0,.slice none 0 0,.slice none 0 0,.slice none 0 0,.slice none 0 0,.slice none 0 0,(fun u hu=>by simp at hu; exact ⟨none,0,0,hu⟩),by decide +kernel,by simp,by simp⟩
end Ix
end Go.Proofs.YtgpcilepkmckeaaGreatDoor
namespace Go.Proofs.YtgpcilepkmckeaaGreatDoor
open Go.RowKit
set_option linter.unusedSimpArgs false
set_option linter.unusedVariables false
namespace Ix
open Rl (At Ats Clss Slc)
theorem choose_list {α:Type} {P:Nat → α → Prop}:∀ n:Nat,(∀ i,i < n → ∃ x,P i x) → ∃ l:List α,l.length = n ∧ ∀ i x,l[i]? = some x → P i x
 | 0,_=>⟨[],rfl,fun i x h=>by simp at h⟩
 | n + 1,h=>by
  obtain ⟨l,h1,h2⟩:=choose_list n fun i hi=>h i (by omega)
  obtain ⟨y,hy⟩:=h n (by omega)
  refine ⟨l ++ [y],by simp [h1],fun i x hx=>?_⟩
  by_cases hi:i < l.length
  ·rw [List.getElem?_append_left hi] at hx
   exact h2 i x hx
  ·rw [List.getElem?_append_right (by omega)] at hx
   have:i = n:=by
    by_cases e:i - l.length = 0
    ·omega
    ·rw [List.getElem?_eq_none (by simp; omega)] at hx; cases hx
   subst this
   rw [h1,Nat.sub_self] at hx
   simp at hx
   subst hx
   exact hy
theorem get_getD {α:Type} {l:List α} {i:Nat} {x:α} (h:l[i]? = some x) (z:α):l.getD i z = x:=by rw [List.getD_eq_getElem?_getD,h]; rfl
abbrev Sl:Type:={ u:Value // u.oneCell' = true }
def SlAt (w:World) (k o:Nat) (x:Sl):Prop:=w.cell? ⟨k,o,none⟩ = some x.1
theorem sls_of {w:World} {v:Value} {l:List (List At)} (h:Clss w v l):∃ d:List Sl,d.length = l.length ∧ Slc 1 ⟨.slice none 0 0,rfl⟩ SlAt w v d ∧ ∀ i x,d[i]? = some x → Ats w x.1 (l.getD i []):=by
 obtain ⟨h0,a,cap,h1,h2,h3⟩:=h
 by_cases hl:0 < l.length
 ·obtain ⟨k,off,rfl,hat⟩:=h3 hl
  obtain ⟨d,d1,d2⟩:=choose_list (P:=fun i (x:Sl)=>SlAt w k (off + 1 * i) x ∧ Ats w x.1 (l.getD i [])) l.length (fun i hi=>by
   obtain ⟨u,c1,c2⟩:=hat i hi
   refine ⟨⟨u,?_⟩,c1,c2⟩
   obtain ⟨a,c,e⟩:=c2.shape
   rw [e]; rfl)
  refine ⟨d,d1,⟨by omega,_,cap,by rw [d1]; exact h1,by omega,fun _=>⟨k,off,rfl,fun i hi=>?_⟩⟩,fun i x hx=>(d2 i x hx).2⟩
  obtain ⟨x,hx⟩:∃ x,d[i]? = some x:=⟨d[i],List.getElem?_eq_getElem hi⟩
  rw [get_getD hx]
  exact (d2 i x hx).1
 ·have:l = []:=List.eq_nil_of_length_eq_zero (by omega)
  subst this
  exact ⟨[],rfl,⟨by simp,a,cap,h1,h2,fun h=>absurd h (by simp)⟩,fun i x hx=>by simp at hx⟩
end Ix
end Go.Proofs.YtgpcilepkmckeaaGreatDoor
namespace Go.Proofs.YtgpcilepkmckeaaGreatDoor
open Go.RowKit
set_option linter.unusedSimpArgs false
set_option linter.unusedVariables false
namespace Va
theorem lt_cell {w:World} {p:Addr} {v:Value} (h:w.cell? p = some v):p.block < w.heap.size:=by
 unfold World.cell? at h
 cases hb:w.heap[p.block]? with
 | none=>rw [hb] at h; cases h
 | some x=>exact (Array.getElem?_eq_some_iff.1 hb).1
end Va
end Go.Proofs.YtgpcilepkmckeaaGreatDoor
namespace Go.Proofs.YtgpcilepkmckeaaGreatDoor
open Go.RowKit
set_option linter.unusedSimpArgs false
set_option linter.unusedVariables false
namespace Va
end Va
end Go.Proofs.YtgpcilepkmckeaaGreatDoor
namespace Go.Proofs.YtgpcilepkmckeaaGreatDoor
open Go.RowKit
set_option linter.unusedSimpArgs false
set_option linter.unusedVariables false
namespace Va
end Va
end Go.Proofs.YtgpcilepkmckeaaGreatDoor
namespace Go.Proofs.YtgpcilepkmckeaaGreatDoor
open Go.RowKit
set_option linter.unusedSimpArgs false
set_option linter.unusedVariables false
namespace Va
end Va
end Go.Proofs.YtgpcilepkmckeaaGreatDoor
namespace Go.Proofs.YtgpcilepkmckeaaGreatDoor
open Go.RowKit
set_option linter.unusedSimpArgs false
set_option linter.unusedVariables false
namespace Va
end Va
end Go.Proofs.YtgpcilepkmckeaaGreatDoor
namespace Go.Proofs.YtgpcilepkmckeaaGreatDoor
open Go.RowKit
set_option linter.unusedSimpArgs false
set_option linter.unusedVariables false
namespace Va
end Va
end Go.Proofs.YtgpcilepkmckeaaGreatDoor

/-
What is told of lists and packages in memory holds as long as the cells do. The order of packages: texts in order, packages in order; order: its answer, and that it takes no draw back.
-/
import Derived.Test.YtmhpjjjjgakpiaaGreatDoorDIxMap
import Derived.Test.YtmhpjjjjgakpiaaGreatDoorDTextTexts
import Derived.Test.YtmhpjjjjgakpiaaGreatDoorShelfSort
import Derived.OrdersHeld
namespace Go.Proofs.YtmhpjjjjgakpiaaGreatDoor
open Go.RowKit
set_option linter.unusedSimpArgs false
set_option linter.unusedVariables false
namespace Ix
open Rl (At Pv Ats Pvs Clss Slc AtAt PvAt ClAt)
open Rc (Pk PkC Pks Has CAt)
def Kp (w u:World):Prop:=∀ p v,w.cell? p = some v → u.cell? p = some v
theorem Kp.refl (w:World):Kp w w:=fun _ _ h=>h
theorem Kp.trans {a b c:World} (h:Kp a b) (k:Kp b c):Kp a c:=fun p v hv=>k p v (h p v hv)
theorem Kp.below {w u:World} (h:Below w.heap.size w u):Kp w u:=fun p v hv=>Rl.cell_on hv h
theorem Kp.maps {w u:World} {Q:Nat → Prop} (h:Blk.Chg Q w u) (hm:∀ k,k < w.heap.size → Q k → ∃ es c,w.heap[k]? = some (.map es c)):Kp w u:=fun p v hv=>by
 have hl:=Ver.lt_cell hv
 by_cases hq:Q p.block
 ·obtain ⟨es,c,e⟩:=hm _ hl hq
  unfold World.cell? at hv
  rw [e] at hv
  cases hv
 ·rw [World.cell?_of_block (h.block _ hl hq)]
  exact hv
theorem slc_kp {α:Type} {sz:Nat} {z:α} {P:World → Nat → Nat → α → Prop} {w u:World} (hP:∀ k o x,P w k o x → P u k o x) {v:Value} {l:List α} (h:Slc sz z P w v l):Slc sz z P u v l:=by
 obtain ⟨h0,a,cap,h1,h2,h3⟩:=h
 refine ⟨h0,a,cap,h1,h2,fun hl=>?_⟩
 obtain ⟨k,off,h4,h5⟩:=h3 hl
 exact ⟨k,off,h4,fun i hi=>hP _ _ _ (h5 i hi)⟩
theorem Kp.ats {w u:World} (h:Kp w u) {v:Value} {l:List At} (k:Ats w v l):Ats u v l:=slc_kp (P:=AtAt) (fun _ _ _ ⟨a,b,c⟩=>⟨h _ _ a,h _ _ b,h _ _ c⟩) k
theorem Kp.pvs {w u:World} (h:Kp w u) {v:Value} {l:List Pv} (k:Pvs w v l):Pvs u v l:=slc_kp (P:=PvAt) (fun _ _ _ ⟨a,b⟩=>⟨h _ _ a,h _ _ b⟩) k
theorem Kp.clss {w u:World} (h:Kp w u) {v:Value} {l:List (List At)} (k:Clss w v l):Clss u v l:=slc_kp (P:=ClAt) (fun _ _ _ ⟨x,a,b⟩=>⟨x,h _ _ a,h.ats b⟩) k
theorem Kp.has {w u:World} (h:Kp w u) {p:Pk} {u1 u2 u3 u4 u5 u6:Value} (k:Has w p u1 u2 u3 u4 u5 u6):Has u p u1 u2 u3 u4 u5 u6 :=
 ⟨h.clss k.pre,h.clss k.dep,h.clss k.rcm,h.ats k.con,h.ats k.brk,h.pvs k.prv⟩
theorem Kp.pkc {w u:World} (h:Kp w u) {cs:List Value} {p:Pk} (k:PkC w cs p):PkC u cs p:=by
 obtain ⟨u1,u2,u3,u4,u5,u6,e,hh⟩:=k
 exact ⟨u1,u2,u3,u4,u5,u6,e,h.has hh⟩
theorem Kp.pks {w u:World} (h:Kp w u) {v:Value} {l:List Pk} (k:Pks w v l):Pks u v l:=slc_kp (P:=CAt PkC) (fun _ _ _ ⟨cs,a,b⟩=>⟨cs,h.pkc a,fun j y hj=>h _ _ (b j y hj)⟩) k
end Ix
end Go.Proofs.YtmhpjjjjgakpiaaGreatDoor
namespace Go.Proofs.YtmhpjjjjgakpiaaGreatDoor
open Go.RowKit
set_option linter.unusedSimpArgs false
set_option linter.unusedVariables false
namespace Ix
open Ver (Bs S S_size S_li cmpV orr sgn Tri Gb parse)
open Rl (isV)
open Rc (Pk)
/-! ### texts in order -/
theorem cb_cc (x y:UInt8) (a b:Bs):Lib.compareBytes (x :: a) (y :: b) = orr (sgn (x.toNat:Int) (y.toNat:Int)) (Lib.compareBytes a b):=by
 have e:Lib.compareBytes (x :: a) (y :: b) = if x < y then -1 else if y < x then 1 else Lib.compareBytes a b:=rfl
 rw [e]
 unfold orr sgn
 by_cases h1:x < y
 ·have h1':(x.toNat:Int) < y.toNat:=by exact_mod_cast UInt8.lt_iff_toNat_lt.1 h1
  rw [if_pos h1,if_pos h1']; simp
 ·have h1':¬ (x.toNat:Int) < y.toNat:=fun h=>h1 (UInt8.lt_iff_toNat_lt.2 (by exact_mod_cast h))
  rw [if_neg h1,if_neg h1']
  by_cases h2:y < x
  ·have h2':(y.toNat:Int) < x.toNat:=by exact_mod_cast UInt8.lt_iff_toNat_lt.1 h2
   rw [if_pos h2,if_pos h2']; simp
  ·have h2':¬ (y.toNat:Int) < x.toNat:=fun h=>h2 (UInt8.lt_iff_toNat_lt.2 (by exact_mod_cast h))
   rw [if_neg h2,if_neg h2']; simp
theorem cb_turn:∀ a b:Bs,Lib.compareBytes b a = - Lib.compareBytes a b
 | [],[]=>rfl
 | [],_ :: _=>rfl
 | _ :: _,[]=>rfl
 | x :: a,y :: b=>by rw [cb_cc,cb_cc,cb_turn a b,Ver.sgn_turn (x.toNat:Int) y.toNat,Ver.orr_turn]
theorem cb_nn:Lib.compareBytes [] [] = 0:=rfl
theorem cb_nc (y:UInt8) (b:Bs):Lib.compareBytes [] (y :: b) = -1:=rfl
theorem cb_cn (x:UInt8) (a:Bs):Lib.compareBytes (x :: a) [] = 1:=rfl
theorem cb_tri:∀ a b c:Bs,Tri (Lib.compareBytes a b) (Lib.compareBytes b c) (Lib.compareBytes a c)
 | [],[],[]=>by unfold Tri; rw [cb_nn]; omega
 | [],[],_ :: _=>by unfold Tri; rw [cb_nn,cb_nc]; omega
 | [],_ :: _,[]=>by unfold Tri; rw [cb_nc,cb_cn,cb_nn]; omega
 | [],y :: b,z :: c=>by unfold Tri; rw [cb_nc,cb_nc]; omega
 | _ :: _,[],[]=>by unfold Tri; rw [cb_cn,cb_nn]; omega
 | _ :: _,[],_ :: _=>by unfold Tri; rw [cb_cn,cb_nc]; omega
 | x :: a,y :: b,[]=>by unfold Tri; rw [cb_cn,cb_cn]; omega
 | x :: a,y :: b,z :: c=>by
  rw [cb_cc,cb_cc,cb_cc]
  exact (Ver.tri_sgn _ _ _).or (cb_tri a b c)
theorem cb_self (a:Bs):Lib.compareBytes a a = 0:=by have:=cb_turn a a; omega
theorem cb_zero:∀ {a b:Bs},Lib.compareBytes a b = 0 → a = b
 | [],[],_=>rfl
 | [],_ :: _,h=>by rw [cb_nc] at h; cases h
 | _ :: _,[],h=>by rw [cb_cn] at h; cases h
 | x :: a,y :: b,h=>by
  rw [cb_cc] at h
  by_cases hs:sgn (x.toNat:Int) y.toNat = 0
  ·rw [hs,Ver.orr_zero] at h
   rw [cb_zero h]
   congr 1
   unfold sgn at hs
   have:x.toNat = y.toNat:=by
    split at hs
    ·cases hs
    ·split at hs
     ·cases hs
     ·omega
   exact UInt8.toNat_inj.1 this
  ·unfold orr at h
   rw [if_pos hs] at h
   exact absurd h hs
/-! ### packages in order -/
theorem Tri.swap {p q r:Int} (h:Tri p q r):Tri q p r:=by unfold Tri at *; omega
theorem cmpP_turn (p q:Pk):cmpP q p = - cmpP p q:=by
 unfold cmpP
 rw [cb_turn p.nm q.nm,Ver.cmpV_turn q.vs p.vs,Ver.orr_turn]
theorem cmpP_self (p:Pk):cmpP p p = 0:=by have:=cmpP_turn p p; omega
theorem cmpP_tri {p q r:Pk} (hp:isV p.vs = true) (hq:isV q.vs = true) (hr:isV r.vs = true):Tri (cmpP p q) (cmpP q r) (cmpP p r) :=
 (cb_tri _ _ _).or (Tri.swap (Ver.cmpV_tri hr hq hp))
structure El where
 pk:Pk
 u1:Value
 u2:Value
 u3:Value
 u4:Value
 u5:Value
 u6:Value
 sl:∀ u ∈ [u1,u2,u3,u4,u5,u6],∃ a n c,u = Value.slice a n c
 ver:isV pk.vs = true
 nm:pk.nm.length ≤ 140737488351232
 vs:pk.vs.length ≤ 140737488351232
def El.enc (x:El):List Value:=[.string (S x.pk.nm),.string (S x.pk.vs),x.u1,x.u2,x.u3,x.u4,x.u5,x.u6,.bool x.pk.ess]
def cmpE (x y:El):Int:=cmpP x.pk y.pk
instance:Inhabited El:=⟨⟨[],[49],[],[],[],[],[],[],false⟩,.slice none 0 0,.slice none 0 0,.slice none 0 0,.slice none 0 0,.slice none 0 0,.slice none 0 0,(fun u hu=>by simp at hu; exact ⟨none,0,0,hu⟩),by decide +kernel,by simp,by simp⟩
theorem El.one (x:El):∀ v ∈ x.enc,v.oneCell' = true:=by
 intro v hv
 have h:=x.sl
 unfold El.enc at hv
 simp only [List.mem_cons,List.not_mem_nil,or_false] at hv
 have key:∀ u,u ∈ [x.u1,x.u2,x.u3,x.u4,x.u5,x.u6] → u.oneCell' = true:=fun u hu=>by obtain ⟨a,n,c,rfl⟩:=h u hu; rfl
 rcases hv with rfl | rfl | rfl | rfl | rfl | rfl | rfl | rfl | rfl
 ·rfl
 ·rfl
 ·exact key _ (by simp)
 ·exact key _ (by simp)
 ·exact key _ (by simp)
 ·exact key _ (by simp)
 ·exact key _ (by simp)
 ·exact key _ (by simp)
 ·rfl
def One (p:Int):Prop:=p = -1 ∨ p = 0 ∨ p = 1
theorem one_sgn (x y:Int):One (sgn x y):=by
 unfold sgn One
 repeat' split
 all_goals simp
theorem One.or {p q:Int} (h:One p) (k:One q):One (orr p q):=by
 unfold orr
 split
 ·exact h
 ·exact k
theorem one_lex:∀ x y:List Int,One (Ver.lex x y)
 | [],[]=>.inr (.inl rfl)
 | [],y :: ys=>(one_sgn _ _).or (one_lex [] ys)
 | x :: xs,[]=>(one_sgn _ _).or (one_lex xs [])
 | x :: xs,y :: ys=>(one_sgn _ _).or (one_lex xs ys)
theorem one_cmpV (a c:Bs):One (cmpV a c):=by
 unfold cmpV
 cases parse a with
 | none=>cases parse c <;> exact .inr (.inl rfl)
 | some p =>
  cases parse c with
  | none=>exact .inr (.inl rfl)
  | some q=>exact (one_lex _ _).or ((one_lex _ _).or (one_lex _ _))
theorem one_cb:∀ a b:Bs,One (Lib.compareBytes a b)
 | [],[]=>.inr (.inl rfl)
 | [],_ :: _=>.inl rfl
 | _ :: _,[]=>.inr (.inr rfl)
 | x :: a,y :: b=>by rw [cb_cc]; exact (one_sgn _ _).or (one_cb a b)
theorem one_cmpP (p q:Pk):One (cmpP p q):=(one_cb _ _).or (one_cmpV _ _)
theorem swo:Sort.SWO (ltOf cmpE):=by
 refine ⟨fun x=>?_,fun x y z h1 h2=>?_,fun x y z h1 h2=>?_⟩
 ·have:=cmpP_self x.pk
  unfold ltOf cmpE; rw [this]; rfl
 ·have t:=cmpP_tri x.ver y.ver z.ver
  have a1:=one_cmpP x.pk y.pk
  have a2:=one_cmpP y.pk z.pk
  unfold ltOf cmpE at *
  rw [decide_eq_true_eq] at *
  unfold Tri One at *
  omega
 ·have t:=cmpP_tri x.ver y.ver z.ver
  have a1:=one_cmpP x.pk y.pk
  have a2:=one_cmpP y.pk z.pk
  unfold ltOf cmpE at *
  rw [decide_eq_false_iff_not] at *
  unfold Tri One at *
  omega
/-! ### order -/
theorem gb_grow {w w':World} (h:Gb w.heap.size w w'):∃ q os,w' = Sort.grow (w.drewN q) os:=by
 obtain ⟨⟨h1,h2,h3,h4,h5⟩,h6⟩:=h
 refine ⟨w'.drawn - w.drawn,w'.heap.extract w.heap.size w'.heap.size,?_⟩
 obtain ⟨heap,tape,drawn,os,output⟩:=w'
 simp only at h1 h2 h3 h4 h5 h6
 subst h1 h2 h3
 unfold Sort.grow World.drewN
 simp only [World.mk.injEq,and_true,true_and]
 refine ⟨?_,by omega⟩
 apply Array.ext
 ·simp; omega
 ·intro i hi1 hi2
  by_cases hi:i < w.heap.size
  ·have:=h5 i hi
   rw [Array.getElem?_eq_getElem hi1,Array.getElem?_eq_getElem hi] at this
   rw [Array.getElem_append_left hi]
   exact Option.some.inj this
  ·rw [Array.getElem_append_right (by omega)]
   simp only [Array.getElem_extract]
   congr 1
   omega
set_option maxRecDepth 100000 in
set_option maxHeartbeats 4000000 in
theorem order_gb (p q:Pk) (u1 u2 u3 u4 u5 u6 y1 y2 y3 y4 y5 y6:Value) (w:World) (hp:p.vs.length ≤ 140737488351232) (hq:q.vs.length ≤ 140737488351232)
  (hu:∀ u ∈ [u1,u2,u3,u4,u5,u6],∃ a n c,u = Value.slice a n c) (hy:∀ u ∈ [y1,y2,y3,y4,y5,y6],∃ a n c,u = Value.slice a n c) (hm:Ver.MaxLen w) :
  Calls Tryz.prog 68 #[.agg #[.string (S p.nm),.string (S p.vs),u1,u2,u3,u4,u5,u6,.bool p.ess],.agg #[.string (S q.nm),.string (S q.vs),y1,y2,y3,y4,y5,y6,.bool q.ess]] w fun e w'=>e = .returned (.int .i64 (cmpP p q)) ∧ Gb w.heap.size w w':=by
 have hb1:=(Gb.refl w.heap.size w).alloc (Nat.le_refl _) (.cells #[.string (S p.nm),.string (S p.vs),u1,u2,u3,u4,u5,u6,.bool p.ess] 40)
 have i1:=Blk.Is.new w 40 #[.string (S p.nm),.string (S p.vs),u1,u2,u3,u4,u5,u6,.bool p.ess]
 have hb2:=hb1.alloc hb1.size (.cells #[.string (S q.nm),.string (S q.vs),y1,y2,y3,y4,y5,y6,.bool q.ess] 40)
 have i2:=Blk.Is.new (w.alloc (.cells #[.string (S p.nm),.string (S p.vs),u1,u2,u3,u4,u5,u6,.bool p.ess] 40)) 40 #[.string (S q.nm),.string (S q.vs),y1,y2,y3,y4,y5,y6,.bool q.ess]
 have i1':=i1.alloc (.cells #[.string (S q.nm),.string (S q.vs),y1,y2,y3,y4,y5,y6,.bool q.ess] 40)
 have hsz:(w.alloc (.cells #[.string (S p.nm),.string (S p.vs),u1,u2,u3,u4,u5,u6,.bool p.ess] 40)).heap.size = w.heap.size + 1:=by simp
 rw [hsz] at i2
 obtain ⟨W,hW⟩:∃ W,(w.alloc (.cells #[.string (S p.nm),.string (S p.vs),u1,u2,u3,u4,u5,u6,.bool p.ess] 40)).alloc (.cells #[.string (S q.nm),.string (S q.vs),y1,y2,y3,y4,y5,y6,.bool q.ess] 40) = W:=⟨_,rfl⟩
 rw [hW] at hb2 i1' i2
 have HV:=Lib.hid (hm.on hb2.toBelow)
 have C0:Hid (∀ u,Gb W.heap.size W u → u.cell? ⟨w.heap.size,0,none⟩ = some (.string (S p.nm))):=fun u hb=>Rl.cell_on (i1'.at (i:=0) rfl) hb.toBelow
 have C1:Hid (∀ u,Gb W.heap.size W u → u.cell? ⟨w.heap.size,1,none⟩ = some (.string (S p.vs))):=fun u hb=>Rl.cell_on (i1'.at (i:=1) rfl) hb.toBelow
 have D0:Hid (∀ u,Gb W.heap.size W u → u.cell? ⟨w.heap.size + 1,0,none⟩ = some (.string (S q.nm))):=fun u hb=>Rl.cell_on (i2.at (i:=0) rfl) hb.toBelow
 have D1:Hid (∀ u,Gb W.heap.size W u → u.cell? ⟨w.heap.size + 1,1,none⟩ = some (.string (S q.vs))):=fun u hb=>Rl.cell_on (i2.at (i:=1) rfl) hb.toBelow
 have HB2:=Lib.hid hb2
 obtain ⟨s1,m1,t1,e1⟩:=hu u1 (by simp)
 obtain ⟨s2,m2,t2,e2⟩:=hu u2 (by simp)
 obtain ⟨s3,m3,t3,e3⟩:=hu u3 (by simp)
 obtain ⟨s4,m4,t4,e4⟩:=hu u4 (by simp)
 obtain ⟨s5,m5,t5,e5⟩:=hu u5 (by simp)
 obtain ⟨s6,m6,t6,e6⟩:=hu u6 (by simp)
 obtain ⟨s7,m7,t7,e7⟩:=hy y1 (by simp)
 obtain ⟨s8,m8,t8,e8⟩:=hy y2 (by simp)
 obtain ⟨s9,m9,t9,e9⟩:=hy y3 (by simp)
 obtain ⟨sa,ma,ta,ea⟩:=hy y4 (by simp)
 obtain ⟨sb,mb,tb,eb⟩:=hy y5 (by simp)
 obtain ⟨sc,mc,tc,ec⟩:=hy y6 (by simp)
 subst e1 e2 e3 e4 e5 e6 e7 e8 e9 ea eb ec
 obtain ⟨R,hR⟩:∃ R,cmpP p q = R:=⟨_,rfl⟩
 have HO:Hid (orr (Lib.compareBytes p.nm q.nm) (cmpV q.vs p.vs) = R):=hR
 rw [hR]
 clear hb1 i1 hb2 i1' i2 hsz hm hu hy hR
 go_enter Tryz.func68,Tryz.ntmps68
 go_wp2_with fail
 clear hW
 refine wp_region_held (S:=fun u=>Gb W.heap.size W u) (by kernel_rfl) ?_
 have hS0:Gb W.heap.size W W.drew:=(Gb.refl _ _).drew
 change wpAnyH _ _ _ _ _ 13 _ _ W.drew
 generalize W.drew = u0 at *
 refine wpAnyH_take (i:=0) (v:=.pointer (some ⟨w.heap.size,0,none⟩)) rfl (by kernel_rfl) (by kernel_rfl) (by kernel_rfl) (fun _ _ _ h=>h) (.inl ⟨rfl,fun w _=>rfl⟩) hS0 ?_
 simp only [Act.put,List.getElem_toArray,List.getElem_cons_zero,List.getElem_cons_succ,List.setIfInBounds_toArray,List.set_cons_zero,List.set_cons_succ]
 refine wpAnyH_take (i:=1) (v:=.string (S p.nm)) rfl (by kernel_rfl) (by kernel_rfl) (by kernel_rfl) (fun _ _ _ h=>h) (Held.load1 rfl 9 (.tmp 5) rfl w.heap.size 0 rfl _ _ C0.out Tryz.underlying9 rfl) hS0 ?_
 simp only [Act.put,List.getElem_toArray,List.getElem_cons_zero,List.getElem_cons_succ,List.setIfInBounds_toArray,List.set_cons_zero,List.set_cons_succ]
 refine wpAnyH_take (i:=2) (v:=.pointer (some ⟨(w.heap.size + 1),0,none⟩)) rfl (by kernel_rfl) (by kernel_rfl) (by kernel_rfl) (fun _ _ _ h=>h) (.inl ⟨rfl,fun w _=>rfl⟩) hS0 ?_
 simp only [Act.put,List.getElem_toArray,List.getElem_cons_zero,List.getElem_cons_succ,List.setIfInBounds_toArray,List.set_cons_zero,List.set_cons_succ]
 refine wpAnyH_take (i:=3) (v:=.string (S q.nm)) rfl (by kernel_rfl) (by kernel_rfl) (by kernel_rfl) (fun _ _ _ h=>h) (Held.load1 rfl 9 (.tmp 7) rfl (w.heap.size + 1) 0 rfl _ _ D0.out Tryz.underlying9 rfl) hS0 ?_
 simp only [Act.put,List.getElem_toArray,List.getElem_cons_zero,List.getElem_cons_succ,List.setIfInBounds_toArray,List.set_cons_zero,List.set_cons_succ]
 refine wpAnyH_take (i:=5) (v:=.pointer (some ⟨(w.heap.size + 1),1,none⟩)) rfl (by kernel_rfl) (by kernel_rfl) (by kernel_rfl) (fun _ _ _ h=>h) (.inl ⟨rfl,fun w _=>rfl⟩) hS0 ?_
 simp only [Act.put,List.getElem_toArray,List.getElem_cons_zero,List.getElem_cons_succ,List.setIfInBounds_toArray,List.set_cons_zero,List.set_cons_succ]
 refine wpAnyH_take (i:=6) (v:=.string (S q.vs)) rfl (by kernel_rfl) (by kernel_rfl) (by kernel_rfl) (fun _ _ _ h=>h) (Held.load1 rfl 9 (.tmp 10) rfl (w.heap.size + 1) 1 rfl _ _ D1.out Tryz.underlying9 rfl) hS0 ?_
 simp only [Act.put,List.getElem_toArray,List.getElem_cons_zero,List.getElem_cons_succ,List.setIfInBounds_toArray,List.set_cons_zero,List.set_cons_succ]
 refine wpAnyH_take (i:=7) (v:=.pointer (some ⟨w.heap.size,1,none⟩)) rfl (by kernel_rfl) (by kernel_rfl) (by kernel_rfl) (fun _ _ _ h=>h) (.inl ⟨rfl,fun w _=>rfl⟩) hS0 ?_
 simp only [Act.put,List.getElem_toArray,List.getElem_cons_zero,List.getElem_cons_succ,List.setIfInBounds_toArray,List.set_cons_zero,List.set_cons_succ]
 refine wpAnyH_take (i:=8) (v:=.string (S p.vs)) rfl (by kernel_rfl) (by kernel_rfl) (by kernel_rfl) (fun _ _ _ h=>h) (Held.load1 rfl 9 (.tmp 12) rfl w.heap.size 1 rfl _ _ C1.out Tryz.underlying9 rfl) hS0 ?_
 simp only [Act.put,List.getElem_toArray,List.getElem_cons_zero,List.getElem_cons_succ,List.setIfInBounds_toArray,List.set_cons_zero,List.set_cons_succ]
 have cx:=Tryz.strings_Compare (S p.nm) (S q.nm) u0
 rw [show (S p.nm).data.toList = p.nm from S_li _,show (S q.nm).data.toList = q.nm from S_li _] at cx
 refine wpAnyH_all (rs:=[4]) (by kernel_rfl) (by simp) ?_
 intro i hi
 obtain rfl:=List.mem_singleton.1 hi
 refine Reg.wpOp_list rfl ?_
 go_wp2_with fail
 refine cx.mono ?_
 rintro e u1 ⟨rfl,rfl⟩
 go_wp2_with fail
 change _ ∧ _
 refine ⟨hS0,?_⟩
 clear cx
 have cx:=Ver.compare_gb (S q.vs) (S p.vs) u1 (by rw [S_size]; omega) (by rw [S_size]; omega) (HV.out.on hS0.toBelow)
 rw [S_li,S_li] at cx
 refine wpAnyH_all (rs:=[9]) (by kernel_rfl) (by simp) ?_
 intro i hi
 obtain rfl:=List.mem_singleton.1 hi
 refine Reg.wpOp_list rfl ?_
 go_wp2_with fail
 refine cx.mono ?_
 rintro e u2 ⟨rfl,k2⟩
 go_wp2_with fail
 change _ ∧ _
 have hS2:Gb W.heap.size W u2:=hS0.trans (k2.mono hS0.size)
 refine ⟨hS2,?_⟩
 clear cx
 generalize Lib.compareBytes p.nm q.nm = r1 at *
 generalize cmpV q.vs p.vs = r2 at *
 have hSL:Gb u2.heap.size u2 (u2.alloc (.cells #[.int .i64 r1,.int .i64 r2] 3)):=(Gb.refl _ _).alloc (Nat.le_refl _) _
 have iSL:=Blk.Is.new u2 3 #[.int .i64 r1,.int .i64 r2]
 have hS7:=hS2.trans (hSL.mono hS2.size)
 refine wpAnyH_all (rs:=[10]) (by kernel_rfl) (by simp) ?_
 intro i hi
 obtain rfl:=List.mem_singleton.1 hi
 refine Reg.wpOp_list rfl ?_
 go_wp2_with fail
 change _ ∧ _
 refine ⟨hS7,?_⟩
 have cx:=Ver.cmpOr_any [r1,r2] u2.heap.size _ (by simp) (fun i hi=>by
  match i,hi with
  | 0,_=>exact iSL.at (i:=0) rfl
  | 1,_=>exact iSL.at (i:=1) rfl)
 have e:Ver.orl [r1,r2] = orr r1 r2:=by
  show orr r1 (orr r2 0) = _
  unfold orr; (repeat' split) <;> omega
 rw [e,HO.out] at cx
 clear iSL hSL e
 generalize (u2.alloc (.cells #[.int .i64 r1,.int .i64 r2] 3)) = u7 at *
 refine wpAnyH_all (rs:=[11]) (by kernel_rfl) (by simp) ?_
 intro i hi
 obtain rfl:=List.mem_singleton.1 hi
 refine Reg.wpOp_list rfl ?_
 go_wp2_with fail
 refine cx.mono ?_
 rintro e u8 ⟨rfl,rfl⟩
 go_wp2_with fail
 change _ ∧ _
 refine ⟨hS7,?_⟩
 clear cx
 refine wpAnyH_all (rs:=[12]) (by kernel_rfl) (by simp) ?_
 intro i hi
 obtain rfl:=List.mem_singleton.1 hi
 refine Reg.wpOp_list rfl ?_
 go_wp2_with fail
 change _ ∧ _
 refine ⟨hS7,?_⟩
 refine wpAnyH_done (by kernel_rfl) ?_ _
 have hK:=HB2.out.trans (hS7.mono HB2.out.size)
 go_wp2_with fail
 go_ret
 exact ⟨rfl,hK⟩
theorem cmpLays (blk off size:Nat) (w:World) (hm:Ver.MaxLen w) (hne:1 ≠ blk):CmpLays Tryz.prog 68 #[] El.enc 9 cmpE blk off size w:=by
 intro m os dk hd x y
 have hM:Ver.MaxLen (sortWorldK El.enc 9 w blk off m dk os):=by
  obtain ⟨v,hv⟩:=hm
  refine ⟨v,?_⟩
  unfold sortWorldK
  rw [Sort.cell?_grow _ _ _ (by rw [Sort.size_putRowK]; exact Ver.lt_cell hv),Sort.cell?_putRowK_other _ _ _ _ _ _ _ hne]
  exact hv
 refine (order_gb x.pk y.pk _ _ _ _ _ _ _ _ _ _ _ _ _ x.vs y.vs x.sl y.sl hM).mono fun e w' h=>⟨h.1,gb_grow h.2⟩
end Ix
end Go.Proofs.YtmhpjjjjgakpiaaGreatDoor

/-
How an atom is written: Atom, and the reference's MayAtom and Atom. The reference's MayAtom and Atom. The reader of package relation: an atom. Rows of the call's own: where they lie, their cells; append of one element. readList of atoms. The reader of package relation: a clause, what is provided. readList of what is provided. readList of clauses. Atoms, clauses, provides in memory, read alone. A region that draws its order: whatever class of worlds its first operations keep, its last ones in the order of the text. No program is named here.
-/
import Derived.Test.YtmhpjjjjgakpiaaGreatDoorDVerRefParse
import Derived.Test.YtmhpjjjjgakpiaaGreatDoorDRelDef
import Derived.Test.YtmhpjjjjgakpiaaGreatDoorDVerRefCompare
import Derived.Laws.Concat
import Derived.Test.YtmhpjjjjgakpiaaGreatDoorDTextUtf
import Derived.StillTail
import Derived.BigQuiet
import Derived.Deep.MidRow
import Derived.Below
namespace Go.Proofs.YtmhpjjjjgakpiaaGreatDoor
open Go.RowKit
set_option linter.unusedSimpArgs false
set_option linter.unusedVariables false
namespace Rl
open Ver (Bs S S_size S_li)
end Rl
end Go.Proofs.YtmhpjjjjgakpiaaGreatDoor
namespace Go.Proofs.YtmhpjjjjgakpiaaGreatDoor
open Go.RowKit
set_option linter.unusedSimpArgs false
set_option linter.unusedVariables false
namespace Rl
open Ver (Bs S S_size S_li)
theorem yname_any (n:Bs) (w:World) (hs:n.length ≤ 4611686018427387904) :
  Calls Tryz.prog 52 #[.string (S n)] w fun e w'=>e = .returned (.bool (nmB n)) ∧ w' = w:=by
 have c:=Txt.yname_any (S n) w (by rw [S_size]; omega)
 rwa [name_is,S_li] at c
theorem yis_any (v:Bs) (w:World) (hs:v.length ≤ 4611686018427387904) :
  Calls Tryz.prog 46 #[.string (S v)] w fun e w'=>e = .returned (.bool (isV v)) ∧ Below w.heap.size w w':=by
 have c:=Ver.yis_any (S v) w (by rw [S_size]; omega)
 rwa [S_li] at c
theorem ysign_any (r:Int) (w:World):Calls Tryz.prog 81 #[.int .i64 r] w fun e w'=>e = .returned (.string (S (sgnN r))) ∧ w' = w:=by
 have c:=Ver.ysignS_any r w
 rwa [sgn_S] at c
theorem sgn_empty (r:Int):(S (sgnN r)).toList.isEmpty = !decide (1 ≤ r ∧ r ≤ 5):=by
 rw [isEmpty_S]
 by_cases h:1 ≤ r ∧ r ≤ 5
 ·rw [decide_eq_true h]; have:=sgn_ne h; cases hs:sgnN r with
  | nil=>exact absurd hs this
  | cons c t=>rfl
 ·rw [decide_eq_false h,sgn_no h]; rfl
set_option maxRecDepth 100000 in
set_option maxHeartbeats 1000000 in
theorem ymayAtom_any (a:At) (w:World) (h1:a.1.length ≤ 4611686018427387904) (h2:a.2.2.length ≤ 4611686018427387904) :
  Calls Tryz.prog 50 #[aV a] w fun e w'=>e = .returned (.bool (may a)) ∧ Below w.heap.size w w':=by
 obtain ⟨n,r,v⟩:=a
 unfold aV
 simp only at h1 h2 ⊢
 have cn:=fun w=>yname_any n w h1
 by_cases hr:r = 0
 ·subst hr
  have hm:may (n,0,v) = (nmB n && v.isEmpty):=by unfold may; simp
  rw [hm]
  have he:=isEmpty_S v
  generalize nmB n = g at *
  generalize v.isEmpty = d at *
  generalize S n = x at *
  generalize S v = y at *
  clear hm
  cases g <;> cases d
  all_goals
   have hb0:=Blk.Is.new w 54 #[.string x,.int .i64 0,.string y]
   have hB0:Below w.heap.size w (w.alloc (.cells #[.string x,.int .i64 0,.string y] 54)):=(Below.refl _ _).alloc (Nat.le_refl _) _
   obtain ⟨c0,c1,c2⟩:=cells3 hb0
   clear hb0
   go_enter Tryz.func50,Tryz.ntmps50
   go_wp2_with fail
   generalize w.alloc (.cells #[.string x,.int .i64 0,.string y] 54) = W at *
   refine (cn _).mono ?_
   rintro e w1 ⟨rfl,rfl⟩
   go_wp2_with fail
   go_ret
   exact ⟨rfl,hB0⟩
 ·have hm:may (n,r,v) = (nmB n && (decide (1 ≤ r ∧ r ≤ 5) && isV v)):=by unfold may; simp only; rw [if_neg hr]
  rw [hm]
  have cv:=fun w=>yis_any v w h2
  have cg:=fun w=>ysign_any r w
  have he:=sgn_empty r
  generalize isV v = m at *
  generalize decide (1 ≤ r ∧ r ≤ 5) = d at *
  generalize nmB n = g at *
  generalize S (sgnN r) = sg at *
  generalize S n = x at *
  generalize S v = y at *
  clear hm
  have hr0:(r == 0) = false:=by simpa using hr
  have hb0:=Blk.Is.new w 54 #[.string x,.int .i64 r,.string y]
  have hB0:Below w.heap.size w (w.alloc (.cells #[.string x,.int .i64 r,.string y] 54)):=(Below.refl _ _).alloc (Nat.le_refl _) _
  obtain ⟨c0,c1,c2⟩:=cells3 hb0
  clear hb0
  cases g
  ·go_enter Tryz.func50,Tryz.ntmps50
   go_wp2_with fail
   generalize w.alloc (.cells #[.string x,.int .i64 r,.string y] 54) = W at *
   refine (cn _).mono ?_
   rintro e w1 ⟨rfl,rfl⟩
   go_wp2_with fail
   go_ret
   exact ⟨rfl,hB0⟩
  ·cases d
   ·simp only [Bool.not_false] at he
    go_enter Tryz.func50,Tryz.ntmps50
    go_wp2_with fail
    generalize w.alloc (.cells #[.string x,.int .i64 r,.string y] 54) = W at *
    refine (cn _).mono ?_
    rintro e w1 ⟨rfl,rfl⟩
    go_wp2_with fail
    refine (cg _).mono ?_
    rintro e w2 ⟨rfl,rfl⟩
    go_wp2_with fail
    go_ret
    exact ⟨rfl,hB0⟩
   ·simp only [Bool.not_true] at he
    cases m
    all_goals
     go_enter Tryz.func50,Tryz.ntmps50
     go_wp2_with fail
     generalize w.alloc (.cells #[.string x,.int .i64 r,.string y] 54) = W at *
     refine (cn _).mono ?_
     rintro e w1 ⟨rfl,rfl⟩
     go_wp2_with fail
     refine (cg _).mono ?_
     rintro e w2 ⟨rfl,rfl⟩
     go_wp2_with fail
     refine (cv _).mono ?_
     rintro e w3 ⟨rfl,k3⟩
     have k3':=hB0.trans (k3.mono hB0.size)
     go_wp2_with fail
     go_ret
     exact ⟨rfl,k3'⟩
end Rl
end Go.Proofs.YtmhpjjjjgakpiaaGreatDoor
namespace Go.Proofs.YtmhpjjjjgakpiaaGreatDoor
open Go.RowKit
set_option linter.unusedSimpArgs false
set_option linter.unusedVariables false
namespace Rl
def Off (p:Nat):Prop:=p ≠ 1 ∧ p ≠ 0
theorem Vars.one {w w':World} {p:Nat} (h:Vars w) (hc:Blk.Chg (fun k=>k = p) w w') (hp:Off p):Vars w':=h.chg hc (fun e=>hp.1 e.symm) fun e=>hp.2 e.symm
theorem Vars.off {w:World} (h:Vars w) {b:Nat} (hb:w.heap.size ≤ b):Off b:=by
 have h1:=h.maxLen.lt
 have h2:=Ver.lt_cell (h.signs 0 (by omega))
 have h3:0 < w.heap.size:=h2
 exact ⟨by omega,by omega⟩
end Rl
end Go.Proofs.YtmhpjjjjgakpiaaGreatDoor
namespace Go.Proofs.YtmhpjjjjgakpiaaGreatDoor
open Go.RowKit
set_option linter.unusedSimpArgs false
set_option linter.unusedVariables false
namespace Rl
section
variable {w w':World}
theorem own_lt {B:Nat} {e:TypeId} {sz:Nat} {v:Value} {n:Nat} {xs:List Value} (h:w.ownsRow B e sz v n xs) {k:Nat} (hk:v.ownBlock = some k):B ≤ k ∧ k < w.heap.size:=by
 rcases h.2 with ⟨rfl,_⟩ | ⟨g,cap,cur,rfl,hg,hh,_⟩
 ·cases hk
 ·simp only [Value.ownBlock,Option.some.injEq] at hk
  subst hk
  exact ⟨hg,(Array.getElem?_eq_some_iff.1 hh).1⟩
theorem own_ne {B B':Nat} {e e':TypeId} {sz sz':Nat} {v v':Value} {n n':Nat} {xs xs':List Value} (h:w.ownsRow B e sz v n xs) (h':w.ownsRow B' e' sz' v' n' xs') (he:e ≠ e'):∀ k,v.ownBlock = some k → v'.ownBlock ≠ some k:=by
 intro k hk hk'
 rcases h.2 with ⟨rfl,_⟩ | ⟨g,cap,cur,rfl,hg,hh,_⟩
 ·cases hk
 rcases h'.2 with ⟨rfl,_⟩ | ⟨g',cap',cur',rfl,hg',hh',_⟩
 ·cases hk'
 simp only [Value.ownBlock,Option.some.injEq] at hk hk'
 subst hk
 subst hk'
 rw [hh] at hh'
 cases hh'
 exact he rfl
theorem own_mono {B B':Nat} {e:TypeId} {sz:Nat} {v:Value} {n:Nat} {xs:List Value} (h:w.ownsRow B e sz v n xs) (hB:B' ≤ B):w.ownsRow B' e sz v n xs:=by
 refine ⟨h.1,?_⟩
 rcases h.2 with h2 | ⟨g,cap,cur,h2,hg,r⟩
 ·exact .inl h2
 ·exact .inr ⟨g,cap,cur,h2,Nat.le_trans hB hg,r⟩
theorem own_set {B:Nat} {e:TypeId} {sz:Nat} {g cap n:Nat} {xs:List Value} (h:w.ownsRow B e sz (.slice (some ⟨g,0,none⟩) n cap) n xs) {i:Nat} (hi:i < xs.length) (u:Value) :
  (w.setCell ⟨g,i,none⟩ u).ownsRow B e sz (.slice (some ⟨g,0,none⟩) n cap) n (xs.set i u):=by
 obtain ⟨h1,h2⟩:=h
 rcases h2 with ⟨h2,_⟩ | ⟨g',cap',cur,h2,hg,hh,hn,hc,hs,ht⟩
 ·cases h2
 ·simp only [Value.slice.injEq,Option.some.injEq,Addr.mk.injEq,and_true,true_and] at h2
  obtain ⟨rfl,rfl⟩:=h2
  refine ⟨by simpa using h1,.inr ⟨g,cap,cur.setIfInBounds i u,rfl,hg,?_,hn,hc,by simpa using hs,?_⟩⟩
  ·exact (Blk.Is.set (w:=w) (b:=g) (T:=e) (cs:=cur) hh i u)
  ·rw [Array.toList_setIfInBounds,List.take_set,ht]
theorem own_cell {B:Nat} {e:TypeId} {sz:Nat} {g cap n:Nat} {xs:List Value} (h:w.ownsRow B e sz (.slice (some ⟨g,0,none⟩) n cap) n xs) {i:Nat} {u:Value} (hi:xs[i]? = some u):w.cell? ⟨g,i,none⟩ = some u:=by
 have:=h.cells (g:=g) rfl i u hi
 have e:(⟨g,0,none⟩:Addr).add i = ⟨g,i,none⟩:=by cases i <;> simp [Addr.add]
 rw [e] at this
 exact this
theorem own_free {B:Nat} {e:TypeId} {sz:Nat} {g cap n:Nat} {xs:List Value} (h:w.ownsRow B e sz (.slice (some ⟨g,0,none⟩) n cap) n xs) (i:Nat):w.frozen? ⟨g,i,none⟩ = false:=by
 obtain ⟨h1,h2⟩:=h
 rcases h2 with ⟨h2,_⟩ | ⟨g',cap',cur,h2,hg,hh,_⟩
 ·cases h2
 ·simp only [Value.slice.injEq,Option.some.injEq,Addr.mk.injEq,and_true,true_and] at h2
  obtain ⟨rfl,rfl⟩:=h2
  exact (Blk.Is.free (w:=w) (b:=g) (T:=e) (cs:=cur) hh i)
theorem own_slice {B:Nat} {e:TypeId} {sz:Nat} {v:Value} {n:Nat} {xs:List Value} (h:w.ownsRow B e sz v n xs) (hn:0 < n):∃ g cap,v = .slice (some ⟨g,0,none⟩) n cap ∧ n ≤ cap:=by
 rcases h.2 with ⟨_,h0⟩ | ⟨g,cap,cur,rfl,_,_,hc,_⟩
 ·omega
 ·exact ⟨g,cap,rfl,hc⟩
theorem own_shape {B:Nat} {e:TypeId} {sz:Nat} {v:Value} {n:Nat} {xs:List Value} (h:w.ownsRow B e sz v n xs):∃ a cap,v = .slice a n cap ∧ n ≤ cap:=by
 rcases h.2 with ⟨rfl,rfl⟩ | ⟨g,cap,cur,rfl,_,_,hc,_⟩
 ·exact ⟨none,0,rfl,Nat.le_refl _⟩
 ·exact ⟨_,cap,rfl,hc⟩
theorem own_is {w:World} {B:Nat} {e:TypeId} {sz:Nat} {v:Value} {n:Nat} {xs:List Value} (h:w.ownsRow B e sz v n xs) {k:Nat} (hk:v.ownBlock = some k):∃ cs,Blk.Is w k e cs:=by
 rcases h.2 with ⟨rfl,_⟩ | ⟨g,cap,cur,rfl,hg,hh,_⟩
 ·cases hk
 ·simp only [Value.ownBlock,Option.some.injEq] at hk
  subst hk
  exact ⟨cur,hh⟩
end
theorem append_el {tS e:TypeId} {z:Value} {sz bytes:Nat} (hu:Tryz.prog.underlying tS = some (.slice e)) (hi:(Tryz.prog.info? e).map (fun i=>(i.zero,i.size,i.bytes)) = some (some z,sz,bytes)) (hz:z.cells.size = sz) (hby:bytes ≤ 64)
  {w:World} {ops:Array Oper} {rest:List Oper} {o:Oper} {a:Act} {Q:Exit → Act → World → Prop} (hgd:o.guard = none) (s x:Operand)
  (ho:o.op = .call { callee:=.builtin .append,args:=#[s,x],argTypes:=#[tS,tS] })
  (B:Nat) (v:Value) (n:Nat) (xs:List Value) (hv:a.eval s = v) (hown:w.ownsRow B e sz v n xs) (k:Nat) (c:Nat) (hx:a.eval x = .slice (some ⟨k,0,none⟩) 1 c) (news:List Value) (hnl:news.length = sz) (hc:∀ (j:Nat) u,news[j]? = some u → w.cell? ⟨k,j,none⟩ = some u)
  (ho1:∀ u ∈ news,u.oneCell' = true) (hn:n + 1 ≤ 70000) (hB:B ≤ w.heap.size)
  (h:∀ v' w',w'.ownsRow B e sz v' (n + 1) (xs ++ news) → w.grownBy w' v.ownBlock → wpList Tryz.prog ops Q rest (a.put o.dst v') w'):wpList Tryz.prog ops Q (o :: rest) a w:=by
 obtain ⟨i0,hi,hz0,hz1,hz2⟩:=info_parts hi
 have hsrc:Src Tryz.prog sz tS (.slice (some ⟨k,0,none⟩) 1 c) 1 news w:=by
  refine Src.ofSlice w hu ⟨k,0,none⟩ 1 c news (by rw [hnl,Nat.one_mul]) (fun j u hj=>?_) ho1
  have:=hc j u hj
  have e:(⟨k,0,none⟩:Addr).add j = ⟨k,j,none⟩:=by cases j <;> simp [Addr.add]
  rw [e]; exact this
 have hmul:(n + 1) * bytes ≤ 70000 * 64:=Nat.mul_le_mul hn hby
 exact Own.wpList_append_src hgd s x tS tS ho B e i0 z sz bytes hu hi hz0 hz1 hz2 hz v n xs hv hown _ 1 news hx hsrc (by simp only [maxLen]; omega) (by omega) hB h
theorem infoA:(Tryz.prog.info? 54).map (fun i=>(i.zero,i.size,i.bytes)) = some (some (.agg #[.string ByteArray.empty,.int .i64 0,.string ByteArray.empty]),3,40):=by kernel_rfl
theorem infoC:(Tryz.prog.info? 47).map (fun i=>(i.zero,i.size,i.bytes)) = some (some (.slice none 0 0),1,24):=by kernel_rfl
theorem infoP:(Tryz.prog.info? 101).map (fun i=>(i.zero,i.size,i.bytes)) = some (some (.agg #[.string ByteArray.empty,.string ByteArray.empty]),2,32):=by kernel_rfl
end Rl
end Go.Proofs.YtmhpjjjjgakpiaaGreatDoor
namespace Go.Proofs.YtmhpjjjjgakpiaaGreatDoor
open Go.RowKit
set_option linter.unusedSimpArgs false
set_option linter.unusedVariables false
namespace Rl
open Ver (Bs S)
def acell (a:At):List Value:=[.string (S a.1),.int .i64 a.2.1,.string (S a.2.2)]
def acells (l:List At):List Value:=l.flatMap acell
theorem acells_app (l:List At) (a:At):acells (l ++ [a]) = acells l ++ acell a:=by unfold acells; simp
def pre {α:Type} (ds:List α):Except Int (List α × Bs) → Except Int (List α × Bs)
 | .error e=>.error e
 | .ok (xs,r)=>.ok (ds ++ xs,r)
end Rl
end Go.Proofs.YtmhpjjjjgakpiaaGreatDoor
namespace Go.Proofs.YtmhpjjjjgakpiaaGreatDoor
open Go.RowKit
set_option linter.unusedSimpArgs false
set_option linter.unusedVariables false
namespace Rl
open Ver (Bs S)
def pV (a:Pv):Value:=.agg #[.string (S a.1),.string (S a.2)]
end Rl
end Go.Proofs.YtmhpjjjjgakpiaaGreatDoor
namespace Go.Proofs.YtmhpjjjjgakpiaaGreatDoor
open Go.RowKit
set_option linter.unusedSimpArgs false
set_option linter.unusedVariables false
namespace Rl
open Ver (Bs S)
def pcell (a:Pv):List Value:=[.string (S a.1),.string (S a.2)]
def pcells (l:List Pv):List Value:=l.flatMap pcell
end Rl
end Go.Proofs.YtmhpjjjjgakpiaaGreatDoor
namespace Go.Proofs.YtmhpjjjjgakpiaaGreatDoor
open Go.RowKit
set_option linter.unusedSimpArgs false
set_option linter.unusedVariables false
namespace Rl
open Ver (Bs S)
theorem atoms_ne_clauses:(54:TypeId) ≠ 47:=by decide
def Cls (w:World) (B:Nat) (vs:List Value) (xs:List (List At)):Prop :=
 vs.length = xs.length ∧ ∀ i,i < xs.length → w.ownsRow B 54 3 (vs.getD i undef) (xs.getD i []).length (acells (xs.getD i []))
theorem Cls.nil (w:World) (B:Nat):Cls w B [] []:=⟨rfl,fun i hi=>absurd hi (by simp)⟩
theorem Cls.chg {w w':World} {B:Nat} {vs:List Value} {xs:List (List At)} {Q:Nat → Prop} (h:Cls w B vs xs) (hc:Blk.Chg Q w w') (hn:∀ u n ys,w.ownsRow B 54 3 u n ys → ∀ k,u.ownBlock = some k → ¬ Q k):Cls w' B vs xs :=
 ⟨h.1,fun i hi=>hc.owns (h.2 i hi) fun k hk=>hn _ _ _ (h.2 i hi) k hk⟩
theorem Cls.one {w w':World} {B p:Nat} {vs:List Value} {xs:List (List At)} (h:Cls w B vs xs) (hc:Blk.Chg (fun k=>k = p) w w') (hp:p < B):Cls w' B vs xs:=h.chg hc fun u n ys ho k hk e=>by have:=own_lt ho hk; omega
theorem Cls.below {w w':World} {B:Nat} {vs:List Value} {xs:List (List At)} (h:Cls w B vs xs) (hb:Below w.heap.size w w'):Cls w' B vs xs:=h.chg (Q:=fun _=>False) (Blk.Chg.ofBelow' hb) fun _ _ _ _ _ _ h=>h
theorem Cls.grown {w w':World} {B:Nat} {vs:List Value} {xs:List (List At)} {v:Value} {n:Nat} {ys:List Value} (h:Cls w B vs xs) (hown:w.ownsRow B 47 1 v n ys) (hg:w.grownBy w' v.ownBlock):Cls w' B vs xs :=
 h.chg (Q:=fun k=>v.ownBlock = some k) (Blk.Chg.grown (Blk.Chg.refl _ w) hg fun k hk _=>hk) fun u n ys ho k hk hk'=>own_ne ho hown atoms_ne_clauses k hk hk'
theorem Cls.mono {w:World} {B B':Nat} {vs:List Value} {xs:List (List At)} (h:Cls w B vs xs) (hB:B' ≤ B):Cls w B' vs xs:=⟨h.1,fun i hi=>own_mono (h.2 i hi) hB⟩
theorem Cls.more {w:World} {B:Nat} {vs:List Value} {xs:List (List At)} {v:Value} {x:List At} (h:Cls w B vs xs) (hx:w.ownsRow B 54 3 v x.length (acells x)):Cls w B (vs ++ [v]) (xs ++ [x]):=by
 refine ⟨by simp [h.1],fun i hi=>?_⟩
 rw [List.length_append] at hi
 by_cases e:i < xs.length
 ·have:=h.2 i e
  have e1:(vs ++ [v]).getD i undef = vs.getD i undef:=by simp [List.getD,List.getElem?_append_left (show i < vs.length by rw [h.1]; exact e)]
  have e2:(xs ++ [x]).getD i [] = xs.getD i []:=by simp [List.getD,List.getElem?_append_left e]
  rw [e1,e2]; exact this
 ·have hi':i = xs.length:=by simp at hi; omega
  subst hi'
  have e1:(vs ++ [v]).getD xs.length undef = v:=by rw [← h.1]; simp [List.getD]
  have e2:(xs ++ [x]).getD xs.length [] = x:=by simp [List.getD]
  rw [e1,e2]; exact hx
theorem one_cell {w:World} {k:Nat} {v:Value} (h:w.cell? ⟨k,0,none⟩ = some v):∀ (j:Nat) u,[v][j]? = some u → w.cell? ⟨k,j,none⟩ = some u:=by
 intro j u hj
 have:=(List.getElem?_eq_some_iff.1 hj).1
 have hj0:j = 0:=by simp at this; exact this
 subst hj0
 simp at hj
 rw [← hj]; exact h
end Rl
end Go.Proofs.YtmhpjjjjgakpiaaGreatDoor
namespace Go.Proofs.YtmhpjjjjgakpiaaGreatDoor
open Go.RowKit
set_option linter.unusedSimpArgs false
set_option linter.unusedVariables false
namespace Rl
open Ver (Bs S)
def nA:At:=([],0,[])
def nP:Pv:=([],[])
def AtAt (w:World) (k o:Nat) (a:At):Prop:=w.cell? ⟨k,o,none⟩ = some (.string (S a.1)) ∧ w.cell? ⟨k,o + 1,none⟩ = some (.int .i64 a.2.1) ∧ w.cell? ⟨k,o + 2,none⟩ = some (.string (S a.2.2))
def PvAt (w:World) (k o:Nat) (a:Pv):Prop:=w.cell? ⟨k,o,none⟩ = some (.string (S a.1)) ∧ w.cell? ⟨k,o + 1,none⟩ = some (.string (S a.2))
def Slc {α:Type} (sz:Nat) (z:α) (P:World → Nat → Nat → α → Prop) (w:World) (v:Value) (l:List α):Prop :=
 l.length ≤ 1152921504606846976 ∧ ∃ a cap,v = .slice a l.length cap ∧ l.length ≤ cap ∧ (0 < l.length → ∃ k off,a = some ⟨k,off,none⟩ ∧ ∀ i,i < l.length → P w k (off + sz * i) (l.getD i z))
def Ats:World → Value → List At → Prop:=Slc 3 nA AtAt
def Pvs:World → Value → List Pv → Prop:=Slc 2 nP PvAt
def ClAt (w:World) (k o:Nat) (c:List At):Prop:=∃ u,w.cell? ⟨k,o,none⟩ = some u ∧ Ats w u c
def Clss:World → Value → List (List At) → Prop:=Slc 1 [] ClAt
theorem Slc.below {α:Type} {sz:Nat} {z:α} {P:World → Nat → Nat → α → Prop} (hP:∀ w w' k o x,P w k o x → Below w.heap.size w w' → P w' k o x) {w w':World} {v:Value} {l:List α} (h:Slc sz z P w v l) (hb:Below w.heap.size w w'):Slc sz z P w' v l:=by
 obtain ⟨h0,a,cap,h1,h2,h3⟩:=h
 refine ⟨h0,a,cap,h1,h2,fun hl=>?_⟩
 obtain ⟨k,off,h4,h5⟩:=h3 hl
 exact ⟨k,off,h4,fun i hi=>hP _ _ _ _ _ (h5 i hi) hb⟩
theorem cell_on {w w':World} {p:Addr} {v:Value} (h:w.cell? p = some v) (hb:Below w.heap.size w w'):w'.cell? p = some v:=by rw [hb.cell (Ver.lt_cell h)]; exact h
theorem AtAt.below {w w':World} {k o:Nat} {a:At} (h:AtAt w k o a) (hb:Below w.heap.size w w'):AtAt w' k o a:=⟨cell_on h.1 hb,cell_on h.2.1 hb,cell_on h.2.2 hb⟩
theorem PvAt.below {w w':World} {k o:Nat} {a:Pv} (h:PvAt w k o a) (hb:Below w.heap.size w w'):PvAt w' k o a:=⟨cell_on h.1 hb,cell_on h.2 hb⟩
theorem Ats.below {w w':World} {v:Value} {l:List At} (h:Ats w v l) (hb:Below w.heap.size w w'):Ats w' v l:=Slc.below (fun _ _ _ _ _ h hb=>h.below hb) h hb
theorem Pvs.below {w w':World} {v:Value} {l:List Pv} (h:Pvs w v l) (hb:Below w.heap.size w w'):Pvs w' v l:=Slc.below (fun _ _ _ _ _ h hb=>h.below hb) h hb
theorem ClAt.below {w w':World} {k o:Nat} {c:List At} (h:ClAt w k o c) (hb:Below w.heap.size w w'):ClAt w' k o c:=by
 obtain ⟨u,h1,h2⟩:=h
 exact ⟨u,cell_on h1 hb,h2.below hb⟩
theorem Clss.below {w w':World} {v:Value} {l:List (List At)} (h:Clss w v l) (hb:Below w.heap.size w w'):Clss w' v l:=Slc.below (fun _ _ _ _ _ h hb=>h.below hb) h hb
theorem Slc.shape {α:Type} {sz:Nat} {z:α} {P:World → Nat → Nat → α → Prop} {w:World} {v:Value} {l:List α} (h:Slc sz z P w v l):∃ a cap,v = .slice a l.length cap:=by
 obtain ⟨_,a,cap,h1,_⟩:=h
 exact ⟨a,cap,h1⟩
theorem Slc.none {α:Type} (sz:Nat) (z:α) (P:World → Nat → Nat → α → Prop) (w:World):Slc sz z P w (.slice none 0 0) []:=⟨by simp,_,_,rfl,Nat.le_refl _,fun h=>absurd h (by simp)⟩
theorem flat_at {α:Type} (f:α → List Value) (m:Nat) (hf:∀ x,(f x).length = m):∀ (l:List α) (i j:Nat) (x:α),l[i]? = some x → j < m → (l.flatMap f)[m * i + j]? = (f x)[j]?
 | [],i,j,x,h,_=>by simp at h
 | y :: l,0,j,x,h,hj=>by
  simp at h
  subst h
  rw [List.flatMap_cons,Nat.mul_zero,Nat.zero_add,List.getElem?_append_left (by rw [hf]; exact hj)]
 | y :: l,i + 1,j,x,h,hj=>by
  simp at h
  rw [List.flatMap_cons,List.getElem?_append_right (by rw [hf,Nat.mul_add]; omega),hf,show m * (i + 1) + j - m = m * i + j by rw [Nat.mul_add]; omega]
  exact flat_at f m hf l i j x h hj
theorem at_getD {α:Type} {l:List α} {z:α} {i:Nat} (hi:i < l.length):l[i]? = some (l.getD i z):=by simp [List.getD,List.getElem?_eq_getElem hi]
theorem own_ats {w:World} {B:Nat} {v:Value} {l:List At} (h:w.ownsRow B 54 3 v l.length (acells l)) (hl:l.length ≤ 1152921504606846976):Ats w v l:=by
 obtain ⟨a,cap,rfl,hc⟩:=own_shape h
 refine ⟨hl,a,cap,rfl,hc,fun h0=>?_⟩
 obtain ⟨g,cap',e,_⟩:=own_slice h h0
 simp only [Value.slice.injEq,true_and] at e
 obtain ⟨rfl,rfl⟩:=e
 refine ⟨g,0,rfl,fun i hi=>?_⟩
 have hx:=at_getD (z:=nA) hi
 have hf:=flat_at acell 3 (fun x=>rfl) l i
 rw [Nat.zero_add]
 exact ⟨own_cell h (hf 0 _ hx (by omega)),own_cell h (hf 1 _ hx (by omega)),own_cell h (hf 2 _ hx (by omega))⟩
theorem own_pvs {w:World} {B:Nat} {v:Value} {l:List Pv} (h:w.ownsRow B 101 2 v l.length (pcells l)) (hl:l.length ≤ 1152921504606846976):Pvs w v l:=by
 obtain ⟨a,cap,rfl,hc⟩:=own_shape h
 refine ⟨hl,a,cap,rfl,hc,fun h0=>?_⟩
 obtain ⟨g,cap',e,_⟩:=own_slice h h0
 simp only [Value.slice.injEq,true_and] at e
 obtain ⟨rfl,rfl⟩:=e
 refine ⟨g,0,rfl,fun i hi=>?_⟩
 have hx:=at_getD (z:=nP) hi
 have hf:=flat_at pcell 2 (fun x=>rfl) l i
 rw [Nat.zero_add]
 exact ⟨own_cell h (hf 0 _ hx (by omega)),own_cell h (hf 1 _ hx (by omega))⟩
theorem own_clss {w:World} {B B':Nat} {v:Value} {vs:List Value} {l:List (List At)} (h:w.ownsRow B 47 1 v l.length vs) (hc:Cls w B' vs l) (hl:l.length ≤ 1152921504606846976) (hl2:∀ c ∈ l,c.length ≤ 1152921504606846976):Clss w v l:=by
 obtain ⟨a,cap,rfl,hcap⟩:=own_shape h
 refine ⟨hl,a,cap,rfl,hcap,fun h0=>?_⟩
 obtain ⟨g,cap',e,_⟩:=own_slice h h0
 simp only [Value.slice.injEq,true_and] at e
 obtain ⟨rfl,rfl⟩:=e
 refine ⟨g,0,rfl,fun i hi=>?_⟩
 have hv:i < vs.length:=by rw [hc.1]; exact hi
 rw [Nat.zero_add,Nat.one_mul]
 refine ⟨_,own_cell h (at_getD (z:=undef) hv),own_ats (hc.2 i hi) (hl2 _ ?_)⟩
 simp [List.getD,List.getElem?_eq_getElem hi]
def LimA (l:List At):Prop:=∀ a ∈ l,a.1.length ≤ 140737488351232 ∧ a.2.2.length ≤ 140737488351232
def LimP (l:List Pv):Prop:=∀ a ∈ l,a.1.length ≤ 140737488351232 ∧ a.2.length ≤ 140737488351232
def LimC (l:List (List At)):Prop:=∀ c ∈ l,LimA c
theorem mem_getD {α:Type} {l:List α} {z:α} {i:Nat} (hi:i < l.length):l.getD i z ∈ l:=by simp [List.getD,List.getElem?_eq_getElem hi]
end Rl
end Go.Proofs.YtmhpjjjjgakpiaaGreatDoor
namespace Go.Proofs.YtmhpjjjjgakpiaaGreatDoor
open Go.RowKit
namespace Reg
section
variable {P:Program} {ops:Array Oper} {md:Region.Mode} {C:World → Prop}

end
section
variable {P:Program} {ops:Array Oper} {md:Region.Mode} {C:World → Prop}

def midK (K:Act → World → Prop) (Q:Exit → Act → World → Prop):Exit → Act → World → Prop
 | .normal,a,w=>K a w
 | e,a,w=>Q e a w
theorem LetsOut.ofMidK {Q:Exit → Act → World → Prop} {K:Act → World → Prop} (h:LetsOut (midK K Q)):LetsOut Q:=by
 obtain ⟨a,w,h⟩:=h; exact ⟨a,w,h⟩
theorem upon_midK {Q:Exit → Act → World → Prop} {K K':Act → World → Prop} {o:Oper} {a:Act} {r:Result Next} (h:o.upon P a K' (midK K Q) r):o.upon P a K' Q r:=by
 cases r with
 | ok x w' =>
  cases x <;> simp only [Oper.upon] at h ⊢
  case enter f args =>
   refine Calls.mono h fun e w'' he=>?_
   cases e with
   | returned v=>exact he
   | panicked c=>exact he
   | outgrown=>exact LetsOut.ofMidK he
  all_goals exact h
 | halt x w' =>
  cases x <;> simp only [Oper.upon] at h ⊢
  all_goals exact h
theorem wpOp_list {i:Nat} {o:Oper} {Q:Exit → Act → World → Prop} {K:Act → World → Prop} {a:Act} {w:World} (ho:ops[i]? = some o) (h:wpList P ops (midK K Q) [o] a w):wpOp P ops Q i K a w:=by
 unfold wpOp
 simp only [ho]
 simp only [wpList] at h
 split
 ·rename_i hw
  rw [if_pos hw] at h
  rcases h with h | ⟨h1,h2⟩
  ·exact .inl (upon_midK h)
  ·exact .inr ⟨h1,LetsOut.ofMidK h2⟩
 ·rename_i hw
  rw [if_neg hw] at h
  exact h
end
end Reg
end Go.Proofs.YtmhpjjjjgakpiaaGreatDoor

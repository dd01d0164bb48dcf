/-
How an atom is written: Atom, and the reference's MayAtom and Atom. The reference's MayAtom and Atom. The reader of package relation: an atom.
-/
import Derived.Test.YtgpcilepkmckeaaDoorARelMay
import Derived.Test.YtgpcilepkmckeaaDoorARelDef
import Derived.Test.YtgpcilepkmckeaaDoorAVerRefCompare
import Derived.Laws.Concat
namespace Go.Proofs.YtgpcilepkmckeaaDoor
open Go.RowKit
set_option linter.unusedSimpArgs false
set_option linter.unusedVariables false
namespace Rl
open Ver (Bs S S_size S_li)
end Rl
end Go.Proofs.YtgpcilepkmckeaaDoor
namespace Go.Proofs.YtgpcilepkmckeaaDoor
open Go.RowKit
set_option linter.unusedSimpArgs false
set_option linter.unusedVariables false
namespace Rl
open Ver (Bs S S_size S_li)
theorem yname_any (n:Bs) (w:World) (hs:n.length ≤ 4611686018427387904) :
  Calls Tryd.prog 25 #[.string (S n)] w fun e w'=>e = .returned (.bool (nmB n)) ∧ w' = w:=by
 have c:=Txt.yname_any (S n) w (by rw [S_size]; omega)
 rwa [name_is,S_li] at c
theorem yis_any (v:Bs) (w:World) (hs:v.length ≤ 4611686018427387904) :
  Calls Tryd.prog 27 #[.string (S v)] w fun e w'=>e = .returned (.bool (isV v)) ∧ Below w.heap.size w w':=by
 have c:=Ver.yis_any (S v) w (by rw [S_size]; omega)
 rwa [S_li] at c
theorem ysign_any (r:Int) (w:World):Calls Tryd.prog 26 #[.int .i64 r] w fun e w'=>e = .returned (.string (S (sgnN r))) ∧ w' = w:=by
 have c:=Ver.ysignS_any r w
 rwa [sgn_S] at c
theorem sgn_empty (r:Int):(S (sgnN r)).toList.isEmpty = !decide (1 ≤ r ∧ r ≤ 5):=by
 rw [isEmpty_S]
 by_cases h:1 ≤ r ∧ r ≤ 5
 ·rw [decide_eq_true h]; have:=sgn_ne h; cases hs:sgnN r with
  | nil=>exact absurd hs this
  | cons c t=>rfl
 ·rw [decide_eq_false h,sgn_no h]; rfl
set_option maxRecDepth 100000 in
set_option maxHeartbeats 1000000 in
theorem ymayAtom_any (a:At) (w:World) (h1:a.1.length ≤ 4611686018427387904) (h2:a.2.2.length ≤ 4611686018427387904) :
  Calls Tryd.prog 20 #[aV a] w fun e w'=>e = .returned (.bool (may a)) ∧ Below w.heap.size w w':=by
 obtain ⟨n,r,v⟩:=a
 unfold aV
 simp only at h1 h2 ⊢
 have cn:=fun w=>yname_any n w h1
 by_cases hr:r = 0
 ·subst hr
  have hm:may (n,0,v) = (nmB n && v.isEmpty):=by unfold may; simp
  rw [hm]
  have he:=isEmpty_S v
  generalize nmB n = g at *
  generalize v.isEmpty = d at *
  generalize S n = x at *
  generalize S v = y at *
  clear hm
  cases g <;> cases d
  all_goals
   have hb0:=Blk.Is.new w 47 #[.string x,.int .i64 0,.string y]
   have hB0:Below w.heap.size w (w.alloc (.cells #[.string x,.int .i64 0,.string y] 47)):=(Below.refl _ _).alloc (Nat.le_refl _) _
   obtain ⟨c0,c1,c2⟩:=cells3 hb0
   clear hb0
   go_enter Tryd.func20,Tryd.ntmps20
   go_wp2_with fail
   generalize w.alloc (.cells #[.string x,.int .i64 0,.string y] 47) = W at *
   refine (cn _).mono ?_
   rintro e w1 ⟨rfl,rfl⟩
   go_wp2_with fail
   go_ret
   exact ⟨rfl,hB0⟩
 ·have hm:may (n,r,v) = (nmB n && (decide (1 ≤ r ∧ r ≤ 5) && isV v)):=by unfold may; simp only; rw [if_neg hr]
  rw [hm]
  have cv:=fun w=>yis_any v w h2
  have cg:=fun w=>ysign_any r w
  have he:=sgn_empty r
  generalize isV v = m at *
  generalize decide (1 ≤ r ∧ r ≤ 5) = d at *
  generalize nmB n = g at *
  generalize S (sgnN r) = sg at *
  generalize S n = x at *
  generalize S v = y at *
  clear hm
  have hr0:(r == 0) = false:=by simpa using hr
  have hb0:=Blk.Is.new w 47 #[.string x,.int .i64 r,.string y]
  have hB0:Below w.heap.size w (w.alloc (.cells #[.string x,.int .i64 r,.string y] 47)):=(Below.refl _ _).alloc (Nat.le_refl _) _
  obtain ⟨c0,c1,c2⟩:=cells3 hb0
  clear hb0
  cases g
  ·go_enter Tryd.func20,Tryd.ntmps20
   go_wp2_with fail
   generalize w.alloc (.cells #[.string x,.int .i64 r,.string y] 47) = W at *
   refine (cn _).mono ?_
   rintro e w1 ⟨rfl,rfl⟩
   go_wp2_with fail
   go_ret
   exact ⟨rfl,hB0⟩
  ·cases d
   ·simp only [Bool.not_false] at he
    go_enter Tryd.func20,Tryd.ntmps20
    go_wp2_with fail
    generalize w.alloc (.cells #[.string x,.int .i64 r,.string y] 47) = W at *
    refine (cn _).mono ?_
    rintro e w1 ⟨rfl,rfl⟩
    go_wp2_with fail
    refine (cg _).mono ?_
    rintro e w2 ⟨rfl,rfl⟩
    go_wp2_with fail
    go_ret
    exact ⟨rfl,hB0⟩
   ·simp only [Bool.not_true] at he
    cases m
    all_goals
     go_enter Tryd.func20,Tryd.ntmps20
     go_wp2_with fail
     generalize w.alloc (.cells #[.string x,.int .i64 r,.string y] 47) = W at *
     refine (cn _).mono ?_
     rintro e w1 ⟨rfl,rfl⟩
     go_wp2_with fail
     refine (cg _).mono ?_
     rintro e w2 ⟨rfl,rfl⟩
     go_wp2_with fail
     refine (cv _).mono ?_
     rintro e w3 ⟨rfl,k3⟩
     have k3':=hB0.trans (k3.mono hB0.size)
     go_wp2_with fail
     go_ret
     exact ⟨rfl,k3'⟩
end Rl
end Go.Proofs.YtgpcilepkmckeaaDoor
namespace Go.Proofs.YtgpcilepkmckeaaDoor
open Go.RowKit
set_option linter.unusedSimpArgs false
set_option linter.unusedVariables false
namespace Rl
def Off (p:Nat):Prop:=p ≠ 1 ∧ p ≠ 0
theorem Vars.off {w:World} (h:Vars w) {b:Nat} (hb:w.heap.size ≤ b):Off b:=by
 have h1:=h.maxLen.lt
 have h2:=Ver.lt_cell (h.signs 0 (by omega))
 have h3:0 < w.heap.size:=h2
 exact ⟨by omega,by omega⟩
end Rl
end Go.Proofs.YtgpcilepkmckeaaDoor

/-
How an atom is written: Atom, and the reference's MayAtom and Atom. The reference's MayAtom and Atom.
-/
import Derived.Test.YtapmpdljapbpeaaGreatDoorRelMay
import Derived.Test.YtapmpdljapbpeaaGreatDoorRelDef
import Derived.Test.YtapmpdljapbpeaaGreatDoorVerParse2
import Derived.BigQuiet
import Derived.Test.YtapmpdljapbpeaaGreatDoorVerPartK
import Derived.Deep.QuietTactic
import Derived.Test.YtapmpdljapbpeaaGreatDoorVerSignsK
import Derived.LoopN
import Derived.Laws.Concat
namespace Go.Proofs.YtapmpdljapbpeaaGreatDoor
open Go.RowKit
set_option linter.unusedSimpArgs false
set_option linter.unusedVariables false
namespace Rl
open Ver (Bs li li_len li_drop S S_self S_of S_size S_li below_drewN empty_is empty_no MaxLen Signs)
theorem S_app (x y : Bs) : S x ++ S y = S (x ++ y) := by
  refine S_of ?_
  show (S x ++ S y).data.toList = _
  rw [ByteArray.data_append, Array.toList_append]
  show li (S x) ++ li (S y) = _
  rw [S_li, S_li]
set_option maxRecDepth 100000 in
set_option maxHeartbeats 1000000 in
theorem atom_any (a : At) (w : World) (h1 : a.1.length ≤ 4611686018427387904) (h2 : a.2.2.length ≤ 4611686018427387904) (hv : Vars w) :
    Calls Tryz.prog 126 #[aV a] w fun e w' => e = .returned (.string (S (wAt a))) ∧ Below w.heap.size w w' := by
  have cm := fun w hv => mayAtom_any a w h1 h2 hv
  unfold wAt
  obtain ⟨n, r, v⟩ := a
  unfold aV at cm ⊢
  simp only at h1 h2 cm ⊢
  have cg := fun w hg => Ver.sign_any r w hg
  rw [sgn_S] at cg
  have HV := Lib.hid hv
  clear hv
  cases hm : may (n, r, v)
  · rw [hm] at cm
    have e0 : S [] = ⟨#[]⟩ := rfl
    simp only [Bool.false_eq_true, if_false, e0]
    clear hm h1 h2 e0
    generalize S n = x at *
    generalize S v = y at *
    have hB0 : Below w.heap.size w (w.alloc (.cells #[.string x, .int .i64 r, .string y] 82)) := (Below.refl _ _).alloc (Nat.le_refl _) _
    go_enter Tryz.func126, Tryz.ntmps126
    go_wp2_with fail
    generalize w.alloc (.cells #[.string x, .int .i64 r, .string y] 82) = W at *
    refine (cm _ (HV.out.on hB0)).mono ?_
    rintro e w1 ⟨rfl, k1⟩
    have k1' := hB0.trans (k1.mono hB0.size)
    go_wp2_with fail
    go_ret
    exact ⟨rfl, k1'⟩
  · rw [hm] at cm
    simp only [if_true]
    obtain ⟨hn, hvl⟩ := may_sizes hm
    simp only at hn hvl
    unfold txA
    simp only
    by_cases hr : r = 0
    · subst hr
      rw [if_pos rfl]
      clear hm h1 h2 cg hn hvl
      generalize S n = x at *
      generalize S v = y at *
      have hb0 := Blk.Is.new w 82 #[.string x, .int .i64 0, .string y]
      have hB0 : Below w.heap.size w (w.alloc (.cells #[.string x, .int .i64 0, .string y] 82)) := (Below.refl _ _).alloc (Nat.le_refl _) _
      go_enter Tryz.func126, Tryz.ntmps126
      go_wp2_with fail
      generalize w.alloc (.cells #[.string x, .int .i64 0, .string y] 82) = W at *
      refine (cm _ (HV.out.on hB0)).mono ?_
      rintro e w1 ⟨rfl, k1⟩
      have k1' := hB0.trans (k1.mono hB0.size)
      obtain ⟨c0, c1, c2⟩ := cells3 (is_on hb0 k1)
      clear hb0 hB0 k1
      go_wp2_with fail
      go_ret
      exact ⟨rfl, k1'⟩
    · rw [if_neg hr]
      have hr0 : (r == 0) = false := by simpa using hr
      have hsl := sgn_len r
      have z1 : (S n).size ≤ 24 := by rw [S_size]; exact hn
      have z2 : (S (sgnN r)).size ≤ 2 := by rw [S_size]; exact hsl
      have z3 : (S v).size ≤ 48 := by rw [S_size]; exact hvl
      have hres : S (n ++ [32] ++ [40] ++ sgnN r ++ [32] ++ v ++ [41]) = S n ++ ⟨#[32]⟩ ++ ⟨#[40]⟩ ++ S (sgnN r) ++ ⟨#[32]⟩ ++ S v ++ ⟨#[41]⟩ := by
        rw [← S_app, ← S_app, ← S_app, ← S_app, ← S_app, ← S_app]; rfl
      rw [hres]
      clear hm h1 h2 hn hvl hsl hres hr
      generalize S n = x at *
      generalize S v = y at *
      generalize S (sgnN r) = z at *
      have b1 : (⟨#[32]⟩ : ByteArray).size = 1 := rfl
      have b2 : (⟨#[40]⟩ : ByteArray).size = 1 := rfl
      have b3 : (⟨#[41]⟩ : ByteArray).size = 1 := rfl
      have s1 := fun w => run_string_add_sum (P := Tryz.prog) w x ⟨#[32]⟩ (by omega)
      have s2 := fun w => run_string_add_sum (P := Tryz.prog) w (x ++ ⟨#[32]⟩) ⟨#[40]⟩ (by simp only [ByteArray.size_append]; omega)
      have s3 := fun w => run_string_add_sum (P := Tryz.prog) w (x ++ ⟨#[32]⟩ ++ ⟨#[40]⟩) z (by simp only [ByteArray.size_append]; omega)
      have s4 := fun w => run_string_add_sum (P := Tryz.prog) w (x ++ ⟨#[32]⟩ ++ ⟨#[40]⟩ ++ z) ⟨#[32]⟩ (by simp only [ByteArray.size_append]; omega)
      have s5 := fun w => run_string_add_sum (P := Tryz.prog) w (x ++ ⟨#[32]⟩ ++ ⟨#[40]⟩ ++ z ++ ⟨#[32]⟩) y (by simp only [ByteArray.size_append]; omega)
      have s6 := fun w => run_string_add_sum (P := Tryz.prog) w (x ++ ⟨#[32]⟩ ++ ⟨#[40]⟩ ++ z ++ ⟨#[32]⟩ ++ y) ⟨#[41]⟩ (by simp only [ByteArray.size_append]; omega)
      clear b1 b2 b3
      have hb0 := Blk.Is.new w 82 #[.string x, .int .i64 r, .string y]
      have hB0 : Below w.heap.size w (w.alloc (.cells #[.string x, .int .i64 r, .string y] 82)) := (Below.refl _ _).alloc (Nat.le_refl _) _
      go_enter Tryz.func126, Tryz.ntmps126
      go_wp2_with fail
      generalize w.alloc (.cells #[.string x, .int .i64 r, .string y] 82) = W at *
      refine (cm _ (HV.out.on hB0)).mono ?_
      rintro e w1 ⟨rfl, k1⟩
      have k1' := hB0.trans (k1.mono hB0.size)
      obtain ⟨c0, c1, c2⟩ := cells3 (is_on hb0 k1)
      have cg1 := fun n => cg (w1.drewN n) (((HV.out.on hB0).on k1).on (below_drewN w1 n)).signs
      have CG := Lib.hid cg1
      clear hb0 hB0 k1 cg cg1
      go_wp2_with fail
      go_quiet ((with_reducible exact Calls.quiet_of_same (CG.out _)))
      have kq := k1'.trans ((below_drewN w1 nq).mono k1'.size)
      generalize w1.drewN nq = wd at *
      go_wp2_with fail
      go_ret
      exact ⟨rfl, kq⟩
end Rl
end Go.Proofs.YtapmpdljapbpeaaGreatDoor
namespace Go.Proofs.YtapmpdljapbpeaaGreatDoor
open Go.RowKit
set_option linter.unusedSimpArgs false
set_option linter.unusedVariables false
namespace Rl
open Ver (Bs li li_len li_drop S S_self S_of S_size S_li below_drewN empty_is empty_no MaxLen Signs)
end Rl
end Go.Proofs.YtapmpdljapbpeaaGreatDoor

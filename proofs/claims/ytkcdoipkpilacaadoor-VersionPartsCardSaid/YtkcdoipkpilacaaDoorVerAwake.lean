/-
The versions that every program must know; Compare is an order.
-/
import Derived.Test.YtkcdoipkpilacaaDoorVerCompare
namespace Go.Proofs.YtkcdoipkpilacaaDoor
open Go.RowKit
set_option linter.unusedSimpArgs false
set_option linter.unusedVariables false
namespace Ver
theorem lit_rc : cmpV (li ⟨#[49, 46, 48, 126, 114, 99, 49]⟩) (li ⟨#[49, 46, 48]⟩) = -1 := by decide +kernel
theorem lit_epoch : cmpV (li ⟨#[49, 58, 48, 46, 49]⟩) (li ⟨#[57]⟩) = 1 := by decide +kernel
theorem lit_rev : cmpV (li ⟨#[49, 46, 48, 45, 49]⟩) (li ⟨#[49, 46, 48]⟩) = 1 := by decide +kernel
set_option maxRecDepth 100000 in
theorem awake_any (w : World) (hm : MaxLen w) : Calls Tryd.prog 15 #[] w fun e w' => e = .returned (.bool true) ∧ Below w.heap.size w w' := by
  have c1 := compare_any ⟨#[49, 46, 48, 126, 114, 99, 49]⟩ ⟨#[49, 46, 48]⟩ w (by decide) (by decide) hm
  have c2 := fun w hm => compare_any ⟨#[49, 58, 48, 46, 49]⟩ ⟨#[57]⟩ w (by decide) (by decide) hm
  have c3 := fun w hm => compare_any ⟨#[49, 46, 48, 45, 49]⟩ ⟨#[49, 46, 48]⟩ w (by decide) (by decide) hm
  rw [lit_rc] at c1
  rw [lit_epoch] at c2
  rw [lit_rev] at c3
  have HM := Lib.hid hm
  clear hm
  go_enter Tryd.func15, Tryd.ntmps15
  go_wp2_with fail
  refine c1.mono ?_
  rintro e w1 ⟨rfl, k1⟩
  go_wp2_with fail
  refine (c2 _ (HM.out.on k1)).mono ?_
  rintro e w2 ⟨rfl, k2⟩
  have k2' := k1.trans (k2.mono k1.size)
  go_wp2_with fail
  refine (c3 _ (HM.out.on k2')).mono ?_
  rintro e w3 ⟨rfl, k3⟩
  go_wp2_with fail
  go_ret
  exact ⟨rfl, k2'.trans (k3.mono k2'.size)⟩
/-! ### an order of versions -/
theorem cmpV_turn (a c : Bs) : cmpV c a = - cmpV a c := by
  unfold cmpV
  cases parse a with
  | none => cases parse c <;> rfl
  | some p =>
    cases parse c with
    | none => rfl
    | some q =>
      show cmpP q p = - cmpP p q
      unfold cmpP part
      rw [lex_turn (key none p.1) (key none q.1), lex_turn (key none p.2.1) (key none q.2.1), lex_turn (key none p.2.2) (key none q.2.2), orr_turn, orr_turn]
theorem cmpV_self (a : Bs) : cmpV a a = 0 := by
  unfold cmpV
  cases parse a with
  | none => rfl
  | some p =>
    show cmpP p p = 0
    unfold cmpP part
    rw [lex_self, lex_self, lex_self]
    rfl
theorem cmpV_one (a c : Bs) : One (cmpV a c) := by
  unfold cmpV
  cases parse a with
  | none => cases parse c <;> exact .inr (.inl rfl)
  | some p =>
    cases parse c with
    | none => exact .inr (.inl rfl)
    | some q => exact (one_lex _ _).or ((one_lex _ _).or (one_lex _ _))
theorem cmpV_tri {a c d : Bs} (ha : (parse a).isSome = true) (hc : (parse c).isSome = true) (hd : (parse d).isSome = true) : Tri (cmpV a c) (cmpV c d) (cmpV a d) := by
  unfold cmpV
  cases hpa : parse a with
  | none => rw [hpa] at ha; cases ha
  | some p =>
    cases hpc : parse c with
    | none => rw [hpc] at hc; cases hc
    | some q =>
      cases hpd : parse d with
      | none => rw [hpd] at hd; cases hd
      | some r => exact (lex_tri _ _ _).or ((lex_tri _ _ _).or (lex_tri _ _ _))
/-- What Parse tells, but for its errno's number and whatever the parts are. -/
theorem told_shape (o : Option (Bs × Bs × Bs)) : ∃ x y z : ByteArray, ∃ n : Int, toldV o = .tuple #[.string x, .string y, .string z, .int .i64 n] ∧ (o.isSome = true ↔ n = 0) ∧ (n = 0 ∨ n = 3) := by
  cases o with
  | none => exact ⟨_, _, _, 3, rfl, by simp, .inr rfl⟩
  | some p => exact ⟨_, _, _, 0, rfl, by simp, .inl rfl⟩
end Ver
end Go.Proofs.YtkcdoipkpilacaaDoor

/-
The versions that every program must know; Compare is an order.
-/
import Derived.Test.YtddfjndclgapcaaDoorVerCompare
namespace Go.Proofs.YtddfjndclgapcaaDoor
open Go.RowKit
set_option linter.unusedSimpArgs false
set_option linter.unusedVariables false
namespace Ver
theorem lit_rc : cmpV (li ⟨#[49, 46, 48, 126, 114, 99, 49]⟩) (li ⟨#[49, 46, 48]⟩) = -1 := by decide +kernel
theorem lit_epoch : cmpV (li ⟨#[49, 58, 48, 46, 49]⟩) (li ⟨#[57]⟩) = 1 := by decide +kernel
theorem lit_rev : cmpV (li ⟨#[49, 46, 48, 45, 49]⟩) (li ⟨#[49, 46, 48]⟩) = 1 := by decide +kernel
theorem cmpV_turn (a c : Bs) : cmpV c a = - cmpV a c := by
  unfold cmpV
  cases parse a with
  | none => cases parse c <;> rfl
  | some p =>
    cases parse c with
    | none => rfl
    | some q =>
      show cmpP q p = - cmpP p q
      unfold cmpP part
      rw [lex_turn (key none p.1) (key none q.1), lex_turn (key none p.2.1) (key none q.2.1), lex_turn (key none p.2.2) (key none q.2.2), orr_turn, orr_turn]
theorem cmpV_self (a : Bs) : cmpV a a = 0 := by
  unfold cmpV
  cases parse a with
  | none => rfl
  | some p =>
    show cmpP p p = 0
    unfold cmpP part
    rw [lex_self, lex_self, lex_self]
    rfl
theorem cmpV_one (a c : Bs) : One (cmpV a c) := by
  unfold cmpV
  cases parse a with
  | none => cases parse c <;> exact .inr (.inl rfl)
  | some p =>
    cases parse c with
    | none => exact .inr (.inl rfl)
    | some q => exact (one_lex _ _).or ((one_lex _ _).or (one_lex _ _))
theorem cmpV_tri {a c d : Bs} (ha : (parse a).isSome = true) (hc : (parse c).isSome = true) (hd : (parse d).isSome = true) : Tri (cmpV a c) (cmpV c d) (cmpV a d) := by
  unfold cmpV
  cases hpa : parse a with
  | none => rw [hpa] at ha; cases ha
  | some p =>
    cases hpc : parse c with
    | none => rw [hpc] at hc; cases hc
    | some q =>
      cases hpd : parse d with
      | none => rw [hpd] at hd; cases hd
      | some r => exact (lex_tri _ _ _).or ((lex_tri _ _ _).or (lex_tri _ _ _))
/-- What Parse tells, but for its errno's number and whatever the parts are. -/
theorem told_shape (o : Option (Bs × Bs × Bs)) : ∃ x y z : ByteArray, ∃ n : Int, toldV o = .tuple #[.string x, .string y, .string z, .int .i64 n] ∧ (o.isSome = true ↔ n = 0) ∧ (n = 0 ∨ n = 3) := by
  cases o with
  | none => exact ⟨_, _, _, 3, rfl, by simp, .inr rfl⟩
  | some p => exact ⟨_, _, _, 0, rfl, by simp, .inl rfl⟩
end Ver
end Go.Proofs.YtddfjndclgapcaaDoor

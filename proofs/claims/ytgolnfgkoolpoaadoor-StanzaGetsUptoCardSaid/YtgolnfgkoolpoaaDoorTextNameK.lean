/-
Names and numbers: text.Name, text.Number and their references by one reading of the bytes; the texts that every program must know.
-/
import Derived.Test.YtgolnfgkoolpoaaDoorTextGoodK
namespace Go.Proofs.YtgolnfgkoolpoaaDoor
open Go.RowKit
set_option linter.unusedSimpArgs false
set_option linter.unusedVariables false
namespace Txt
/-- May the byte at i stand in a name? -/
def okAt (s : ByteArray) (i : Nat) : Bool := ltr (b s i) || dgt (b s i) || (!decide (i = 0) && mrk (b s i))
def nameOK (s : ByteArray) : Prop := (2 ≤ s.size ∧ s.size ≤ 24) ∧ ∀ j, j < s.size → okAt s j = true
instance (s : ByteArray) : Decidable (nameOK s) := inferInstanceAs (Decidable (_ ∧ _))
theorem okAt_high {s : ByteArray} {i : Nat} (h : 128 ≤ b s i) : okAt s i = false := by
  unfold okAt ltr dgt mrk
  simp
  omega
theorem more {p : Nat → Bool} {i : Nat} (h : ∀ j, j < i → p j = true) (hi : p i = true) : ∀ j, j < i + 1 → p j = true := fun j hj => by
  by_cases e : j = i
  · subst e; exact hi
  · exact h j (by omega)
/-- The number that the first i bytes are. -/
def valP (s : ByteArray) : Nat → Nat
  | 0 => 0
  | i + 1 => 10 * valP s i + (b s i - 48)
def numOK (s : ByteArray) : Prop := ((1 ≤ s.size ∧ s.size ≤ 9) ∧ ¬ (1 < s.size ∧ b s 0 = 48)) ∧ ∀ j, j < s.size → dgt (b s j) = true
instance (s : ByteArray) : Decidable (numOK s) := inferInstanceAs (Decidable (_ ∧ _))
def numOf (s : ByteArray) : Nat := if numOK s then valP s s.size else 0
theorem valP_lt (s : ByteArray) : ∀ i, (∀ j, j < i → dgt (b s j) = true) → valP s i + 1 ≤ 10 ^ i
  | 0, _ => by simp [valP]
  | i + 1, h => by
    have h1 := valP_lt s i fun j hj => h j (by omega)
    have h2 := h i (by omega)
    have h3 : b s i - 48 ≤ 9 := by unfold dgt at h2; simp at h2; omega
    show 10 * valP s i + (b s i - 48) + 1 ≤ _
    rw [Nat.pow_succ]; omega
theorem valP_le (s : ByteArray) (i : Nat) (hi : i ≤ 9) (h : ∀ j, j < i → dgt (b s j) = true) : valP s i ≤ 999999999 := by
  have h1 := valP_lt s i h
  have h2 : 10 ^ i ≤ 10 ^ 9 := Nat.pow_le_pow_right (by omega) hi
  have h3 : (10 : Nat) ^ 9 = 1000000000 := by decide
  omega
theorem num_no {s : ByteArray} {G : Nat × Bool} (h : (numOf s, decide (numOK s)) = G) (hn : ¬ numOK s) : G = (0, false) := by
  rw [← h, decide_eq_false hn]; unfold numOf; rw [if_neg hn]
theorem num_yes {s : ByteArray} {G : Nat × Bool} (h : (numOf s, decide (numOK s)) = G) (hn : numOK s) : G = (valP s s.size, true) := by
  rw [← h, decide_eq_true hn]; unfold numOf; rw [if_pos hn]
end Txt
end Go.Proofs.YtgolnfgkoolpoaaDoor

/-
CnfMore: with a clause more no model holds that did not; what is held by each model that agrees somewhere.
-/
import Derived.Test.YtlpahomaokopoaaCnfBoth
namespace Go.Proofs.Ytlpahomaokopoaa
open Go.RowKit
set_option linter.unusedSimpArgs false
set_option linter.unusedVariables false
namespace Cn
/-- The literals that the model m makes so. -/
def ownL (m : List Bool) : Nat → List Int
  | 0 => []
  | k + 1 => ownL m k ++ [if m.getD k false = true then ((k : Int) + 1) else -((k : Int) + 1)]
def otherL (m : List Bool) (k : Nat) : List Int := (ownL m k).map fun x => -x
theorem ownL_len {m : List Bool} : ∀ k, (ownL m k).length = k
  | 0 => rfl
  | k + 1 => by unfold ownL; rw [List.length_append, ownL_len]; rfl
theorem otherL_len {m : List Bool} (k : Nat) : (otherL m k).length = k := by unfold otherL; rw [List.length_map, ownL_len]
theorem ownL_mem {m : List Bool} {x : Int} : ∀ {k : Nat}, x ∈ ownL m k → x ≠ 0 ∧ x.natAbs ≤ k ∧ so m x = true
  | 0, h => by simp [ownL] at h
  | k + 1, h => by
    unfold ownL at h
    rcases List.mem_append.1 h with h1 | h1
    · obtain ⟨a, b, c⟩ := ownL_mem h1
      exact ⟨a, by omega, c⟩
    · have e : x = if m.getD k false = true then ((k : Int) + 1) else -((k : Int) + 1) := by simpa using h1
      subst e
      by_cases hk : m.getD k false = true
      · rw [if_pos hk]
        refine ⟨by omega, by omega, ?_⟩
        unfold so
        rw [show ((k : Int) + 1).natAbs - 1 = k by omega, hk, decide_eq_true (by omega)]
        rfl
      · rw [if_neg hk]
        refine ⟨by omega, by omega, ?_⟩
        unfold so
        rw [show (-((k : Int) + 1)).natAbs - 1 = k by omega, decide_eq_false (by omega)]
        cases hh : m.getD k false with
        | true => exact absurd hh hk
        | false => rfl
theorem otherL_mem {m : List Bool} {x : Int} {k : Nat} (h : x ∈ otherL m k) : x ≠ 0 ∧ x.natAbs ≤ k ∧ so m x = false := by
  unfold otherL at h
  obtain ⟨y, hy, rfl⟩ := List.mem_map.1 h
  obtain ⟨a, b, c⟩ := ownL_mem hy
  exact ⟨by omega, by omega, by rw [so_neg a, c]; rfl⟩
theorem adds_yes {n : Nat} {L : List (List Int)} {c : List Int} (h : takes n L c = true) : adds n L c = addL L c := by unfold adds; rw [if_pos h]
theorem more_own {m : List Bool} {n : Nat} (hn : 0 < n) : takes n [] (ownL m n) = true ∧ holds m (adds n [] (ownL m n)) = true := by
  have ht : takes n [] (ownL m n) = true := by
    unfold takes
    rw [Bool.and_eq_true]
    exact ⟨rfl, mays_iff.2 fun x hx => ⟨(ownL_mem hx).1, (ownL_mem hx).2.1⟩⟩
  refine ⟨ht, ?_⟩
  rw [adds_yes ht, holds_addL (takes_0 ht)]
  have : holdsC m (ownL m n) = true := by
    unfold holdsC
    have hl := ownL_len (m := m) n
    obtain ⟨x, hx⟩ : ∃ x, x ∈ ownL m n := by
      cases h : ownL m n with
      | nil => rw [h] at hl; simp at hl; omega
      | cons y r => exact ⟨y, by simp⟩
    exact List.any_eq_true.2 ⟨x, hx, (ownL_mem hx).2.2⟩
  rw [this]
  rfl
theorem more_other {m : List Bool} {n : Nat} (hn : 0 < n) : takes n (adds n [] (ownL m n)) (otherL m n) = true ∧ holds m (adds n (adds n [] (ownL m n)) (otherL m n)) = false := by
  have h1 := (more_own (m := m) hn).1
  have ht : takes n (adds n [] (ownL m n)) (otherL m n) = true := by
    unfold takes
    rw [Bool.and_eq_true, decide_eq_true_eq]
    refine ⟨?_, mays_iff.2 fun x hx => ⟨(otherL_mem hx).1, (otherL_mem hx).2.1⟩⟩
    rw [adds_yes h1]
    unfold addL
    split <;> simp
  refine ⟨ht, ?_⟩
  rw [adds_yes ht, holds_addL (takes_0 ht)]
  have : holdsC m (otherL m n) = false := by
    unfold holdsC
    rw [List.any_eq_false]
    intro x hx
    rw [(otherL_mem hx).2.2]
    decide
  rw [this, Bool.and_false]
theorem more_less {m : List Bool} {n : Nat} {L : List (List Int)} {c : List Int} (h : holds m (adds n L c) = true) : holds m L = true := by
  cases ht : takes n L c with
  | true =>
    rw [adds_yes ht, holds_addL (takes_0 ht), Bool.and_eq_true] at h
    exact h.1
  | false =>
    unfold adds at h
    rwa [if_neg (by rw [ht]; decide)] at h
theorem mod_n (n : Int) (k : Nat) (hk : 0 < k) (hk2 : k ≤ 1000) : ∃ M : Nat, 1 ≤ M ∧ M ≤ k ∧ (IntKind.u64.wrap n).tmod (k : Int) + 1 = (M : Int) ∧ 0 ≤ (IntKind.u64.wrap n).tmod (k : Int) ∧ (IntKind.u64.wrap n).tmod (k : Int) < k := by
  have h1 : 0 ≤ IntKind.u64.wrap n := by simp [IntKind.wrap, IntKind.bits, IntKind.signed]; omega
  obtain ⟨m, hm⟩ : ∃ m : Nat, IntKind.u64.wrap n = (m : Int) := ⟨(IntKind.u64.wrap n).toNat, by omega⟩
  rw [hm]
  have e : (m : Int).tmod (k : Int) = ((m % k : Nat) : Int) := IntWalk.up_tmod rfl rfl
  rw [e]
  have := Nat.mod_lt m hk
  exact ⟨m % k + 1, by omega, by omega, by omega, by omega, by omega⟩
end Cn
end Go.Proofs.Ytlpahomaokopoaa

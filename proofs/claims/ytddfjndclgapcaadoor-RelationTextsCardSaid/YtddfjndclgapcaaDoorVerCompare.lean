/-
Compare, Same, Holds.
-/
import Derived.Test.YtddfjndclgapcaaDoorVerParse2
namespace Go.Proofs.YtddfjndclgapcaaDoor
open Go.RowKit
set_option linter.unusedSimpArgs false
set_option linter.unusedVariables false
namespace Ver
open Txt (b b_eq b_lt)
theorem parse_some {l : Bs} {p : Bs × Bs × Bs} (h : parse l = some p) : l.length ≤ 48 ∧ p.1.length ≤ 9 ∧ (∀ c ∈ p.1, dig c = true) ∧ p.2.1.length ≤ 48 ∧ p.2.2.length ≤ 48 := by
  by_cases hl : 1 ≤ l.length ∧ l.length ≤ 48
  · cases he : (epF l).2.2
    · rw [parse_ep he] at h; cases h
    · cases hr : (rvF (epF l).2.1).2.2
      · rw [parse_rv he hr] at h; cases h
      · rw [parse_up hl he hr] at h
        cases hu : upOK (rvF (epF l).2.1).1
        · rw [hu] at h; simp at h
        · rw [hu, if_pos rfl] at h
          cases h
          have l1 := epF_len l
          have l2 := rvF_len (epF l).2.1
          have l3 : (rvF (epF l).2.1).2.1.length ≤ (epF l).2.1.length := by
            unfold rvF
            cases hc : cutZ 45 (epF l).2.1 with
            | none => exact Nat.zero_le _
            | some p =>
              have := congrArg List.length (cutZ_parts _ _ p.1 p.2 hc)
              rw [List.length_append, List.length_cons] at this
              show p.2.length ≤ _
              omega
          have l4 : (epF l).1.length ≤ 9 ∧ ∀ c ∈ (epF l).1, dig c = true := by
            revert he
            unfold epF
            cases hc : cut1 58 l with
            | none =>
              intro _
              exact ⟨(by omega : (1 : Nat) ≤ 9), fun c hc => by
                have hc' : c = 48 := List.mem_singleton.1 hc
                subst hc'
                decide⟩
            | some p =>
              intro he
              have := of_decide_eq_true he
              exact ⟨this.2.1, fun c hc => List.all_eq_true.1 this.2.2 c hc⟩
          exact ⟨hl.2, l4.1, l4.2, by show (rvF (epF l).2.1).1.length ≤ 48; omega, by show (rvF (epF l).2.1).2.1.length ≤ 48; omega⟩
  · rw [parse_size hl] at h; cases h
theorem num_part {d f : Bs} (hd : ∀ c ∈ d, dig c = true) (hf : ∀ c ∈ f, dig c = true) : numB d f = part d f := by rw [num_val hd hf, part_digits hd hf]
theorem orl_three (p q r : Int) : orl [p, q, r] = orr p (orr q r) := by
  show orr p (orr q (orr r 0)) = _
  have : orr r 0 = r := by unfold orr; split <;> omega
  rw [this]
def sameV (a c : Bs) : Bool := (parse a).isSome && (parse c).isSome && decide (cmpV a c = 0)
/-- Does a stand so to c? -/
def holdsV (rel : Int) (a c : Bs) : Bool :=
  if rel = 0 then (parse a).isSome else
  (parse a).isSome && (parse c).isSome &&
    (if rel = 1 then decide (cmpV a c < 0) else if rel = 2 then decide (cmpV a c ≤ 0) else if rel = 3 then decide (cmpV a c = 0) else if rel = 4 then decide (0 ≤ cmpV a c) else if rel = 5 then decide (0 < cmpV a c) else false)
end Ver
end Go.Proofs.YtddfjndclgapcaaDoor

/-
Texts of as many fields, as many stanzas as may be, and more.
-/
import Derived.Test.YtgolnfgkoolpoaaDoorStzAwake
namespace Go.Proofs.YtgolnfgkoolpoaaDoor
open Go.RowKit
set_option linter.unusedSimpArgs false
set_option linter.unusedVariables false
namespace Stz
def fieldNums : Nat → List Int
  | 0 => []
  | k + 1 => fieldNums k ++ [102, 97 + ((k % 26 : Nat) : Int), 97 + ((k / 26 : Nat) : Int), 58, 10]
def szNums : Nat → List Int
  | 0 => []
  | k + 1 => szNums k ++ [120, 58, 32, 49, 10, 10]
theorem fieldNums_len (k : Nat) : (fieldNums k).length = 5 * k := by
  induction k with
  | zero => rfl
  | succ k ih => simp only [fieldNums, List.length_append, ih]; simp; omega
theorem szNums_len (k : Nat) : (szNums k).length = 6 * k := by
  induction k with
  | zero => rfl
  | succ k ih => simp only [szNums, List.length_append, ih]; simp; omega
/-- What reading a text's lines makes of it, where all of them are good. -/
theorem pr_of (t : List Int) (ls : List Bs) (l : List Sz) (er n : Nat) (h1 : ls = Txt.linesL (strOfNums t).data.toList) (h0 : ¬ 65536 < (strOfNums t).size) (h2 : ∀ x ∈ ls, Txt.E (S x) = 0) (h3 : parse ls = (l, er, n)) : PR (strOfNums t) l er n := by
  refine ⟨ls.map S, 0, 0, ?_, .inr ⟨rfl, by rw [bytes_S]; exact h3⟩⟩
  unfold Txt.LR
  rw [if_neg h0]
  refine .inl ⟨rfl, rfl, ?_, fun i hi => ?_⟩
  · unfold Txt.LinesOf
    rw [← h1]
    exact bytes_S ls
  · simp only [List.length_map] at hi
    rw [show (ls.map S).getD i ByteArray.empty = S (ls[i]) by simp [List.getD, hi]]
    exact h2 _ (List.getElem_mem hi)
def manyLines (t : List Int) : List Bs := Txt.linesL (strOfNums t).data.toList
def manyOK (t : List Int) (many : Bool) : Bool :=
  !decide (65536 < (strOfNums t).size) && (manyLines t).all (fun x => decide (Txt.E (S x) = 0)) && decide (decide ((parse (manyLines t)).2.1 = 12) = many)
theorem many_pr {t : List Int} {many : Bool} (h : manyOK t many = true) : ∃ l er n, PR (strOfNums t) l er n ∧ decide (er = 12) = many := by
  simp only [manyOK, Bool.and_eq_true, decide_eq_true_eq, Bool.not_eq_true', decide_eq_false_iff_not, List.all_eq_true] at h
  obtain ⟨⟨h1, h2⟩, h3⟩ := h
  exact ⟨_, _, _, pr_of t (manyLines t) _ _ _ rfl h1 h2 rfl, h3⟩
set_option maxRecDepth 100000 in
theorem many_f0 : manyOK (fieldNums 38) false = true := by decide +kernel
set_option maxRecDepth 100000 in
theorem many_f1 : manyOK (fieldNums 39) false = true := by decide +kernel
set_option maxRecDepth 100000 in
theorem many_f2 : manyOK (fieldNums 40) false = true := by decide +kernel
set_option maxRecDepth 100000 in
theorem many_f3 : manyOK (fieldNums 41) true = true := by decide +kernel
set_option maxRecDepth 100000 in
theorem many_s0 : manyOK (szNums 198) false = true := by decide +kernel
set_option maxRecDepth 100000 in
theorem many_s1 : manyOK (szNums 199) false = true := by decide +kernel
set_option maxRecDepth 100000 in
theorem many_s2 : manyOK (szNums 200) false = true := by decide +kernel
set_option maxRecDepth 100000 in
theorem many_s3 : manyOK (szNums 201) true = true := by decide +kernel
theorem fieldNums_many (M : Nat) (h : M < 4) : ∃ l er n, PR (strOfNums (fieldNums (38 + M))) l er n ∧ decide (er = 12) = decide (2 < M) := by
  rcases M with _ | _ | _ | _ | M
  · exact many_pr many_f0
  · exact many_pr many_f1
  · exact many_pr many_f2
  · exact many_pr many_f3
  · omega
theorem szNums_many (M : Nat) (h : M < 4) : ∃ l er n, PR (strOfNums (szNums (198 + M))) l er n ∧ decide (er = 12) = decide (2 < M) := by
  rcases M with _ | _ | _ | _ | M
  · exact many_pr many_s0
  · exact many_pr many_s1
  · exact many_pr many_s2
  · exact many_pr many_s3
  · omega
end Stz
end Go.Proofs.YtgolnfgkoolpoaaDoor

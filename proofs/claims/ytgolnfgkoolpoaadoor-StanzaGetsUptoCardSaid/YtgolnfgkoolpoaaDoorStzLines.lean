/-
Lines put together, and taken apart again; what a print is read as.
-/
import Derived.Test.YtgolnfgkoolpoaaDoorStzPrint
import Derived.Test.YtgolnfgkoolpoaaDoorStzMany
namespace Go.Proofs.YtgolnfgkoolpoaaDoor
open Go.RowKit
set_option linter.unusedSimpArgs false
set_option linter.unusedVariables false
namespace Stz
open Txt (spl put dl linesL)
theorem spl_line : ∀ (x r : Bs), (∀ c ∈ x, c ≠ 10) → spl (x ++ 10 :: r) = x :: spl r
  | [], r, _ => rfl
  | c :: x, r, h => by
    have e : spl (c :: (x ++ 10 :: r)) = if c = 10 then [] :: spl (x ++ 10 :: r) else put c (spl (x ++ 10 :: r)) := rfl
    rw [List.cons_append, e, if_neg (h c (by simp)), spl_line x r (fun d hd => h d (by simp [hd]))]
    rfl
theorem spl_fl : ∀ (ls : List Bs), (∀ x ∈ ls, ∀ c ∈ x, c ≠ 10) → spl (fl ls) = ls ++ [[]]
  | [], _ => rfl
  | x :: r, h => by
    show spl (x ++ 10 :: fl r) = _
    rw [spl_line x _ (h x (by simp)), spl_fl r (fun y hy => h y (by simp [hy]))]
    rfl
theorem lines_fl {ls : List Bs} (h : ∀ x ∈ ls, ∀ c ∈ x, c ≠ 10) : linesL (fl ls) = ls := by
  unfold linesL
  rw [spl_fl ls h, Txt.dl_last, if_pos rfl]
theorem ok_E {x : Bs} (h : LineOK x) : Txt.E (S x) = 0 := by
  unfold Txt.E
  have h1 : Txt.good (S x) = -1 := h.1
  rw [S_size, if_neg (by have := h.2; omega), if_neg (by rw [h1]; omega)]
theorem pr_lines {ls : List Bs} (hok : ∀ x ∈ ls, LineOK x) (hs : ¬ 65536 < (fl ls).length) {l : List Sz} {er n : Nat} (hp : parse ls = (l, er, n)) : PR (S (fl ls)) l er n := by
  refine ⟨ls.map S, 0, 0, ?_, .inr ⟨rfl, by rw [bytes_S]; exact hp⟩⟩
  unfold Txt.LR
  rw [S_size, if_neg hs]
  refine .inl ⟨rfl, rfl, ?_, fun i hi => ?_⟩
  · unfold Txt.LinesOf
    rw [S_data, lines_fl (fun x hx => good_plain (hok x hx).1)]
    exact bytes_S ls
  · simp only [List.length_map] at hi
    rw [show (ls.map S).getD i ByteArray.empty = S (ls[i]) by simp [List.getD, hi]]
    exact ok_E (hok _ (List.getElem_mem hi))
/-- WHAT IS PRINTED IS READ AS IT WAS. -/
theorem print_back {l : List Sz} (h : listErr l = 0) (hs : ¬ 65536 < (fl (allLines l)).length) : ∃ m, PR (S (fl (allLines l))) m 0 0 ∧ Like m l := by
  obtain ⟨m, hp, hk⟩ := parse_print h
  exact ⟨m, pr_lines (all_lines_ok l (list_each h).2) hs hp, hk⟩
theorem print_ok {l : List Sz} (h : (print l).2 = 0) : listErr l = 0 ∧ ¬ 65536 < (fl (allLines l)).length ∧ (print l).1 = fl (allLines l) := by
  unfold print at h ⊢
  split at h
  · rename_i hne
    exact absurd h hne
  · rename_i hne
    split at h
    · simp at h
    · rename_i hl
      exact ⟨Classical.not_not.1 hne, hl, by rw [if_neg hne, if_neg hl]⟩
theorem nums_S (l : Bs) : strOfNums (nums l) = S l := by
  apply ByteArray.ext
  simp [strOfNums, nums, S, List.map_map, Function.comp_def]
theorem BytesAt.conv {w : World} {v : Value} {l : Bs} (h : BytesAt w v l) : (convert 22 9 v).run Tryd.prog w = .ok (.string (S l)) w := by
  obtain ⟨a, cap, rfl, _, _, hr⟩ := h
  rw [hr.conv cap, nums_S]
end Stz
end Go.Proofs.YtgolnfgkoolpoaaDoor

/-
Part, and what a round of it takes.
-/
import Derived.Test.YtddfjndclgapcaaDoorVerOr
import Derived.StillTail
import Derived.StillTailTactics
namespace Go.Proofs.YtddfjndclgapcaaDoor
open Go.RowKit
set_option linter.unusedSimpArgs false
set_option linter.unusedVariables false
namespace Ver
open Txt (b b_eq b_lt)
def sigs (l : Bs) : Bs := l.take (spn false l)
def behind (l : Bs) : Bs := l.drop (spn false l)
def nums (l : Bs) : Bs := (behind l).take (spn true (behind l))
def rest (l : Bs) : Bs := (behind l).drop (spn true (behind l))
theorem pieces (l : Bs) : l = sigs l ++ (nums l ++ rest l) := by
  unfold sigs nums rest
  rw [List.take_append_drop]
  unfold behind
  rw [List.take_append_drop]
theorem nums_nil {l : Bs} (h : nums l = []) : rest l = [] := by
  unfold nums at h
  have h0 : spn true (behind l) = 0 := by
    have := spn_le true (behind l)
    have h2 := congrArg List.length h
    rw [List.length_take, List.length_nil] at h2
    omega
  unfold rest
  rw [h0, List.drop_zero]
  have h1 := spn_drop false l
  change headIs true (behind l) at h1
  cases hb : behind l with
  | nil => rfl
  | cons c r =>
    rw [hb] at h0 h1
    have h1' : dig c = true := h1
    simp [spn, h1'] at h0
theorem rest_head (l : Bs) : headNo dig (rest l) := by
  have h := spn_drop true (behind l)
  change headIs false (rest l) at h
  cases hb : rest l with
  | nil => trivial
  | cons c r => rw [hb] at h; exact h
theorem part_step (x y : Bs) : part x y = orr (lex ((sigs x).map rk) ((sigs y).map rk)) (orr (numB (nums x) (nums y)) (part (rest x) (rest y))) := by
  have hd : ∀ l : Bs, ∀ c ∈ nums l, dig c = true := fun l => spn_take true (behind l)
  have hs : ∀ l : Bs, ∀ c ∈ sigs l, dig c = false := fun l => spn_take false l
  rw [num_val (hd x) (hd y)]
  have := part_round (sigs x) (nums x) (rest x) (sigs y) (nums y) (rest y) (hs x) (hd x) (rest_head x) nums_nil (hs y) (hd y) (rest_head y) nums_nil
  rwa [← pieces, ← pieces] at this
theorem rest_le (l : Bs) : (rest l).length ≤ l.length := by
  unfold rest behind
  rw [List.length_drop, List.length_drop]; omega
theorem rest_lt {l : Bs} (h : l ≠ []) : (rest l).length < l.length := by
  unfold rest
  rw [List.length_drop]
  have h2 : (behind l).length = l.length - spn false l := by unfold behind; rw [List.length_drop]
  have h1 := spn_drop false l
  change headIs true (behind l) at h1
  have hl := spn_le false l
  have h0 : 0 < l.length := List.length_pos_iff.2 h
  cases hb : behind l with
  | nil => rw [hb] at h2; simp at h2 ⊢; omega
  | cons c r =>
    rw [hb] at h1 h2
    have h1' : dig c = true := h1
    have : spn true (c :: r) = spn true r + 1 := by rw [spn, if_pos h1']
    rw [this]
    simp only [List.length_cons] at h2 ⊢
    omega
theorem empty_is {s : ByteArray} (h : s.size = 0) : s.toList.isEmpty = true ∧ li s = [] := by
  have : li s = [] := List.eq_nil_of_length_eq_zero (by rw [li_len, h])
  rw [Lib.toList_data]
  exact ⟨by rw [show s.data.toList = [] from this]; rfl, this⟩
theorem empty_no {s : ByteArray} (h : s.size ≠ 0) : s.toList.isEmpty = false ∧ li s ≠ [] := by
  have : li s ≠ [] := fun e => h (by rw [← li_len, e]; rfl)
  rw [Lib.toList_data]
  refine ⟨?_, this⟩
  cases hq : s.data.toList with
  | nil => exact absurd hq this
  | cons _ _ => rfl
/-- A text's pieces by slices of it. -/
theorem slice_sigs (s : ByteArray) : li (s.extract 0 (spn false (li s))) = sigs (li s) := li_ext_zero _ _ (by rw [← li_len]; exact spn_le _ _)
theorem slice_behind (s : ByteArray) : li (s.extract (spn false (li s)) s.size) = behind (li s) := li_ext_end _ _
theorem below_drewN (w : World) : ∀ n, Below w.heap.size w (w.drewN n)
  | 0 => Below.refl _ _
  | n + 1 => ⟨rfl, rfl, rfl, Nat.le_refl _, fun _ _ => rfl⟩
end Ver
end Go.Proofs.YtddfjndclgapcaaDoor

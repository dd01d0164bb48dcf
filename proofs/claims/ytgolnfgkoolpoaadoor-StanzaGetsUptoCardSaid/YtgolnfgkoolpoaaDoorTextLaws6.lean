/-
The walk of the law TextLines.
-/
import Derived.Test.YtgolnfgkoolpoaaDoorLinesRef
namespace Go.Proofs.YtgolnfgkoolpoaaDoor
open Go.RowKit
set_option linter.unusedSimpArgs false
set_option linter.unusedVariables false
namespace Txt
theorem maxLen_of {w : World} (h : w.ShapedOpen Tryd.prog) : MaxLen w :=
  cell_of_shapedOpen_int (P := Tryd.prog) (g := 0) (t := 3) (zero := #[.int .i64 0]) (k := .i64) h (by decide +kernel) (by kernel_rfl) rfl (by kernel_rfl) (by kernel_rfl) Tryd.underlying3
/-- What is told of a row of bytes as lines. -/
def LR (s : ByteArray) (ls : List ByteArray) (e n : Nat) : Prop := if 65536 < s.size then ls = [] ∧ e = 2 ∧ n = 0 else LRes s ls e n
theorem LR.uniq {s : ByteArray} {ls ls' : List ByteArray} {e e' n n' : Nat} (h : LR s ls e n) (h' : LR s ls' e' n') : ls = ls' ∧ e = e' ∧ n = n' := by
  unfold LR at h h'
  split at h
  · next hc =>
    rw [if_pos hc] at h'
    obtain ⟨rfl, rfl, rfl⟩ := h
    obtain ⟨rfl, rfl, rfl⟩ := h'
    exact ⟨rfl, rfl, rfl⟩
  · next hc =>
    rw [if_neg hc] at h'
    exact LRes.uniq h h'
theorem lines_all (a : Option Addr) (len cap : Nat) (zs : List Int) (w : World) (hr : Row w a len zs) (hT : Lib.Utf8Tabs 1 2 w) (hm : MaxLen w) :
    Calls Tryd.prog 24 #[.slice a len cap] w fun e w' => ∃ v ls er n, e = .returned (.tuple #[v, .agg #[.int .i64 (er : Nat), .int .i64 (n : Nat)]]) ∧ LR (strOfNums zs) ls er n ∧ ls.length ≤ 65538 ∧ Texts w' v ls ∧ Below w.heap.size w w' := by
  have hsz : (strOfNums zs).size = len := by rw [strOfNums_size]; exact hr.count
  by_cases hl : 65536 < len
  · refine (lines_long a len cap w hl).mono fun e w' ⟨h1, h2⟩ => ⟨_, [], 2, 0, h1, ?_, by simp, Texts.none _, h2⟩
    unfold LR
    rw [if_pos (by omega)]
    exact ⟨rfl, rfl, rfl⟩
  · refine (lines_any a len cap zs w hr (by omega) hT hm).mono fun e w' ⟨v, ls, er, n, h1, h2, h3, h4, h5⟩ => ⟨v, ls, er, n, h1, ?_, h3, h4, h5⟩
    unfold LR
    rw [if_neg (by omega)]
    exact h2
theorem ylines_all (a : Option Addr) (len cap : Nat) (zs : List Int) (w : World) (hr : Row w a len zs) (hcap : len ≤ cap) :
    Calls Tryd.prog 26 #[.slice a len cap] w fun e w' => ∃ v ls er n, e = .returned (.tuple #[v, .agg #[.int .i64 (er : Nat), .int .i64 (n : Nat)]]) ∧ LR (strOfNums zs) ls er n ∧ ls.length ≤ 65538 ∧ Texts w' v ls ∧ Below w.heap.size w w' := by
  have hsz : (strOfNums zs).size = len := by rw [strOfNums_size]; exact hr.count
  by_cases hl : 65536 < len
  · refine (ylines_long a len cap w hl).mono fun e w' ⟨h1, h2⟩ => ⟨_, [], 2, 0, h1, ?_, by simp, Texts.none _, h2⟩
    unfold LR
    rw [if_pos (by omega)]
    exact ⟨rfl, rfl, rfl⟩
  · refine (ylines_any a len cap zs w hr (by omega) hcap).mono fun e w' ⟨v, ls, er, n, h1, h2, h3, h4, h5⟩ => ⟨v, ls, er, n, h1, ?_, h3, h4, h5⟩
    unfold LR
    rw [if_neg (by omega)]
    exact h2
end Txt
end Go.Proofs.YtgolnfgkoolpoaaDoor

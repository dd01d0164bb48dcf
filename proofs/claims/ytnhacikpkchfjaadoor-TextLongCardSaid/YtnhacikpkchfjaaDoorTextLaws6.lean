/-
The walk of the law TextLines.
-/
import Derived.Test.YtnhacikpkchfjaaDoorLinesRef
namespace Go.Proofs.YtnhacikpkchfjaaDoor
open Go.RowKit
set_option linter.unusedSimpArgs false
set_option linter.unusedVariables false
namespace Txt
theorem maxLen_of {w : World} (h : w.ShapedOpen Tryd.prog) : MaxLen w :=
  cell_of_shapedOpen_int (P := Tryd.prog) (g := 2) (t := 3) (zero := #[.int .i64 0]) (k := .i64) h (by decide +kernel) (by kernel_rfl) rfl (by kernel_rfl) (by kernel_rfl) Tryd.underlying3
/-- What is told of a row of bytes as lines. -/
def LR (s : ByteArray) (ls : List ByteArray) (e n : Nat) : Prop := if 65536 < s.size then ls = [] ∧ e = 2 ∧ n = 0 else LRes s ls e n
theorem LR.uniq {s : ByteArray} {ls ls' : List ByteArray} {e e' n n' : Nat} (h : LR s ls e n) (h' : LR s ls' e' n') : ls = ls' ∧ e = e' ∧ n = n' := by
  unfold LR at h h'
  split at h
  · next hc =>
    rw [if_pos hc] at h'
    obtain ⟨rfl, rfl, rfl⟩ := h
    obtain ⟨rfl, rfl, rfl⟩ := h'
    exact ⟨rfl, rfl, rfl⟩
  · next hc =>
    rw [if_neg hc] at h'
    exact LRes.uniq h h'
theorem lines_all (a : Option Addr) (len cap : Nat) (zs : List Int) (w : World) (hr : Row w a len zs) (hT : Lib.Utf8Tabs 0 1 w) (hm : MaxLen w) :
    Calls Tryd.prog 15 #[.slice a len cap] w fun e w' => ∃ v ls er n, e = .returned (.tuple #[v, .agg #[.int .i64 (er : Nat), .int .i64 (n : Nat)]]) ∧ LR (strOfNums zs) ls er n ∧ ls.length ≤ 65538 ∧ Texts w' v ls ∧ Below w.heap.size w w' := by
  have hsz : (strOfNums zs).size = len := by rw [strOfNums_size]; exact hr.count
  by_cases hl : 65536 < len
  · refine (lines_long a len cap w hl).mono fun e w' ⟨h1, h2⟩ => ⟨_, [], 2, 0, h1, ?_, by simp, Texts.none _, h2⟩
    unfold LR
    rw [if_pos (by omega)]
    exact ⟨rfl, rfl, rfl⟩
  · refine (lines_any a len cap zs w hr (by omega) hT hm).mono fun e w' ⟨v, ls, er, n, h1, h2, h3, h4, h5⟩ => ⟨v, ls, er, n, h1, ?_, h3, h4, h5⟩
    unfold LR
    rw [if_neg (by omega)]
    exact h2
theorem ylines_all (a : Option Addr) (len cap : Nat) (zs : List Int) (w : World) (hr : Row w a len zs) (hcap : len ≤ cap) :
    Calls Tryd.prog 16 #[.slice a len cap] w fun e w' => ∃ v ls er n, e = .returned (.tuple #[v, .agg #[.int .i64 (er : Nat), .int .i64 (n : Nat)]]) ∧ LR (strOfNums zs) ls er n ∧ ls.length ≤ 65538 ∧ Texts w' v ls ∧ Below w.heap.size w w' := by
  have hsz : (strOfNums zs).size = len := by rw [strOfNums_size]; exact hr.count
  by_cases hl : 65536 < len
  · refine (ylines_long a len cap w hl).mono fun e w' ⟨h1, h2⟩ => ⟨_, [], 2, 0, h1, ?_, by simp, Texts.none _, h2⟩
    unfold LR
    rw [if_pos (by omega)]
    exact ⟨rfl, rfl, rfl⟩
  · refine (ylines_any a len cap zs w hr (by omega) hcap).mono fun e w' ⟨v, ls, er, n, h1, h2, h3, h4, h5⟩ => ⟨v, ls, er, n, h1, ?_, h3, h4, h5⟩
    unfold LR
    rw [if_neg (by omega)]
    exact h2
set_option maxRecDepth 100000 in
set_option maxHeartbeats 2000000 in
theorem textLines_walk (a : Option Addr) (len cap : Nat) (zs : List Int) (w : World) (hr : Row w a len zs) (hcap : len ≤ cap) (hT : Lib.Utf8Tabs 0 1 w) (hm : MaxLen w) :
    Calls Tryd.prog 4 #[.slice a len cap] w fun e w' => e = .returned (.bool true) ∧ Below w.heap.size w w' := by
  have hl := tabs_lt hT
  have HT := Lib.hid hT
  have HR := Lib.hid hr
  have c1 := lines_all a len cap zs w hr hT hm
  clear hT hm hr
  go_enter Tryd.func4, Tryd.ntmps4
  go_wp2_with fail
  refine c1.mono ?_
  rintro e w1 ⟨v1, ls, er, n, rfl, h1, hls, t1, b1⟩
  have H1 := Lib.hid h1
  have T1 := Lib.hid t1
  have B1 := Lib.hid b1
  clear h1 t1 b1 c1
  go_wp2_with fail
  have bA : Below w.heap.size w (w1.alloc (.cells #[.int .i64 er, .int .i64 n] 29)) := B1.out.alloc B1.out.size _
  have iA := Blk.Is.new w1 29 #[.int .i64 er, .int .i64 n]
  have T2 := Lib.hid (T1.out.below ((Below.refl _ _).alloc (Nat.le_refl _) (.cells #[.int .i64 er, .int .i64 n] 29)))
  have sA : w1.heap.size < (w1.alloc (.cells #[.int .i64 er, .int .i64 n] 29)).heap.size := by simp
  obtain ⟨W, hW⟩ : ∃ W, w1.alloc (.cells #[.int .i64 er, .int .i64 n] 29) = W := ⟨_, rfl⟩
  rw [hW] at bA iA sA T2 ⊢
  refine (ylines_all a len cap zs W (HR.out.below bA) hcap).mono ?_
  rintro e w2 ⟨v2, ls', er', n', rfl, h2, hls', t2, b2⟩
  obtain ⟨rfl, rfl, rfl⟩ := H1.out.uniq h2
  have T3 := Lib.hid (T2.out.below b2)
  have T4 := Lib.hid t2
  have I2 := Lib.hid (show Blk.Is w2 w1.heap.size 29 #[.int .i64 er, .int .i64 n] from (b2.block _ sA).trans iA)
  have B2 := Lib.hid (bA.trans (b2.mono bA.size))
  have s2 : w1.heap.size < w2.heap.size := Nat.lt_of_lt_of_le sA b2.size
  clear h2 t2 b2 bA iA T2 T1 hW sA H1
  go_wp2_with fail
  have nA : Below w2.heap.size w2 (w2.alloc (.cells #[.int .i64 er, .int .i64 n] 29)) := (Below.refl _ _).alloc (Nat.le_refl _) _
  refine (sameTexts_any v1 v2 ls ls _ (T3.out.below nA) (T4.out.below nA)).mono ?_
  rintro e w3 ⟨rfl, b3⟩
  have iB := Blk.Is.new w2 29 #[.int .i64 er, .int .i64 n]
  have I3 : Blk.Is w3 w1.heap.size 29 #[.int .i64 er, .int .i64 n] := (b3.block _ (by simp; omega)).trans (I2.out.alloc _)
  have I4 : Blk.Is w3 w2.heap.size 29 #[.int .i64 er, .int .i64 n] := (b3.block _ (by simp)).trans iB
  have B3 := Lib.hid ((B2.out.trans (nA.mono B2.out.size)).trans (b3.mono (Nat.le_trans B2.out.size nA.size)))
  have i0 : w3.cell? ⟨w1.heap.size, 0, none⟩ = some (.int .i64 er) := I3.at rfl
  have i1 : w3.cell? ⟨w1.heap.size, 1, none⟩ = some (.int .i64 n) := I3.at rfl
  have j0 : w3.cell? ⟨w2.heap.size, 0, none⟩ = some (.int .i64 er) := I4.at rfl
  have j1 : w3.cell? ⟨w2.heap.size, 1, none⟩ = some (.int .i64 n) := I4.at rfl
  rw [show decide (ls = ls) = true from decide_eq_true rfl]
  clear nA b3 iB I3 I4 T3 T4 B2
  go_wp2_with fail
  refine (awake_any w3 (tabs_below HT.out B3.out hl)).mono ?_
  rintro e w4 ⟨rfl, b4⟩
  have B4 := Lib.hid (B3.out.trans (b4.mono B3.out.size))
  clear b4 B3
  go_wp2_with fail
  go_ret
  exact ⟨rfl, B4.out⟩
end Txt
end Go.Proofs.YtnhacikpkchfjaaDoor

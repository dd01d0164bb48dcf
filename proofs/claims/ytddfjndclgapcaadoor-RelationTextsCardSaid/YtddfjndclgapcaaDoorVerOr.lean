/-
The library's Or of some numbers; rows of digits by their numbers.
-/
import Derived.Test.YtddfjndclgapcaaDoorVerNum
namespace Go.Proofs.YtddfjndclgapcaaDoor
open Go.RowKit
set_option linter.unusedSimpArgs false
set_option linter.unusedVariables false
namespace Ver
open Txt (b b_eq b_lt)
/-- The first that is not 0. -/
def orl : List Int → Int
  | [] => 0
  | x :: r => orr x (orl r)
theorem trimLeft_strip : ∀ l : Bs, Lib.trimLeftB l 48 = strip l
  | [] => by first | rfl | simp [Lib.trimLeftB, strip]
  | c :: r => by
    have := trimLeft_strip r
    unfold strip
    by_cases h : c = 48
    · subst h; rw [if_pos rfl, ← this]; first | rfl | simp [Lib.trimLeftB]
    · rw [if_neg h]; first | rfl | simp [Lib.trimLeftB, h]
/-- A list of bytes as a string. -/
def S (l : Bs) : ByteArray := ⟨l.toArray⟩
theorem S_li (l : Bs) : li (S l) = l := by simp [S]
theorem S_of {t : ByteArray} {l : Bs} (h : li t = l) : t = S l := by
  subst h
  apply ByteArray.ext
  simp [S]
theorem S_self (t : ByteArray) : S (li t) = t := (S_of rfl).symm
theorem S_size (l : Bs) : (S l).size = l.length := by rw [← li_len, S_li]
theorem cmp_sgn (x y : Int) : Lib.compareInt x y = sgn x y := by
  unfold Lib.compareInt sgn
  (repeat' split) <;> omega
end Ver
end Go.Proofs.YtddfjndclgapcaaDoor

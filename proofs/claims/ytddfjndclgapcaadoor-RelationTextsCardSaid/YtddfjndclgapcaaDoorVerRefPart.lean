/-
The reference's Part.
-/
import Derived.Test.YtddfjndclgapcaaDoorVerRef
namespace Go.Proofs.YtddfjndclgapcaaDoor
open Go.RowKit
set_option linter.unusedSimpArgs false
set_option linter.unusedVariables false
namespace Ver
open Txt (b b_eq b_lt)
theorem cmp_step (x y : Bs) (i : Nat) (h1 : i < x.length) (h2 : i < y.length) : Lib.compareBytes (x.drop i) (y.drop i) = orr (sgn (x[i].toNat : Int) (y[i].toNat : Int)) (Lib.compareBytes (x.drop (i + 1)) (y.drop (i + 1))) := by
  rw [List.drop_eq_getElem_cons h1, List.drop_eq_getElem_cons h2, Lib.compareBytes]
  generalize x[i] = c
  generalize y[i] = d
  unfold sgn orr
  have e1 : (c < d) = ((c.toNat : Int) < d.toNat) := by rw [UInt8.lt_iff_toNat_lt]; simp
  have e2 : (d < c) = ((d.toNat : Int) < c.toNat) := by rw [UInt8.lt_iff_toNat_lt]; simp
  simp only [e1, e2]
  (repeat' split) <;> simp_all
theorem get_b (s : ByteArray) (i : Nat) (h : i < s.size) (h' : i < (li s).length) : (li s)[i].toNat = b s i := by
  unfold b; rw [dif_pos h]; rfl
theorem strip_len : ∀ d : Bs, (strip d).length ≤ d.length
  | [] => Nat.le_refl _
  | c :: d => by
    unfold strip
    split
    · exact Nat.le_trans (strip_len d) (by simp)
    · exact Nat.le_refl _
end Ver
end Go.Proofs.YtddfjndclgapcaaDoor

/-
What the rows of package relation list of variables: the variable signs of package version; the variable of the library that Cut names.
-/
import Derived.Test.YtapmpdljapbpeaaGreatDoorRows
import Derived.Test.YtapmpdljapbpeaaGreatDoorRelMay
import Derived.Shelf.Vars
import Derived.HandedShaped
import Derived.LaidLaws
import Derived.LaidMore
import Derived.Lib.LaidU8
namespace Go.Proofs.YtapmpdljapbpeaaGreatDoor
open Go Go.Lib Go.RowKit
set_option maxRecDepth 100000
set_option linter.unusedSimpArgs false
namespace Rl
open Ver (MaxLen Signs)
def listed : List (String × DataW Unit) := [("chandler/version.signs", Rows.laid_chandler_version_signs)]
theorem maxLen_of {w : World} (h : w.ShapedOpen Tryz.prog) : MaxLen w :=
  cell_of_shapedOpen_int (P := Tryz.prog) (g := 2) (t := 3) (zero := #[.int .i64 0]) (k := .i64) h (by decide +kernel) (by kernel_rfl) rfl (by kernel_rfl) (by kernel_rfl) Tryz.underlying3
theorem signs_of_laid {W : World} (h : laidMetH Tryz.prog listed W) : Signs W := by
  intro i hi
  rw [MakeChecks.laidMetH_plain _ _ _ (by kernel_rfl)] at h
  obtain ⟨g, t, cs, fuel, p, hg, hty, hvar, hd⟩ := Lib.laidMet.reads h (.head _)
  have hgn : Tryz.prog.globalNamed "chandler/version.signs" = some 0 := by kernel_rfl
  have htn : (Tryz.prog.globals[0]?).map (·.type) = some 170 := by kernel_rfl
  obtain rfl := Option.some.inj (hgn.symm.trans hg)
  obtain rfl := Option.some.inj (htn.symm.trans hty)
  have hu : Tryz.prog.underlying 170 = some (.array 6 9) := by kernel_rfl
  have hc : Tryz.prog.cellsOf 9 = 1 := by kernel_rfl
  obtain ⟨fuel', d, q, hdi, he⟩ := Lib.array_elem hu hd i hi
  obtain ⟨s, hs1, hs2, _⟩ := DataW.trod_string (by kernel_rfl : Tryz.prog.underlying 9 = some .string) he
  rw [hc, Nat.mul_one] at hs1
  have hcell : cs.toList[i]? = some (.string s) := by
    have := congrArg (·[0]?) hs1
    simpa [List.getElem?_take, List.getElem?_drop] using this
  rw [World.var?_cell hg hvar i, ← Array.getElem?_toList, hcell]
  simp only [Prod.mk.injEq] at hs2
  obtain ⟨rfl, _⟩ := hs2
  have hS : ∀ l : List UInt8, s.data.toList = l → s = ⟨l.toArray⟩ := fun l e => by
    apply ByteArray.ext
    rw [← e]
  have hcase : i = 0 ∨ i = 1 ∨ i = 2 ∨ i = 3 ∨ i = 4 ∨ i = 5 := by omega
  rcases hcase with rfl | rfl | rfl | rfl | rfl | rfl
  all_goals
    simp only [Rows.laid_chandler_version_signs, List.getElem?_cons_zero, List.getElem?_cons_succ, Option.some.injEq, DataW.lit.injEq, Lit.string.injEq] at hdi
    rw [hS _ hdi.symm]
    rfl
theorem vars_of {W : World} (hL : laidMetH Tryz.prog listed W) (hSh : W.ShapedOpen Tryz.prog) : Vars W := ⟨maxLen_of hSh, signs_of_laid hL⟩
end Rl
end Go.Proofs.YtapmpdljapbpeaaGreatDoor

/-
What the rows of ValueWrites and ValueBack list of variables.
-/
import Derived.Test.YtapmpdljapbpeaaGreatDoorRelTabs
import Derived.Test.YtapmpdljapbpeaaGreatDoorValWrite
import Derived.LaidSub
namespace Go.Proofs.YtapmpdljapbpeaaGreatDoor
open Go Go.Lib Go.RowKit
set_option maxRecDepth 100000
set_option linter.unusedSimpArgs false
namespace Va
def listed : List (String × DataW Unit) := [("math/bits.deBruijn32tab", Rows.laid_math_bits_deBruijn32tab), ("math/bits.deBruijn64tab", Rows.laid_math_bits_deBruijn64tab), ("internal/strconv.uint64pow10", Rows.laid_internal_strconv_uint64pow10), ("chandler/version.signs", Rows.laid_chandler_version_signs)]
theorem rl_of {W : World} (h : laidMetH Tryz.prog listed W) : laidMetH Tryz.prog Rl.listed W :=
  h.filter (fun x => x.1 == "chandler/version.signs")
theorem pow_of {W : World} (h : laidMetH Tryz.prog listed W) : Pow W := by
  rw [MakeChecks.laidMetH_plain _ _ _ (by kernel_rfl)] at h
  obtain ⟨g, t, cs, fuel, p, hg, hty, hvar, hd⟩ := Lib.laidMet.reads h (n := "internal/strconv.uint64pow10") (d := Rows.laid_internal_strconv_uint64pow10) (.tail _ (.tail _ (.head _)))
  have hgn : Tryz.prog.globalNamed "internal/strconv.uint64pow10" = some 1 := by kernel_rfl
  have htn : (Tryz.prog.globals[1]?).map (·.type) = some 182 := by kernel_rfl
  obtain rfl := Option.some.inj (hgn.symm.trans hg)
  obtain rfl := Option.some.inj (htn.symm.trans hty)
  have hu : Tryz.prog.underlying 182 = some (.array 20 158) := by kernel_rfl
  have he : Tryz.prog.underlying 158 = some (.int .u64) := by kernel_rfl
  have hc : Tryz.prog.cellsOf 158 = 1 := by kernel_rfl
  have hct : Tryz.prog.cellsOf 182 = 20 := by kernel_rfl
  unfold Pow TabIs
  rw [hvar]
  have hk : Rows.laid_internal_strconv_uint64pow10 = (tabData .u64 pow10Tab : DataW Unit) := by rfl
  rw [hk] at hd
  rw [← cells_of_tab hu he hc hct hd]
structure VarsP (w : World) : Prop where
  v : Rl.Vars w
  p : Pow w
theorem varsP_of {W : World} (hL : laidMetH Tryz.prog listed W) (hSh : W.ShapedOpen Tryz.prog) : VarsP W := ⟨Rl.vars_of (rl_of hL) hSh, pow_of hL⟩
end Va
end Go.Proofs.YtapmpdljapbpeaaGreatDoor

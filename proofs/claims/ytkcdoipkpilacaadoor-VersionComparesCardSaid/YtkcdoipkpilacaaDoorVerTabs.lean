/-
What the rows of package version list of variables; the variable of the library that Cut names.
-/
import Derived.Test.YtkcdoipkpilacaaDoorRows
import Derived.Test.YtkcdoipkpilacaaDoorVerParse
import Derived.Shelf.Vars
import Derived.HandedShaped
import Derived.LaidLaws
import Derived.LaidMore
namespace Go.Proofs.YtkcdoipkpilacaaDoor
open Go Go.Lib
set_option maxRecDepth 100000
namespace Ver
def listed : List (String × DataW Unit) := [("unicode/utf8.acceptRanges", Rows.laid_unicode_utf8_acceptRanges), ("unicode/utf8.first", Rows.laid_unicode_utf8_first)]
def listedS : List (String × DataW Unit) := [("unicode/utf8.acceptRanges", Rows.laid_unicode_utf8_acceptRanges), ("chandler/version.signs", Rows.laid_chandler_version_signs), ("unicode/utf8.first", Rows.laid_unicode_utf8_first)]
theorem maxLen_of {w : World} (h : w.ShapedOpen Tryd.prog) : MaxLen w :=
  cell_of_shapedOpen_int (P := Tryd.prog) (g := 1) (t := 3) (zero := #[.int .i64 0]) (k := .i64) h (by decide +kernel) (by kernel_rfl) rfl (by kernel_rfl) (by kernel_rfl) Tryd.underlying3
end Ver
end Go.Proofs.YtkcdoipkpilacaaDoor

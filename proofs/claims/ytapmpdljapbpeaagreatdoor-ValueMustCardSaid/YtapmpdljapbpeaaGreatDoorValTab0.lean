/-
What the rows list of variables where the walk reads none of them.
-/
import Derived.Test.YtapmpdljapbpeaaGreatDoorRows
import Derived.Shelf.Vars
import Derived.HandedShaped
import Derived.LaidLaws
import Derived.LaidMore
namespace Go.Proofs.YtapmpdljapbpeaaGreatDoor
namespace Va
def listed0 : List (String × DataW Unit) := [("chandler/version.signs", Rows.laid_chandler_version_signs)]
end Va
end Go.Proofs.YtapmpdljapbpeaaGreatDoor

/-
The reference's Number, and the texts that every program must know.
-/
import Derived.Test.YtapmpdljapbpeaaGreatDoorTextSmallK
namespace Go.Proofs.YtapmpdljapbpeaaGreatDoor
open Go.RowKit
set_option linter.unusedSimpArgs false
set_option linter.unusedVariables false
namespace Txt
theorem lib_name : decide (nameOK ⟨#[108, 105, 98, 99, 54]⟩) = true := by decide +kernel
theorem c_name : decide (nameOK ⟨#[67]⟩) = false := by decide +kernel
theorem lit_good : good ⟨#[97, 195, 169, 255]⟩ = 3 := by decide +kernel
end Txt
end Go.Proofs.YtapmpdljapbpeaaGreatDoor

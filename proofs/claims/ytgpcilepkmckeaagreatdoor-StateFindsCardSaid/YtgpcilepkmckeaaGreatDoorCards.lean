/-
  DERIVED. GIVEN WITH THE SEED: THE CARDS: each row of YtgpcilepkmckeaaGreatDoorRows.lean that lists a variable, with what it lists TIED to the program's text (the seventh form; the later family's looks); each row that meets fmt, with fmt's text TOLD by the authors' own Lean function (tested against real Go, not proved from fmt's source: count such statements apart). THE CARD IS WHAT COUNTS. Prove the row's statement (the work); the ties are given (YtgpcilepkmckeaaGreatDoorTie.lean); close each card by the builder's one call (the guide's Derived/Test/ToyasCard.lean, 'card_holds'). Laid BY PROGRAM, IN A SANDBOX (cutbox-door.mjs). By AI agents, Wed Nov 11 2026. No macro, syntax, notation, axiom, sorry.
-/
import Derived.Test.YtgpcilepkmckeaaGreatDoorRows
import GoSem.ClaimSeven
namespace Go.Proofs.YtgpcilepkmckeaaGreatDoor
namespace Rows

/-- THE TIED CARD OF 'chandlerlaw11.StateHealthy'. -/
def stateHealthyCard : Claim7 := { stood := { row := stateHealthyRow, standIns := [], harness := (true, "c45bc063313d323d153294ecba2dc19c7b47d41084784eb7b695c37488a2e16a"), looks := false }, kinds := [], alts := [], laidByText := true, laidKinds := [.data, .data, .pinned], laidTests := true, laidLooks := .later }
def StateHealthyCardSaid : Prop := Claim7.holds Tryz.pinned (.plain (OpenSpec.ofChange stateHealthySpec)) stateHealthyCard

/-- THE TIED CARD OF 'chandlerlaw11.StateFinds'. -/
def stateFindsCard : Claim7 := { stood := { row := stateFindsRow, standIns := [], harness := (true, "c45bc063313d323d153294ecba2dc19c7b47d41084784eb7b695c37488a2e16a"), looks := false }, kinds := [], alts := [], laidByText := true, laidKinds := [.data, .data, .pinned], laidTests := true, laidLooks := .later }
def StateFindsCardSaid : Prop := Claim7.holds Tryz.pinned (.plain (OpenSpec.ofChange stateFindsSpec)) stateFindsCard

/-- THE TIED CARD OF 'chandlerlaw11.StateSound'. -/
def stateSoundCard : Claim7 := { stood := { row := stateSoundRow, standIns := [], harness := (true, "c45bc063313d323d153294ecba2dc19c7b47d41084784eb7b695c37488a2e16a"), looks := false }, kinds := [], alts := [], laidByText := true, laidKinds := [.data, .data, .pinned], laidTests := true, laidLooks := .later }
def StateSoundCardSaid : Prop := Claim7.holds Tryz.pinned (.plain (OpenSpec.ofChange stateSoundSpec)) stateSoundCard

/-- THE SECOND FORM's CARD OF 'chandlerlaw11.StateHealthy'. -/
def stateHealthyUptoCard : Claim7 := { stood := { row := stateHealthyUptoRow, standIns := [], harness := (true, "c45bc063313d323d153294ecba2dc19c7b47d41084784eb7b695c37488a2e16a"), looks := false }, kinds := [], alts := [], laidByText := true, laidKinds := [.data, .data, .pinned], laidTests := true, laidLooks := .later }
def StateHealthyUptoCardSaid : Prop := Claim7.holds Tryz.pinned (.plain (OpenSpec.upto stateHealthySpec)) stateHealthyUptoCard

/-- THE SECOND FORM's CARD OF 'chandlerlaw11.StateFinds'. -/
def stateFindsUptoCard : Claim7 := { stood := { row := stateFindsUptoRow, standIns := [], harness := (true, "c45bc063313d323d153294ecba2dc19c7b47d41084784eb7b695c37488a2e16a"), looks := false }, kinds := [], alts := [], laidByText := true, laidKinds := [.data, .data, .pinned], laidTests := true, laidLooks := .later }
def StateFindsUptoCardSaid : Prop := Claim7.holds Tryz.pinned (.plain (OpenSpec.upto stateFindsSpec)) stateFindsUptoCard

/-- THE SECOND FORM's CARD OF 'chandlerlaw11.StateSound'. -/
def stateSoundUptoCard : Claim7 := { stood := { row := stateSoundUptoRow, standIns := [], harness := (true, "c45bc063313d323d153294ecba2dc19c7b47d41084784eb7b695c37488a2e16a"), looks := false }, kinds := [], alts := [], laidByText := true, laidKinds := [.data, .data, .pinned], laidTests := true, laidLooks := .later }
def StateSoundUptoCardSaid : Prop := Claim7.holds Tryz.pinned (.plain (OpenSpec.upto stateSoundSpec)) stateSoundUptoCard
end Rows
end Go.Proofs.YtgpcilepkmckeaaGreatDoor

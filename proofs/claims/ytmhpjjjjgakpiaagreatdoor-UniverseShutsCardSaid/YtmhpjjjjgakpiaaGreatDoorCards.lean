/-
  DERIVED. GIVEN WITH THE SEED: THE CARDS: each row of YtmhpjjjjgakpiaaGreatDoorRows.lean that lists a variable, with what it lists TIED to the program's text (the seventh form; the later family's looks); each row that meets fmt, with fmt's text TOLD by the authors' own Lean function (tested against real Go, not proved from fmt's source: count such statements apart). THE CARD IS WHAT COUNTS. Prove the row's statement (the work); the ties are given (YtmhpjjjjgakpiaaGreatDoorTie.lean); close each card by the builder's one call (the guide's Derived/Test/ToyasCard.lean, 'card_holds'). Laid BY PROGRAM, IN A SANDBOX (cutbox-door.mjs). By AI agents, Wed Nov 11 2026. No macro, syntax, notation, axiom, sorry.
-/
import Derived.Test.YtmhpjjjjgakpiaaGreatDoorRows
import GoSem.ClaimSeven
namespace Go.Proofs.YtmhpjjjjgakpiaaGreatDoor
namespace Rows

/-- THE TIED CARD OF 'chandlerlaw12.UniverseAll'. -/
def universeAllCard : Claim7 := { stood := { row := universeAllRow, standIns := [], harness := (true, "7205ee5f3006e4cb0ec0ed4dc3d28795a1a206eb448d0cd12e4c38490d1e207c"), looks := false }, kinds := [], alts := [], laidByText := true, laidKinds := [.data, .data, .pinned], laidTests := true, laidLooks := .later }
def UniverseAllCardSaid : Prop := Claim7.holds Tryz.pinned (.plain (OpenSpec.ofChange universeAllSpec)) universeAllCard

/-- THE TIED CARD OF 'chandlerlaw12.UniverseOf'. -/
def universeOfCard : Claim7 := { stood := { row := universeOfRow, standIns := [], harness := (true, "7205ee5f3006e4cb0ec0ed4dc3d28795a1a206eb448d0cd12e4c38490d1e207c"), looks := false }, kinds := [], alts := [], laidByText := true, laidKinds := [.data, .data, .pinned], laidTests := true, laidLooks := .later }
def UniverseOfCardSaid : Prop := Claim7.holds Tryz.pinned (.plain (OpenSpec.ofChange universeOfSpec)) universeOfCard

/-- THE TIED CARD OF 'chandlerlaw12.UniverseGrows'. -/
def universeGrowsCard : Claim7 := { stood := { row := universeGrowsRow, standIns := [], harness := (true, "7205ee5f3006e4cb0ec0ed4dc3d28795a1a206eb448d0cd12e4c38490d1e207c"), looks := false }, kinds := [], alts := [], laidByText := true, laidKinds := [.data, .data, .pinned], laidTests := true, laidLooks := .later }
def UniverseGrowsCardSaid : Prop := Claim7.holds Tryz.pinned (.plain (OpenSpec.ofChange universeGrowsSpec)) universeGrowsCard

/-- THE TIED CARD OF 'chandlerlaw12.UniverseShuts'. -/
def universeShutsCard : Claim7 := { stood := { row := universeShutsRow, standIns := [], harness := (true, "7205ee5f3006e4cb0ec0ed4dc3d28795a1a206eb448d0cd12e4c38490d1e207c"), looks := false }, kinds := [], alts := [], laidByText := true, laidKinds := [.data, .data, .pinned], laidTests := true, laidLooks := .later }
def UniverseShutsCardSaid : Prop := Claim7.holds Tryz.pinned (.plain (OpenSpec.ofChange universeShutsSpec)) universeShutsCard

/-- THE SECOND FORM's CARD OF 'chandlerlaw12.UniverseAll'. -/
def universeAllUptoCard : Claim7 := { stood := { row := universeAllUptoRow, standIns := [], harness := (true, "7205ee5f3006e4cb0ec0ed4dc3d28795a1a206eb448d0cd12e4c38490d1e207c"), looks := false }, kinds := [], alts := [], laidByText := true, laidKinds := [.data, .data, .pinned], laidTests := true, laidLooks := .later }
def UniverseAllUptoCardSaid : Prop := Claim7.holds Tryz.pinned (.plain (OpenSpec.upto universeAllSpec)) universeAllUptoCard

/-- THE SECOND FORM's CARD OF 'chandlerlaw12.UniverseOf'. -/
def universeOfUptoCard : Claim7 := { stood := { row := universeOfUptoRow, standIns := [], harness := (true, "7205ee5f3006e4cb0ec0ed4dc3d28795a1a206eb448d0cd12e4c38490d1e207c"), looks := false }, kinds := [], alts := [], laidByText := true, laidKinds := [.data, .data, .pinned], laidTests := true, laidLooks := .later }
def UniverseOfUptoCardSaid : Prop := Claim7.holds Tryz.pinned (.plain (OpenSpec.upto universeOfSpec)) universeOfUptoCard

/-- THE SECOND FORM's CARD OF 'chandlerlaw12.UniverseGrows'. -/
def universeGrowsUptoCard : Claim7 := { stood := { row := universeGrowsUptoRow, standIns := [], harness := (true, "7205ee5f3006e4cb0ec0ed4dc3d28795a1a206eb448d0cd12e4c38490d1e207c"), looks := false }, kinds := [], alts := [], laidByText := true, laidKinds := [.data, .data, .pinned], laidTests := true, laidLooks := .later }
def UniverseGrowsUptoCardSaid : Prop := Claim7.holds Tryz.pinned (.plain (OpenSpec.upto universeGrowsSpec)) universeGrowsUptoCard

/-- THE SECOND FORM's CARD OF 'chandlerlaw12.UniverseShuts'. -/
def universeShutsUptoCard : Claim7 := { stood := { row := universeShutsUptoRow, standIns := [], harness := (true, "7205ee5f3006e4cb0ec0ed4dc3d28795a1a206eb448d0cd12e4c38490d1e207c"), looks := false }, kinds := [], alts := [], laidByText := true, laidKinds := [.data, .data, .pinned], laidTests := true, laidLooks := .later }
def UniverseShutsUptoCardSaid : Prop := Claim7.holds Tryz.pinned (.plain (OpenSpec.upto universeShutsSpec)) universeShutsUptoCard
end Rows
end Go.Proofs.YtmhpjjjjgakpiaaGreatDoor

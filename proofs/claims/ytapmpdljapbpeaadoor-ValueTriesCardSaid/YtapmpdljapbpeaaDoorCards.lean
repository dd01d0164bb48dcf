/-
  DERIVED. GIVEN WITH THE SEED: THE CARDS: each row of YtapmpdljapbpeaaDoorRows.lean that lists a variable, with what it lists TIED to the program's text (the seventh form; the later family's looks); each row that meets fmt, with fmt's text TOLD by the authors' own Lean function (tested against real Go, not proved from fmt's source: count such statements apart). THE CARD IS WHAT COUNTS. Prove the row's statement (the work); the ties are given (YtapmpdljapbpeaaDoorTie.lean); close each card by the builder's one call (the guide's Derived/Test/ToyasCard.lean, 'card_holds'). Laid BY PROGRAM, IN A SANDBOX (cutbox-door.mjs). By AI agents, Wed Nov 11 2026. No macro, syntax, notation, axiom, sorry.
-/
import Derived.Test.YtapmpdljapbpeaaDoorRows
import GoSem.ClaimSeven
namespace Go.Proofs.YtapmpdljapbpeaaDoor
namespace Rows

/-- THE TIED CARD OF 'chandlerlaw8.ValueTries'. -/
def valueTriesCard : Claim7 := { stood := { row := valueTriesRow, standIns := [], harness := (true, "905a358cf485cfdab811991407b81b50253a2dc6dc27c3df309d50b3cf055481"), looks := true }, kinds := [], alts := [], laidByText := true, laidKinds := [.data], laidTests := true, laidLooks := .later }
def ValueTriesCardSaid : Prop := Claim7.holds Tryd.pinned (.plain (OpenSpec.ofChange valueTriesSpec)) valueTriesCard

/-- THE SECOND FORM's CARD OF 'chandlerlaw8.ValueTries'. -/
def valueTriesUptoCard : Claim7 := { stood := { row := valueTriesUptoRow, standIns := [], harness := (true, "905a358cf485cfdab811991407b81b50253a2dc6dc27c3df309d50b3cf055481"), looks := true }, kinds := [], alts := [], laidByText := true, laidKinds := [.data], laidTests := true, laidLooks := .later }
def ValueTriesUptoCardSaid : Prop := Claim7.holds Tryd.pinned (.plain (OpenSpec.upto valueTriesSpec)) valueTriesUptoCard
end Rows
end Go.Proofs.YtapmpdljapbpeaaDoor

/-
  DERIVED. GIVEN WITH THE SEED: THE CARDS: each row of YtgpcilepkmckeaaDoorRows.lean that lists a variable, with what it lists TIED to the program's text (the seventh form; the later family's looks); each row that meets fmt, with fmt's text TOLD by the authors' own Lean function (tested against real Go, not proved from fmt's source: count such statements apart). THE CARD IS WHAT COUNTS. Prove the row's statement (the work); the ties are given (YtgpcilepkmckeaaDoorTie.lean); close each card by the builder's one call (the guide's Derived/Test/ToyasCard.lean, 'card_holds'). Laid BY PROGRAM, IN A SANDBOX (cutbox-door.mjs). By AI agents, Wed Nov 11 2026. No macro, syntax, notation, axiom, sorry.
-/
import Derived.Test.YtgpcilepkmckeaaDoorRows
import GoSem.ClaimSeven
namespace Go.Proofs.YtgpcilepkmckeaaDoor
namespace Rows

/-- THE TIED CARD OF 'chandlerlaw11.StateWrong'. -/
def stateWrongCard : Claim7 := { stood := { row := stateWrongRow, standIns := [], harness := (true, "84589a7201015aa31ec2cd62837cb5e8b4dce17aed87564bea02bbed98efc5ea"), looks := false }, kinds := [], alts := [], laidByText := true, laidKinds := [.data, .data, .pinned], laidTests := true, laidLooks := .later }
def StateWrongCardSaid : Prop := Claim7.holds Tryd.pinned (.plain (OpenSpec.ofChange stateWrongSpec)) stateWrongCard

/-- THE TIED CARD OF 'chandlerlaw11.StateWithin'. -/
def stateWithinCard : Claim7 := { stood := { row := stateWithinRow, standIns := [], harness := (true, "84589a7201015aa31ec2cd62837cb5e8b4dce17aed87564bea02bbed98efc5ea"), looks := false }, kinds := [], alts := [], laidByText := true, laidKinds := [.data, .data, .pinned], laidTests := true, laidLooks := .later }
def StateWithinCardSaid : Prop := Claim7.holds Tryd.pinned (.plain (OpenSpec.ofChange stateWithinSpec)) stateWithinCard

/-- THE TIED CARD OF 'chandlerlaw11.StateLess'. -/
def stateLessCard : Claim7 := { stood := { row := stateLessRow, standIns := [], harness := (true, "84589a7201015aa31ec2cd62837cb5e8b4dce17aed87564bea02bbed98efc5ea"), looks := false }, kinds := [], alts := [], laidByText := true, laidKinds := [.data, .data, .pinned], laidTests := true, laidLooks := .later }
def StateLessCardSaid : Prop := Claim7.holds Tryd.pinned (.plain (OpenSpec.ofChange stateLessSpec)) stateLessCard

/-- THE SECOND FORM's CARD OF 'chandlerlaw11.StateWrong'. -/
def stateWrongUptoCard : Claim7 := { stood := { row := stateWrongUptoRow, standIns := [], harness := (true, "84589a7201015aa31ec2cd62837cb5e8b4dce17aed87564bea02bbed98efc5ea"), looks := false }, kinds := [], alts := [], laidByText := true, laidKinds := [.data, .data, .pinned], laidTests := true, laidLooks := .later }
def StateWrongUptoCardSaid : Prop := Claim7.holds Tryd.pinned (.plain (OpenSpec.upto stateWrongSpec)) stateWrongUptoCard

/-- THE SECOND FORM's CARD OF 'chandlerlaw11.StateWithin'. -/
def stateWithinUptoCard : Claim7 := { stood := { row := stateWithinUptoRow, standIns := [], harness := (true, "84589a7201015aa31ec2cd62837cb5e8b4dce17aed87564bea02bbed98efc5ea"), looks := false }, kinds := [], alts := [], laidByText := true, laidKinds := [.data, .data, .pinned], laidTests := true, laidLooks := .later }
def StateWithinUptoCardSaid : Prop := Claim7.holds Tryd.pinned (.plain (OpenSpec.upto stateWithinSpec)) stateWithinUptoCard

/-- THE SECOND FORM's CARD OF 'chandlerlaw11.StateLess'. -/
def stateLessUptoCard : Claim7 := { stood := { row := stateLessUptoRow, standIns := [], harness := (true, "84589a7201015aa31ec2cd62837cb5e8b4dce17aed87564bea02bbed98efc5ea"), looks := false }, kinds := [], alts := [], laidByText := true, laidKinds := [.data, .data, .pinned], laidTests := true, laidLooks := .later }
def StateLessUptoCardSaid : Prop := Claim7.holds Tryd.pinned (.plain (OpenSpec.upto stateLessSpec)) stateLessUptoCard
end Rows
end Go.Proofs.YtgpcilepkmckeaaDoor

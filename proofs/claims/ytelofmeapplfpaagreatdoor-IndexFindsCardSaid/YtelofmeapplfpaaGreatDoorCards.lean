/-
  DERIVED. GIVEN WITH THE SEED: THE CARDS: each row of YtelofmeapplfpaaGreatDoorRows.lean that lists a variable, with what it lists TIED to the program's text (the seventh form; the later family's looks); each row that meets fmt, with fmt's text TOLD by the authors' own Lean function (tested against real Go, not proved from fmt's source: count such statements apart). THE CARD IS WHAT COUNTS. Prove the row's statement (the work); the ties are given (YtelofmeapplfpaaGreatDoorTie.lean); close each card by the builder's one call (the guide's Derived/Test/ToyasCard.lean, 'card_holds'). Laid BY PROGRAM, IN A SANDBOX (cutbox-door.mjs). By AI agents, Wed Nov 11 2026. No macro, syntax, notation, axiom, sorry.
-/
import Derived.Test.YtelofmeapplfpaaGreatDoorRows
import GoSem.ClaimSeven
namespace Go.Proofs.YtelofmeapplfpaaGreatDoor
namespace Rows

/-- THE TIED CARD OF 'chandlerlaw10.IndexMeets'. -/
def indexMeetsCard : Claim7 := { stood := { row := indexMeetsRow, standIns := [], harness := (true, "d9705dba418f16430473b05221f8b810657fe6c065a8af8298f6c056bbdbd531"), looks := false }, kinds := [], alts := [], laidByText := true, laidKinds := [.data, .data, .pinned], laidTests := true, laidLooks := .later }
def IndexMeetsCardSaid : Prop := Claim7.holds Tryz.pinned (.plain (OpenSpec.ofChange indexMeetsSpec)) indexMeetsCard

/-- THE TIED CARD OF 'chandlerlaw10.IndexFinds'. -/
def indexFindsCard : Claim7 := { stood := { row := indexFindsRow, standIns := [], harness := (true, "d9705dba418f16430473b05221f8b810657fe6c065a8af8298f6c056bbdbd531"), looks := false }, kinds := [], alts := [], laidByText := true, laidKinds := [.data, .data, .pinned], laidTests := true, laidLooks := .later }
def IndexFindsCardSaid : Prop := Claim7.holds Tryz.pinned (.plain (OpenSpec.ofChange indexFindsSpec)) indexFindsCard

/-- THE TIED CARD OF 'chandlerlaw10.IndexNil'. -/
def indexNilCard : Claim7 := { stood := { row := indexNilRow, standIns := [], harness := (true, "d9705dba418f16430473b05221f8b810657fe6c065a8af8298f6c056bbdbd531"), looks := false }, kinds := [], alts := [], laidByText := true, laidKinds := [.data, .data, .pinned], laidTests := true, laidLooks := .later }
def IndexNilCardSaid : Prop := Claim7.holds Tryz.pinned (.plain (OpenSpec.ofChange indexNilSpec)) indexNilCard

/-- THE TIED CARD OF 'chandlerlaw10.IndexTurned'. -/
def indexTurnedCard : Claim7 := { stood := { row := indexTurnedRow, standIns := [], harness := (true, "d9705dba418f16430473b05221f8b810657fe6c065a8af8298f6c056bbdbd531"), looks := false }, kinds := [], alts := [], laidByText := true, laidKinds := [.data, .data, .pinned], laidTests := true, laidLooks := .later }
def IndexTurnedCardSaid : Prop := Claim7.holds Tryz.pinned (.plain (OpenSpec.ofChange indexTurnedSpec)) indexTurnedCard

/-- THE TIED CARD OF 'chandlerlaw10.IndexClash'. -/
def indexClashCard : Claim7 := { stood := { row := indexClashRow, standIns := [], harness := (true, "d9705dba418f16430473b05221f8b810657fe6c065a8af8298f6c056bbdbd531"), looks := false }, kinds := [], alts := [], laidByText := true, laidKinds := [.data, .data, .pinned], laidTests := true, laidLooks := .later }
def IndexClashCardSaid : Prop := Claim7.holds Tryz.pinned (.plain (OpenSpec.ofChange indexClashSpec)) indexClashCard

/-- THE TIED CARD OF 'chandlerlaw10.IndexSplits'. -/
def indexSplitsCard : Claim7 := { stood := { row := indexSplitsRow, standIns := [], harness := (true, "d9705dba418f16430473b05221f8b810657fe6c065a8af8298f6c056bbdbd531"), looks := false }, kinds := [], alts := [], laidByText := true, laidKinds := [.data, .data, .pinned], laidTests := true, laidLooks := .later }
def IndexSplitsCardSaid : Prop := Claim7.holds Tryz.pinned (.plain (OpenSpec.ofChange indexSplitsSpec)) indexSplitsCard

/-- THE TIED CARD OF 'chandlerlaw10.IndexGives'. -/
def indexGivesCard : Claim7 := { stood := { row := indexGivesRow, standIns := [], harness := (true, "d9705dba418f16430473b05221f8b810657fe6c065a8af8298f6c056bbdbd531"), looks := false }, kinds := [], alts := [], laidByText := true, laidKinds := [.data, .data, .pinned], laidTests := true, laidLooks := .later }
def IndexGivesCardSaid : Prop := Claim7.holds Tryz.pinned (.plain (OpenSpec.ofChange indexGivesSpec)) indexGivesCard

/-- THE SECOND FORM's CARD OF 'chandlerlaw10.IndexMeets'. -/
def indexMeetsUptoCard : Claim7 := { stood := { row := indexMeetsUptoRow, standIns := [], harness := (true, "d9705dba418f16430473b05221f8b810657fe6c065a8af8298f6c056bbdbd531"), looks := false }, kinds := [], alts := [], laidByText := true, laidKinds := [.data, .data, .pinned], laidTests := true, laidLooks := .later }
def IndexMeetsUptoCardSaid : Prop := Claim7.holds Tryz.pinned (.plain (OpenSpec.upto indexMeetsSpec)) indexMeetsUptoCard

/-- THE SECOND FORM's CARD OF 'chandlerlaw10.IndexFinds'. -/
def indexFindsUptoCard : Claim7 := { stood := { row := indexFindsUptoRow, standIns := [], harness := (true, "d9705dba418f16430473b05221f8b810657fe6c065a8af8298f6c056bbdbd531"), looks := false }, kinds := [], alts := [], laidByText := true, laidKinds := [.data, .data, .pinned], laidTests := true, laidLooks := .later }
def IndexFindsUptoCardSaid : Prop := Claim7.holds Tryz.pinned (.plain (OpenSpec.upto indexFindsSpec)) indexFindsUptoCard

/-- THE SECOND FORM's CARD OF 'chandlerlaw10.IndexNil'. -/
def indexNilUptoCard : Claim7 := { stood := { row := indexNilUptoRow, standIns := [], harness := (true, "d9705dba418f16430473b05221f8b810657fe6c065a8af8298f6c056bbdbd531"), looks := false }, kinds := [], alts := [], laidByText := true, laidKinds := [.data, .data, .pinned], laidTests := true, laidLooks := .later }
def IndexNilUptoCardSaid : Prop := Claim7.holds Tryz.pinned (.plain (OpenSpec.upto indexNilSpec)) indexNilUptoCard

/-- THE SECOND FORM's CARD OF 'chandlerlaw10.IndexTurned'. -/
def indexTurnedUptoCard : Claim7 := { stood := { row := indexTurnedUptoRow, standIns := [], harness := (true, "d9705dba418f16430473b05221f8b810657fe6c065a8af8298f6c056bbdbd531"), looks := false }, kinds := [], alts := [], laidByText := true, laidKinds := [.data, .data, .pinned], laidTests := true, laidLooks := .later }
def IndexTurnedUptoCardSaid : Prop := Claim7.holds Tryz.pinned (.plain (OpenSpec.upto indexTurnedSpec)) indexTurnedUptoCard

/-- THE SECOND FORM's CARD OF 'chandlerlaw10.IndexClash'. -/
def indexClashUptoCard : Claim7 := { stood := { row := indexClashUptoRow, standIns := [], harness := (true, "d9705dba418f16430473b05221f8b810657fe6c065a8af8298f6c056bbdbd531"), looks := false }, kinds := [], alts := [], laidByText := true, laidKinds := [.data, .data, .pinned], laidTests := true, laidLooks := .later }
def IndexClashUptoCardSaid : Prop := Claim7.holds Tryz.pinned (.plain (OpenSpec.upto indexClashSpec)) indexClashUptoCard

/-- THE SECOND FORM's CARD OF 'chandlerlaw10.IndexSplits'. -/
def indexSplitsUptoCard : Claim7 := { stood := { row := indexSplitsUptoRow, standIns := [], harness := (true, "d9705dba418f16430473b05221f8b810657fe6c065a8af8298f6c056bbdbd531"), looks := false }, kinds := [], alts := [], laidByText := true, laidKinds := [.data, .data, .pinned], laidTests := true, laidLooks := .later }
def IndexSplitsUptoCardSaid : Prop := Claim7.holds Tryz.pinned (.plain (OpenSpec.upto indexSplitsSpec)) indexSplitsUptoCard

/-- THE SECOND FORM's CARD OF 'chandlerlaw10.IndexGives'. -/
def indexGivesUptoCard : Claim7 := { stood := { row := indexGivesUptoRow, standIns := [], harness := (true, "d9705dba418f16430473b05221f8b810657fe6c065a8af8298f6c056bbdbd531"), looks := false }, kinds := [], alts := [], laidByText := true, laidKinds := [.data, .data, .pinned], laidTests := true, laidLooks := .later }
def IndexGivesUptoCardSaid : Prop := Claim7.holds Tryz.pinned (.plain (OpenSpec.upto indexGivesSpec)) indexGivesUptoCard
end Rows
end Go.Proofs.YtelofmeapplfpaaGreatDoor

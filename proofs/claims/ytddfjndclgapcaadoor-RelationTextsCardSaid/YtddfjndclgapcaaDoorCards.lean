/-
  DERIVED. GIVEN WITH THE SEED: THE CARDS: each row of YtddfjndclgapcaaDoorRows.lean that lists a variable, with what it lists TIED to the program's text (the seventh form; the later family's looks); each row that meets fmt, with fmt's text TOLD by the authors' own Lean function (tested against real Go, not proved from fmt's source: count such statements apart). THE CARD IS WHAT COUNTS. Prove the row's statement (the work); the ties are given (YtddfjndclgapcaaDoorTie.lean); close each card by the builder's one call (the guide's Derived/Test/ToyasCard.lean, 'card_holds'). Laid BY PROGRAM, IN A SANDBOX (cutbox-door.mjs). By AI agents, Wed Nov 11 2026. No macro, syntax, notation, axiom, sorry.
-/
import Derived.Test.YtddfjndclgapcaaDoorRows
import GoSem.ClaimSeven
namespace Go.Proofs.YtddfjndclgapcaaDoor
namespace Rows

/-- THE TIED CARD OF 'chandlerlaw7.RelationParses'. -/
def relationParsesCard : Claim7 := { stood := { row := relationParsesRow, standIns := [], harness := (true, "a5665ea20e5083b568878c37869bac1dd2df85ae4c71539d061e6676e5e43788"), looks := false }, kinds := [], alts := [], laidByText := true, laidKinds := [.data], laidTests := true, laidLooks := .later }
def RelationParsesCardSaid : Prop := Claim7.holds Tryd.pinned (.plain (OpenSpec.ofChange relationParsesSpec)) relationParsesCard

/-- THE TIED CARD OF 'chandlerlaw7.RelationTexts'. -/
def relationTextsCard : Claim7 := { stood := { row := relationTextsRow, standIns := [], harness := (true, "a5665ea20e5083b568878c37869bac1dd2df85ae4c71539d061e6676e5e43788"), looks := false }, kinds := [], alts := [], laidByText := true, laidKinds := [.data], laidTests := true, laidLooks := .later }
def RelationTextsCardSaid : Prop := Claim7.holds Tryd.pinned (.plain (OpenSpec.ofChange relationTextsSpec)) relationTextsCard

/-- THE TIED CARD OF 'chandlerlaw7.RelationMany'. -/
def relationManyCard : Claim7 := { stood := { row := relationManyRow, standIns := [], harness := (true, "a5665ea20e5083b568878c37869bac1dd2df85ae4c71539d061e6676e5e43788"), looks := false }, kinds := [], alts := [], laidByText := true, laidKinds := [.data], laidTests := true, laidLooks := .later }
def RelationManyCardSaid : Prop := Claim7.holds Tryd.pinned (.plain (OpenSpec.ofChange relationManySpec)) relationManyCard

/-- THE TIED CARD OF 'chandlerlaw7.RelationBack'. -/
def relationBackCard : Claim7 := { stood := { row := relationBackRow, standIns := [], harness := (true, "a5665ea20e5083b568878c37869bac1dd2df85ae4c71539d061e6676e5e43788"), looks := false }, kinds := [], alts := [], laidByText := true, laidKinds := [.data], laidTests := true, laidLooks := .later }
def RelationBackCardSaid : Prop := Claim7.holds Tryd.pinned (.plain (OpenSpec.ofChange relationBackSpec)) relationBackCard

/-- THE TIED CARD OF 'chandlerlaw7.RelationWhite'. -/
def relationWhiteCard : Claim7 := { stood := { row := relationWhiteRow, standIns := [], harness := (true, "a5665ea20e5083b568878c37869bac1dd2df85ae4c71539d061e6676e5e43788"), looks := false }, kinds := [], alts := [], laidByText := true, laidKinds := [.data], laidTests := true, laidLooks := .later }
def RelationWhiteCardSaid : Prop := Claim7.holds Tryd.pinned (.plain (OpenSpec.ofChange relationWhiteSpec)) relationWhiteCard

/-- THE TIED CARD OF 'chandlerlaw7.RelationJoins'. -/
def relationJoinsCard : Claim7 := { stood := { row := relationJoinsRow, standIns := [], harness := (true, "a5665ea20e5083b568878c37869bac1dd2df85ae4c71539d061e6676e5e43788"), looks := false }, kinds := [], alts := [], laidByText := true, laidKinds := [.data], laidTests := true, laidLooks := .later }
def RelationJoinsCardSaid : Prop := Claim7.holds Tryd.pinned (.plain (OpenSpec.ofChange relationJoinsSpec)) relationJoinsCard

/-- THE SECOND FORM's CARD OF 'chandlerlaw7.RelationParses'. -/
def relationParsesUptoCard : Claim7 := { stood := { row := relationParsesUptoRow, standIns := [], harness := (true, "a5665ea20e5083b568878c37869bac1dd2df85ae4c71539d061e6676e5e43788"), looks := false }, kinds := [], alts := [], laidByText := true, laidKinds := [.data], laidTests := true, laidLooks := .later }
def RelationParsesUptoCardSaid : Prop := Claim7.holds Tryd.pinned (.plain (OpenSpec.upto relationParsesSpec)) relationParsesUptoCard

/-- THE SECOND FORM's CARD OF 'chandlerlaw7.RelationTexts'. -/
def relationTextsUptoCard : Claim7 := { stood := { row := relationTextsUptoRow, standIns := [], harness := (true, "a5665ea20e5083b568878c37869bac1dd2df85ae4c71539d061e6676e5e43788"), looks := false }, kinds := [], alts := [], laidByText := true, laidKinds := [.data], laidTests := true, laidLooks := .later }
def RelationTextsUptoCardSaid : Prop := Claim7.holds Tryd.pinned (.plain (OpenSpec.upto relationTextsSpec)) relationTextsUptoCard

/-- THE SECOND FORM's CARD OF 'chandlerlaw7.RelationMany'. -/
def relationManyUptoCard : Claim7 := { stood := { row := relationManyUptoRow, standIns := [], harness := (true, "a5665ea20e5083b568878c37869bac1dd2df85ae4c71539d061e6676e5e43788"), looks := false }, kinds := [], alts := [], laidByText := true, laidKinds := [.data], laidTests := true, laidLooks := .later }
def RelationManyUptoCardSaid : Prop := Claim7.holds Tryd.pinned (.plain (OpenSpec.upto relationManySpec)) relationManyUptoCard

/-- THE SECOND FORM's CARD OF 'chandlerlaw7.RelationBack'. -/
def relationBackUptoCard : Claim7 := { stood := { row := relationBackUptoRow, standIns := [], harness := (true, "a5665ea20e5083b568878c37869bac1dd2df85ae4c71539d061e6676e5e43788"), looks := false }, kinds := [], alts := [], laidByText := true, laidKinds := [.data], laidTests := true, laidLooks := .later }
def RelationBackUptoCardSaid : Prop := Claim7.holds Tryd.pinned (.plain (OpenSpec.upto relationBackSpec)) relationBackUptoCard

/-- THE SECOND FORM's CARD OF 'chandlerlaw7.RelationWhite'. -/
def relationWhiteUptoCard : Claim7 := { stood := { row := relationWhiteUptoRow, standIns := [], harness := (true, "a5665ea20e5083b568878c37869bac1dd2df85ae4c71539d061e6676e5e43788"), looks := false }, kinds := [], alts := [], laidByText := true, laidKinds := [.data], laidTests := true, laidLooks := .later }
def RelationWhiteUptoCardSaid : Prop := Claim7.holds Tryd.pinned (.plain (OpenSpec.upto relationWhiteSpec)) relationWhiteUptoCard

/-- THE SECOND FORM's CARD OF 'chandlerlaw7.RelationJoins'. -/
def relationJoinsUptoCard : Claim7 := { stood := { row := relationJoinsUptoRow, standIns := [], harness := (true, "a5665ea20e5083b568878c37869bac1dd2df85ae4c71539d061e6676e5e43788"), looks := false }, kinds := [], alts := [], laidByText := true, laidKinds := [.data], laidTests := true, laidLooks := .later }
def RelationJoinsUptoCardSaid : Prop := Claim7.holds Tryd.pinned (.plain (OpenSpec.upto relationJoinsSpec)) relationJoinsUptoCard
end Rows
end Go.Proofs.YtddfjndclgapcaaDoor

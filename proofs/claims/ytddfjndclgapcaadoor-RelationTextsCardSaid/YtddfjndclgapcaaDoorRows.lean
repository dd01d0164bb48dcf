/-
  NARROWER THAN 'FOR EVERY INPUT', by the rows' own cells (each row's printed sentence says how): RelationParses: laid · RelationTexts: laid · RelationMany: laid · RelationBack: laid · RelationWhite: laid · RelationJoins: laid.
  DERIVED. THE GIVEN ROWS OF THIS SEAT. 6 by the template 'for every input the law returns true; each argument reads behind the call as it read before'; 0 by the template 'total and deterministic' (their statements: YtddfjndclgapcaaDoorTotals.lean).
  GIVEN WITH THE SEED: the statements are not yours to turn. If you find one false, say at which input.
  Laid BY PROGRAM, IN A SANDBOX (cutbox-rows.mjs): the forced cells as the released guide's own fill.sh prints them over the translation c5300cfe33a33b81… (all of the seat's roots in one cut). By AI agents, Wed Nov 11 2026. No macro, syntax, notation, axiom, sorry.
-/
import Derived.Test.YtddfjndclgapcaaDoorChecked
import GoSem.Claim
import GoSem.ClaimJoined
import GoSem.ClaimMapViews
import Derived.JoinedTies
import Derived.KernelRfl
namespace Go.Proofs.YtddfjndclgapcaaDoor
/- THE CELL 'sum', in the pinned program and in every row, IS THE sha256 OF THE DUMP (.gsa) THAT YtddfjndclgapcaaDoorProg.lean LOADS. Nothing in Lean hashes anything: it is a label: what it is worth is what the hold of that sum in a sandbox is worth. -/
noncomputable def Tryd.pinned : Pinned := { name := "ytddfjndclgapcaadoor", sum := "c5300cfe33a33b8191ccb2645e6189b042dbc319c944b7bd92e02493692e7d40", checked := Tryd.checked }
namespace Rows
def none {H : Type} : Left H := { results := [], args := [] }

/- WHAT THE LISTED PACKAGE-LEVEL VARIABLES READ AS WHEN THE CALL BEGINS. Each datum BY PROGRAM (the guide's laid-datum.mjs) off the statement by which the dump's own 'gosem.cut.vars' lays the variable. In a bare row this is a premise. The card (YtddfjndclgapcaaDoorCards.lean) ties it to the program's text. -/
def laid_chandler_version_signs {H : Type} : DataW H := .agg [.lit (.string []), .lit (.string [60, 60]), .lit (.string [60, 61]), .lit (.string [61]), .lit (.string [62, 61]), .lit (.string [62, 62])]

/-- 'chandlerlaw7.RelationParses': WHATEVER THE INPUT: true; the input reads as it did. -/
def relationParsesSpec : ChangeSpec := { name := "relationParses", fn := fun _ => fun
  | [d] => { results := [.lit (.bool true)], args := [d] }
  | _ => none }
def relationParsesRow : OpenClaim := { program := "ytddfjndclgapcaadoor", sum := "c5300cfe33a33b8191ccb2645e6189b042dbc319c944b7bd92e02493692e7d40", func := "chandler/chandlerlaw7.RelationParses", spec := "relationParses", inPlace := ["internal/bytealg.IndexByteString", "internal/bytealg.IndexString", "internal/abi.NoEscape", "internal/bytealg.MakeNoZero"], unfollowed := true, recurses := true, named := ["chandler/version.signs", "internal/bytealg.MaxLen"], apart := false, laid := [("chandler/version.signs", laid_chandler_version_signs)] }
def RelationParsesSaid : Prop := relationParsesRow.holds Tryd.pinned (OpenSpec.ofChange relationParsesSpec)

/-- ITS FALSE NEIGHBOUR: 'it returns false'. Refute it at one input. -/
def relationParsesWrong : ChangeSpec := { name := "relationParses", fn := fun _ => fun
  | [d] => { results := [.lit (.bool false)], args := [d] }
  | _ => none }
def RelationParsesWrongFalsely : Prop := relationParsesRow.holds Tryd.pinned (OpenSpec.ofChange relationParsesWrong)

/-- 'chandlerlaw7.RelationTexts': WHATEVER THE INPUT: true; the input reads as it did. -/
def relationTextsSpec : ChangeSpec := { name := "relationTexts", fn := fun _ => fun
  | [d1, d2, d3, d4] => { results := [.lit (.bool true)], args := [d1, d2, d3, d4] }
  | _ => none }
def relationTextsRow : OpenClaim := { program := "ytddfjndclgapcaadoor", sum := "c5300cfe33a33b8191ccb2645e6189b042dbc319c944b7bd92e02493692e7d40", func := "chandler/chandlerlaw7.RelationTexts", spec := "relationTexts", inPlace := ["internal/bytealg.IndexByteString", "internal/bytealg.IndexString", "internal/abi.NoEscape", "internal/bytealg.MakeNoZero"], unfollowed := true, recurses := true, named := ["chandler/version.signs", "internal/bytealg.MaxLen"], apart := false, laid := [("chandler/version.signs", laid_chandler_version_signs)] }
def RelationTextsSaid : Prop := relationTextsRow.holds Tryd.pinned (OpenSpec.ofChange relationTextsSpec)

/-- ITS FALSE NEIGHBOUR: 'it returns false'. Refute it at one input. -/
def relationTextsWrong : ChangeSpec := { name := "relationTexts", fn := fun _ => fun
  | [d1, d2, d3, d4] => { results := [.lit (.bool false)], args := [d1, d2, d3, d4] }
  | _ => none }
def RelationTextsWrongFalsely : Prop := relationTextsRow.holds Tryd.pinned (OpenSpec.ofChange relationTextsWrong)

/-- 'chandlerlaw7.RelationMany': WHATEVER THE INPUT: true; the input reads as it did. -/
def relationManySpec : ChangeSpec := { name := "relationMany", fn := fun _ => fun
  | [d1, d2, d3] => { results := [.lit (.bool true)], args := [d1, d2, d3] }
  | _ => none }
def relationManyRow : OpenClaim := { program := "ytddfjndclgapcaadoor", sum := "c5300cfe33a33b8191ccb2645e6189b042dbc319c944b7bd92e02493692e7d40", func := "chandler/chandlerlaw7.RelationMany", spec := "relationMany", inPlace := ["internal/bytealg.IndexByteString", "internal/bytealg.IndexString", "internal/abi.NoEscape", "internal/bytealg.MakeNoZero"], unfollowed := true, recurses := true, named := ["chandler/version.signs", "internal/bytealg.MaxLen"], apart := false, laid := [("chandler/version.signs", laid_chandler_version_signs)] }
def RelationManySaid : Prop := relationManyRow.holds Tryd.pinned (OpenSpec.ofChange relationManySpec)

/-- ITS FALSE NEIGHBOUR: 'it returns false'. Refute it at one input. -/
def relationManyWrong : ChangeSpec := { name := "relationMany", fn := fun _ => fun
  | [d1, d2, d3] => { results := [.lit (.bool false)], args := [d1, d2, d3] }
  | _ => none }
def RelationManyWrongFalsely : Prop := relationManyRow.holds Tryd.pinned (OpenSpec.ofChange relationManyWrong)

/-- 'chandlerlaw7.RelationBack': WHATEVER THE INPUT: true; the input reads as it did. -/
def relationBackSpec : ChangeSpec := { name := "relationBack", fn := fun _ => fun
  | [d1, d2, d3] => { results := [.lit (.bool true)], args := [d1, d2, d3] }
  | _ => none }
def relationBackRow : OpenClaim := { program := "ytddfjndclgapcaadoor", sum := "c5300cfe33a33b8191ccb2645e6189b042dbc319c944b7bd92e02493692e7d40", func := "chandler/chandlerlaw7.RelationBack", spec := "relationBack", inPlace := ["internal/bytealg.IndexByteString", "internal/bytealg.IndexString", "internal/abi.NoEscape", "internal/bytealg.MakeNoZero"], unfollowed := true, recurses := true, named := ["chandler/version.signs", "internal/bytealg.MaxLen"], apart := false, laid := [("chandler/version.signs", laid_chandler_version_signs)] }
def RelationBackSaid : Prop := relationBackRow.holds Tryd.pinned (OpenSpec.ofChange relationBackSpec)

/-- ITS FALSE NEIGHBOUR: 'it returns false'. Refute it at one input. -/
def relationBackWrong : ChangeSpec := { name := "relationBack", fn := fun _ => fun
  | [d1, d2, d3] => { results := [.lit (.bool false)], args := [d1, d2, d3] }
  | _ => none }
def RelationBackWrongFalsely : Prop := relationBackRow.holds Tryd.pinned (OpenSpec.ofChange relationBackWrong)

/-- 'chandlerlaw7.RelationWhite': WHATEVER THE INPUT: true; the input reads as it did. -/
def relationWhiteSpec : ChangeSpec := { name := "relationWhite", fn := fun _ => fun
  | [d1, d2] => { results := [.lit (.bool true)], args := [d1, d2] }
  | _ => none }
def relationWhiteRow : OpenClaim := { program := "ytddfjndclgapcaadoor", sum := "c5300cfe33a33b8191ccb2645e6189b042dbc319c944b7bd92e02493692e7d40", func := "chandler/chandlerlaw7.RelationWhite", spec := "relationWhite", inPlace := ["internal/bytealg.IndexByteString", "internal/bytealg.IndexString", "internal/abi.NoEscape", "internal/bytealg.MakeNoZero"], unfollowed := true, recurses := true, named := ["chandler/version.signs", "internal/bytealg.MaxLen"], apart := false, laid := [("chandler/version.signs", laid_chandler_version_signs)] }
def RelationWhiteSaid : Prop := relationWhiteRow.holds Tryd.pinned (OpenSpec.ofChange relationWhiteSpec)

/-- ITS FALSE NEIGHBOUR: 'it returns false'. Refute it at one input. -/
def relationWhiteWrong : ChangeSpec := { name := "relationWhite", fn := fun _ => fun
  | [d1, d2] => { results := [.lit (.bool false)], args := [d1, d2] }
  | _ => none }
def RelationWhiteWrongFalsely : Prop := relationWhiteRow.holds Tryd.pinned (OpenSpec.ofChange relationWhiteWrong)

/-- 'chandlerlaw7.RelationJoins': WHATEVER THE INPUT: true; the input reads as it did. -/
def relationJoinsSpec : ChangeSpec := { name := "relationJoins", fn := fun _ => fun
  | [d1, d2] => { results := [.lit (.bool true)], args := [d1, d2] }
  | _ => none }
def relationJoinsRow : OpenClaim := { program := "ytddfjndclgapcaadoor", sum := "c5300cfe33a33b8191ccb2645e6189b042dbc319c944b7bd92e02493692e7d40", func := "chandler/chandlerlaw7.RelationJoins", spec := "relationJoins", inPlace := ["internal/bytealg.IndexByteString", "internal/bytealg.IndexString", "internal/abi.NoEscape", "internal/bytealg.MakeNoZero"], unfollowed := true, recurses := true, named := ["chandler/version.signs", "internal/bytealg.MaxLen"], apart := false, laid := [("chandler/version.signs", laid_chandler_version_signs)] }
def RelationJoinsSaid : Prop := relationJoinsRow.holds Tryd.pinned (OpenSpec.ofChange relationJoinsSpec)

/-- ITS FALSE NEIGHBOUR: 'it returns false'. Refute it at one input. -/
def relationJoinsWrong : ChangeSpec := { name := "relationJoins", fn := fun _ => fun
  | [d1, d2] => { results := [.lit (.bool false)], args := [d1, d2] }
  | _ => none }
def RelationJoinsWrongFalsely : Prop := relationJoinsRow.holds Tryd.pinned (OpenSpec.ofChange relationJoinsWrong)

/- THE SECOND FORM. 'bulk': how many values and letters a reading holds, each counted each time it is reached (what is shared counts as often as it is met; a slice's spare places count too). A statement '..UptoSaid' is the law's where the arguments, and the package variables that the reading takes, are together of bulk at most 1048576: NARROWER than '..Said'. Prove '..Said' where nothing that the law and all that it calls make is longer than what came in: it says more and counts as full. Else prove '..UptoSaid'. A law counts once. -/
mutual
def uptoBulk {H : Type} : DataW H → Nat
  | .lit (.string bytes) => bytes.length + 1
  | .lit _ => 1
  | .nil => 1
  | .ptr d => uptoBulk d + 1
  | .slice elems spare => uptoBulkAll elems + uptoBulkAll spare + 1
  | .agg parts => uptoBulkAll parts + 1
  | .iface _ d => uptoBulk d + 1
  | .map entries => uptoBulkEntries entries + 1
  | .held _ => 1
def uptoBulkAll {H : Type} : List (DataW H) → Nat
  | [] => 0
  | d :: r => uptoBulk d + uptoBulkAll r
def uptoBulkEntries {H : Type} : List (Lit × DataW H) → Nat
  | [] => 0
  | x :: r => uptoBulkEntry x + uptoBulkEntries r
def uptoBulkEntry {H : Type} : Lit × DataW H → Nat
  | (.string bytes, d) => bytes.length + uptoBulk d + 1
  | (_, d) => uptoBulk d + 1
 end
def uptoSmall : (H : Type) → List (DataW H) → Bool := fun _ ds => decide (uptoBulkAll ds ≤ 1048576)
def OpenSpec.upto (s : _root_.Go.ChangeSpec) : _root_.Go.OpenSpec := { _root_.Go.OpenSpec.ofChange s with cond := some uptoSmall }

/-- 'chandlerlaw7.RelationParses', WHERE WHAT IT READS IS OF BULK AT MOST 1048576: true; the input reads as it did. -/
def relationParsesUptoRow : OpenClaim := { program := "ytddfjndclgapcaadoor", sum := "c5300cfe33a33b8191ccb2645e6189b042dbc319c944b7bd92e02493692e7d40", func := "chandler/chandlerlaw7.RelationParses", spec := "relationParses", inPlace := ["internal/bytealg.IndexByteString", "internal/bytealg.IndexString", "internal/abi.NoEscape", "internal/bytealg.MakeNoZero"], unfollowed := true, recurses := true, named := ["chandler/version.signs", "internal/bytealg.MaxLen"], apart := false, laid := [("chandler/version.signs", laid_chandler_version_signs)], narrowed := true }
def RelationParsesUptoSaid : Prop := relationParsesUptoRow.holds Tryd.pinned (OpenSpec.upto relationParsesSpec)

/-- 'chandlerlaw7.RelationTexts', WHERE WHAT IT READS IS OF BULK AT MOST 1048576: true; the input reads as it did. -/
def relationTextsUptoRow : OpenClaim := { program := "ytddfjndclgapcaadoor", sum := "c5300cfe33a33b8191ccb2645e6189b042dbc319c944b7bd92e02493692e7d40", func := "chandler/chandlerlaw7.RelationTexts", spec := "relationTexts", inPlace := ["internal/bytealg.IndexByteString", "internal/bytealg.IndexString", "internal/abi.NoEscape", "internal/bytealg.MakeNoZero"], unfollowed := true, recurses := true, named := ["chandler/version.signs", "internal/bytealg.MaxLen"], apart := false, laid := [("chandler/version.signs", laid_chandler_version_signs)], narrowed := true }
def RelationTextsUptoSaid : Prop := relationTextsUptoRow.holds Tryd.pinned (OpenSpec.upto relationTextsSpec)

/-- 'chandlerlaw7.RelationMany', WHERE WHAT IT READS IS OF BULK AT MOST 1048576: true; the input reads as it did. -/
def relationManyUptoRow : OpenClaim := { program := "ytddfjndclgapcaadoor", sum := "c5300cfe33a33b8191ccb2645e6189b042dbc319c944b7bd92e02493692e7d40", func := "chandler/chandlerlaw7.RelationMany", spec := "relationMany", inPlace := ["internal/bytealg.IndexByteString", "internal/bytealg.IndexString", "internal/abi.NoEscape", "internal/bytealg.MakeNoZero"], unfollowed := true, recurses := true, named := ["chandler/version.signs", "internal/bytealg.MaxLen"], apart := false, laid := [("chandler/version.signs", laid_chandler_version_signs)], narrowed := true }
def RelationManyUptoSaid : Prop := relationManyUptoRow.holds Tryd.pinned (OpenSpec.upto relationManySpec)

/-- 'chandlerlaw7.RelationBack', WHERE WHAT IT READS IS OF BULK AT MOST 1048576: true; the input reads as it did. -/
def relationBackUptoRow : OpenClaim := { program := "ytddfjndclgapcaadoor", sum := "c5300cfe33a33b8191ccb2645e6189b042dbc319c944b7bd92e02493692e7d40", func := "chandler/chandlerlaw7.RelationBack", spec := "relationBack", inPlace := ["internal/bytealg.IndexByteString", "internal/bytealg.IndexString", "internal/abi.NoEscape", "internal/bytealg.MakeNoZero"], unfollowed := true, recurses := true, named := ["chandler/version.signs", "internal/bytealg.MaxLen"], apart := false, laid := [("chandler/version.signs", laid_chandler_version_signs)], narrowed := true }
def RelationBackUptoSaid : Prop := relationBackUptoRow.holds Tryd.pinned (OpenSpec.upto relationBackSpec)

/-- 'chandlerlaw7.RelationWhite', WHERE WHAT IT READS IS OF BULK AT MOST 1048576: true; the input reads as it did. -/
def relationWhiteUptoRow : OpenClaim := { program := "ytddfjndclgapcaadoor", sum := "c5300cfe33a33b8191ccb2645e6189b042dbc319c944b7bd92e02493692e7d40", func := "chandler/chandlerlaw7.RelationWhite", spec := "relationWhite", inPlace := ["internal/bytealg.IndexByteString", "internal/bytealg.IndexString", "internal/abi.NoEscape", "internal/bytealg.MakeNoZero"], unfollowed := true, recurses := true, named := ["chandler/version.signs", "internal/bytealg.MaxLen"], apart := false, laid := [("chandler/version.signs", laid_chandler_version_signs)], narrowed := true }
def RelationWhiteUptoSaid : Prop := relationWhiteUptoRow.holds Tryd.pinned (OpenSpec.upto relationWhiteSpec)

/-- 'chandlerlaw7.RelationJoins', WHERE WHAT IT READS IS OF BULK AT MOST 1048576: true; the input reads as it did. -/
def relationJoinsUptoRow : OpenClaim := { program := "ytddfjndclgapcaadoor", sum := "c5300cfe33a33b8191ccb2645e6189b042dbc319c944b7bd92e02493692e7d40", func := "chandler/chandlerlaw7.RelationJoins", spec := "relationJoins", inPlace := ["internal/bytealg.IndexByteString", "internal/bytealg.IndexString", "internal/abi.NoEscape", "internal/bytealg.MakeNoZero"], unfollowed := true, recurses := true, named := ["chandler/version.signs", "internal/bytealg.MaxLen"], apart := false, laid := [("chandler/version.signs", laid_chandler_version_signs)], narrowed := true }
def RelationJoinsUptoSaid : Prop := relationJoinsUptoRow.holds Tryd.pinned (OpenSpec.upto relationJoinsSpec)

end Rows
end Go.Proofs.YtddfjndclgapcaaDoor

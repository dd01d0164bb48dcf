/-
  NARROWER THAN 'FOR EVERY INPUT', by the rows' own cells (each row's printed sentence says how): StateWrong: laid · StateWithin: laid · StateLess: laid.
  DERIVED. THE GIVEN ROWS OF THIS SEAT. 3 by the template 'for every input the law returns true; each argument reads behind the call as it read before'; 0 by the template 'total and deterministic' (their statements: YtgpcilepkmckeaaDoorTotals.lean).
  GIVEN WITH THE SEED: the statements are not yours to turn. If you find one false, say at which input.
  Laid BY PROGRAM, IN A SANDBOX (cutbox-rows.mjs): the forced cells as the released guide's own fill.sh prints them over the translation 2ff7e2d7c07a680d… (all of the seat's roots in one cut). By AI agents, Wed Nov 11 2026. No macro, syntax, notation, axiom, sorry.
-/
import Derived.Test.YtgpcilepkmckeaaDoorChecked
import GoSem.PinnedTables
import GoSem.Claim
import GoSem.ClaimJoined
import GoSem.ClaimMapViews
import Derived.JoinedTies
import Derived.KernelRfl
namespace Go.Proofs.YtgpcilepkmckeaaDoor
/- THE CELL 'sum', in the pinned program and in every row, IS THE sha256 OF THE DUMP (.gsa) THAT YtgpcilepkmckeaaDoorProg.lean LOADS. Nothing in Lean hashes anything: it is a label: what it is worth is what the hold of that sum in a sandbox is worth. -/
noncomputable def Tryd.pinned : Pinned := { name := "ytgpcilepkmckeaadoor", sum := "2ff7e2d7c07a680dcd01727f058bb7f8de266c93f1d6b2cf3114be8fd145eea0", checked := Tryd.checked }
namespace Rows
def none {H : Type} : Left H := { results := [], args := [] }

/- WHAT THE LISTED PACKAGE-LEVEL VARIABLES READ AS WHEN THE CALL BEGINS. Each datum BY PROGRAM (the guide's laid-datum.mjs) off the statement by which the dump's own 'gosem.cut.vars' lays the variable. In a bare row this is a premise. The card (YtgpcilepkmckeaaDoorCards.lean) ties it to the program's text. -/
def laid_unicode_utf8_acceptRanges {H : Type} : DataW H := .agg [.agg [.lit (.int .u8 128), .lit (.int .u8 191)], .agg [.lit (.int .u8 160), .lit (.int .u8 191)], .agg [.lit (.int .u8 128), .lit (.int .u8 159)], .agg [.lit (.int .u8 144), .lit (.int .u8 191)], .agg [.lit (.int .u8 128), .lit (.int .u8 143)], .agg [.lit (.int .u8 0), .lit (.int .u8 0)], .agg [.lit (.int .u8 0), .lit (.int .u8 0)], .agg [.lit (.int .u8 0), .lit (.int .u8 0)], .agg [.lit (.int .u8 0), .lit (.int .u8 0)], .agg [.lit (.int .u8 0), .lit (.int .u8 0)], .agg [.lit (.int .u8 0), .lit (.int .u8 0)], .agg [.lit (.int .u8 0), .lit (.int .u8 0)], .agg [.lit (.int .u8 0), .lit (.int .u8 0)], .agg [.lit (.int .u8 0), .lit (.int .u8 0)], .agg [.lit (.int .u8 0), .lit (.int .u8 0)], .agg [.lit (.int .u8 0), .lit (.int .u8 0)]]
def laid_chandler_version_signs {H : Type} : DataW H := .agg [.lit (.string []), .lit (.string [60, 60]), .lit (.string [60, 61]), .lit (.string [61]), .lit (.string [62, 61]), .lit (.string [62, 62])]
/-- One of Go's own tables, pinned by name: the form's constant. -/
def laid_unicode_utf8_first : DataW Unit := Go.Pinned.utf8First

/-- 'chandlerlaw11.StateWrong': WHATEVER THE INPUT: true; the input reads as it did. -/
def stateWrongSpec : ChangeSpec := { name := "stateWrong", fn := fun _ => fun
  | [d] => { results := [.lit (.bool true)], args := [d] }
  | _ => none }
def stateWrongRow : OpenClaim := { program := "ytgpcilepkmckeaadoor", sum := "2ff7e2d7c07a680dcd01727f058bb7f8de266c93f1d6b2cf3114be8fd145eea0", func := "chandler/chandlerlaw11.StateWrong", spec := "stateWrong", inPlace := ["internal/bytealg.IndexByteString", "internal/bytealg.IndexString", "internal/bytealg.abigen_runtime_cmpstring"], unfollowed := true, recurses := true, named := ["internal/bytealg.MaxLen", "chandler/version.signs", "unicode/utf8.first", "unicode/utf8.acceptRanges"], apart := false, laid := [("unicode/utf8.acceptRanges", laid_unicode_utf8_acceptRanges), ("chandler/version.signs", laid_chandler_version_signs), ("unicode/utf8.first", laid_unicode_utf8_first)] }
def StateWrongSaid : Prop := stateWrongRow.holds Tryd.pinned (OpenSpec.ofChange stateWrongSpec)

/-- ITS FALSE NEIGHBOUR: 'it returns false'. Refute it at one input. -/
def stateWrongWrong : ChangeSpec := { name := "stateWrong", fn := fun _ => fun
  | [d] => { results := [.lit (.bool false)], args := [d] }
  | _ => none }
def StateWrongWrongFalsely : Prop := stateWrongRow.holds Tryd.pinned (OpenSpec.ofChange stateWrongWrong)

/-- 'chandlerlaw11.StateWithin': WHATEVER THE INPUT: true; the input reads as it did. -/
def stateWithinSpec : ChangeSpec := { name := "stateWithin", fn := fun _ => fun
  | [d1, d2] => { results := [.lit (.bool true)], args := [d1, d2] }
  | _ => none }
def stateWithinRow : OpenClaim := { program := "ytgpcilepkmckeaadoor", sum := "2ff7e2d7c07a680dcd01727f058bb7f8de266c93f1d6b2cf3114be8fd145eea0", func := "chandler/chandlerlaw11.StateWithin", spec := "stateWithin", inPlace := ["internal/bytealg.IndexByteString", "internal/bytealg.IndexString", "internal/bytealg.abigen_runtime_cmpstring"], unfollowed := true, recurses := true, named := ["internal/bytealg.MaxLen", "chandler/version.signs", "unicode/utf8.first", "unicode/utf8.acceptRanges"], apart := false, laid := [("unicode/utf8.acceptRanges", laid_unicode_utf8_acceptRanges), ("chandler/version.signs", laid_chandler_version_signs), ("unicode/utf8.first", laid_unicode_utf8_first)] }
def StateWithinSaid : Prop := stateWithinRow.holds Tryd.pinned (OpenSpec.ofChange stateWithinSpec)

/-- ITS FALSE NEIGHBOUR: 'it returns false'. Refute it at one input. -/
def stateWithinWrong : ChangeSpec := { name := "stateWithin", fn := fun _ => fun
  | [d1, d2] => { results := [.lit (.bool false)], args := [d1, d2] }
  | _ => none }
def StateWithinWrongFalsely : Prop := stateWithinRow.holds Tryd.pinned (OpenSpec.ofChange stateWithinWrong)

/-- 'chandlerlaw11.StateLess': WHATEVER THE INPUT: true; the input reads as it did. -/
def stateLessSpec : ChangeSpec := { name := "stateLess", fn := fun _ => fun
  | [d1, d2, d3] => { results := [.lit (.bool true)], args := [d1, d2, d3] }
  | _ => none }
def stateLessRow : OpenClaim := { program := "ytgpcilepkmckeaadoor", sum := "2ff7e2d7c07a680dcd01727f058bb7f8de266c93f1d6b2cf3114be8fd145eea0", func := "chandler/chandlerlaw11.StateLess", spec := "stateLess", inPlace := ["internal/bytealg.IndexByteString", "internal/bytealg.IndexString", "internal/bytealg.abigen_runtime_cmpstring"], unfollowed := true, recurses := true, named := ["internal/bytealg.MaxLen", "chandler/version.signs", "unicode/utf8.first", "unicode/utf8.acceptRanges"], apart := false, laid := [("unicode/utf8.acceptRanges", laid_unicode_utf8_acceptRanges), ("chandler/version.signs", laid_chandler_version_signs), ("unicode/utf8.first", laid_unicode_utf8_first)] }
def StateLessSaid : Prop := stateLessRow.holds Tryd.pinned (OpenSpec.ofChange stateLessSpec)

/-- ITS FALSE NEIGHBOUR: 'it returns false'. Refute it at one input. -/
def stateLessWrong : ChangeSpec := { name := "stateLess", fn := fun _ => fun
  | [d1, d2, d3] => { results := [.lit (.bool false)], args := [d1, d2, d3] }
  | _ => none }
def StateLessWrongFalsely : Prop := stateLessRow.holds Tryd.pinned (OpenSpec.ofChange stateLessWrong)

/- THE SECOND FORM. 'bulk': how many values and letters a reading holds, each counted each time it is reached (what is shared counts as often as it is met; a slice's spare places count too). A statement '..UptoSaid' is the law's where the arguments, and the package variables that the reading takes, are together of bulk at most 1048576: NARROWER than '..Said'. Prove '..Said' where nothing that the law and all that it calls make is longer than what came in: it says more and counts as full. Else prove '..UptoSaid'. A law counts once. -/
mutual
def uptoBulk {H : Type} : DataW H → Nat
  | .lit (.string bytes) => bytes.length + 1
  | .lit _ => 1
  | .nil => 1
  | .ptr d => uptoBulk d + 1
  | .slice elems spare => uptoBulkAll elems + uptoBulkAll spare + 1
  | .agg parts => uptoBulkAll parts + 1
  | .iface _ d => uptoBulk d + 1
  | .map entries => uptoBulkEntries entries + 1
  | .held _ => 1
def uptoBulkAll {H : Type} : List (DataW H) → Nat
  | [] => 0
  | d :: r => uptoBulk d + uptoBulkAll r
def uptoBulkEntries {H : Type} : List (Lit × DataW H) → Nat
  | [] => 0
  | x :: r => uptoBulkEntry x + uptoBulkEntries r
def uptoBulkEntry {H : Type} : Lit × DataW H → Nat
  | (.string bytes, d) => bytes.length + uptoBulk d + 1
  | (_, d) => uptoBulk d + 1
 end
def uptoSmall : (H : Type) → List (DataW H) → Bool := fun _ ds => decide (uptoBulkAll ds ≤ 1048576)
def OpenSpec.upto (s : _root_.Go.ChangeSpec) : _root_.Go.OpenSpec := { _root_.Go.OpenSpec.ofChange s with cond := some uptoSmall }

/-- 'chandlerlaw11.StateWrong', WHERE WHAT IT READS IS OF BULK AT MOST 1048576: true; the input reads as it did. -/
def stateWrongUptoRow : OpenClaim := { program := "ytgpcilepkmckeaadoor", sum := "2ff7e2d7c07a680dcd01727f058bb7f8de266c93f1d6b2cf3114be8fd145eea0", func := "chandler/chandlerlaw11.StateWrong", spec := "stateWrong", inPlace := ["internal/bytealg.IndexByteString", "internal/bytealg.IndexString", "internal/bytealg.abigen_runtime_cmpstring"], unfollowed := true, recurses := true, named := ["internal/bytealg.MaxLen", "chandler/version.signs", "unicode/utf8.first", "unicode/utf8.acceptRanges"], apart := false, laid := [("unicode/utf8.acceptRanges", laid_unicode_utf8_acceptRanges), ("chandler/version.signs", laid_chandler_version_signs), ("unicode/utf8.first", laid_unicode_utf8_first)], narrowed := true }
def StateWrongUptoSaid : Prop := stateWrongUptoRow.holds Tryd.pinned (OpenSpec.upto stateWrongSpec)

/-- 'chandlerlaw11.StateWithin', WHERE WHAT IT READS IS OF BULK AT MOST 1048576: true; the input reads as it did. -/
def stateWithinUptoRow : OpenClaim := { program := "ytgpcilepkmckeaadoor", sum := "2ff7e2d7c07a680dcd01727f058bb7f8de266c93f1d6b2cf3114be8fd145eea0", func := "chandler/chandlerlaw11.StateWithin", spec := "stateWithin", inPlace := ["internal/bytealg.IndexByteString", "internal/bytealg.IndexString", "internal/bytealg.abigen_runtime_cmpstring"], unfollowed := true, recurses := true, named := ["internal/bytealg.MaxLen", "chandler/version.signs", "unicode/utf8.first", "unicode/utf8.acceptRanges"], apart := false, laid := [("unicode/utf8.acceptRanges", laid_unicode_utf8_acceptRanges), ("chandler/version.signs", laid_chandler_version_signs), ("unicode/utf8.first", laid_unicode_utf8_first)], narrowed := true }
def StateWithinUptoSaid : Prop := stateWithinUptoRow.holds Tryd.pinned (OpenSpec.upto stateWithinSpec)

/-- 'chandlerlaw11.StateLess', WHERE WHAT IT READS IS OF BULK AT MOST 1048576: true; the input reads as it did. -/
def stateLessUptoRow : OpenClaim := { program := "ytgpcilepkmckeaadoor", sum := "2ff7e2d7c07a680dcd01727f058bb7f8de266c93f1d6b2cf3114be8fd145eea0", func := "chandler/chandlerlaw11.StateLess", spec := "stateLess", inPlace := ["internal/bytealg.IndexByteString", "internal/bytealg.IndexString", "internal/bytealg.abigen_runtime_cmpstring"], unfollowed := true, recurses := true, named := ["internal/bytealg.MaxLen", "chandler/version.signs", "unicode/utf8.first", "unicode/utf8.acceptRanges"], apart := false, laid := [("unicode/utf8.acceptRanges", laid_unicode_utf8_acceptRanges), ("chandler/version.signs", laid_chandler_version_signs), ("unicode/utf8.first", laid_unicode_utf8_first)], narrowed := true }
def StateLessUptoSaid : Prop := stateLessUptoRow.holds Tryd.pinned (OpenSpec.upto stateLessSpec)

end Rows
end Go.Proofs.YtgpcilepkmckeaaDoor

/-
  NARROWER THAN 'FOR EVERY INPUT', by the rows' own cells (each row's printed sentence says how): IndexMeets: laid · IndexFinds: laid · IndexNil: laid · IndexTurned: laid · IndexClash: laid · IndexSplits: laid · IndexGives: laid.
  DERIVED. THE GIVEN ROWS OF THIS SEAT. 7 by the template 'for every input the law returns true; each argument reads behind the call as it read before'; 0 by the template 'total and deterministic' (their statements: YtelofmeapplfpaaGreatDoorTotals.lean).
  GIVEN WITH THE SEED: the statements are not yours to turn. If you find one false, say at which input.
  Laid BY PROGRAM, IN A SANDBOX (cutbox-rows.mjs): the forced cells as the released guide's own fill.sh prints them over the translation 9f6fff24cc434df5… (all of the seat's roots in one cut). By AI agents, Wed Nov 11 2026. No macro, syntax, notation, axiom, sorry.
-/
import Derived.Test.YtelofmeapplfpaaGreatDoorChecked
import GoSem.PinnedTables
import GoSem.Claim
import GoSem.ClaimJoined
import GoSem.ClaimMapViews
import Derived.JoinedTies
import Derived.KernelRfl
namespace Go.Proofs.YtelofmeapplfpaaGreatDoor
/- THE CELL 'sum', in the pinned program and in every row, IS THE sha256 OF THE DUMP (.gsa) THAT YtelofmeapplfpaaGreatDoorProg.lean LOADS. Nothing in Lean hashes anything: it is a label: what it is worth is what the hold of that sum in a sandbox is worth. -/
noncomputable def Tryz.pinned : Pinned := { name := "ytelofmeapplfpaagreatdoor", sum := "9f6fff24cc434df5f6eade386388112f3030247dfd104f651753b11a62810fa2", checked := Tryz.checked }
namespace Rows
def none {H : Type} : Left H := { results := [], args := [] }

/- WHAT THE LISTED PACKAGE-LEVEL VARIABLES READ AS WHEN THE CALL BEGINS. Each datum BY PROGRAM (the guide's laid-datum.mjs) off the statement by which the dump's own 'gosem.cut.vars' lays the variable. In a bare row this is a premise. The card (YtelofmeapplfpaaGreatDoorCards.lean) ties it to the program's text. -/
def laid_unicode_utf8_acceptRanges {H : Type} : DataW H := .agg [.agg [.lit (.int .u8 128), .lit (.int .u8 191)], .agg [.lit (.int .u8 160), .lit (.int .u8 191)], .agg [.lit (.int .u8 128), .lit (.int .u8 159)], .agg [.lit (.int .u8 144), .lit (.int .u8 191)], .agg [.lit (.int .u8 128), .lit (.int .u8 143)], .agg [.lit (.int .u8 0), .lit (.int .u8 0)], .agg [.lit (.int .u8 0), .lit (.int .u8 0)], .agg [.lit (.int .u8 0), .lit (.int .u8 0)], .agg [.lit (.int .u8 0), .lit (.int .u8 0)], .agg [.lit (.int .u8 0), .lit (.int .u8 0)], .agg [.lit (.int .u8 0), .lit (.int .u8 0)], .agg [.lit (.int .u8 0), .lit (.int .u8 0)], .agg [.lit (.int .u8 0), .lit (.int .u8 0)], .agg [.lit (.int .u8 0), .lit (.int .u8 0)], .agg [.lit (.int .u8 0), .lit (.int .u8 0)], .agg [.lit (.int .u8 0), .lit (.int .u8 0)]]
def laid_chandler_version_signs {H : Type} : DataW H := .agg [.lit (.string []), .lit (.string [60, 60]), .lit (.string [60, 61]), .lit (.string [61]), .lit (.string [62, 61]), .lit (.string [62, 62])]
/-- One of Go's own tables, pinned by name: the form's constant. -/
def laid_unicode_utf8_first : DataW Unit := Go.Pinned.utf8First

/-- 'chandlerlaw10.IndexMeets': WHATEVER THE INPUT: true; the input reads as it did. -/
def indexMeetsSpec : ChangeSpec := { name := "indexMeets", fn := fun _ => fun
  | [d1, d2, d3] => { results := [.lit (.bool true)], args := [d1, d2, d3] }
  | _ => none }
def indexMeetsRow : OpenClaim := { program := "ytelofmeapplfpaagreatdoor", sum := "9f6fff24cc434df5f6eade386388112f3030247dfd104f651753b11a62810fa2", func := "chandler/chandlerlaw10.IndexMeets", spec := "indexMeets", inPlace := ["internal/bytealg.IndexByteString", "internal/bytealg.IndexString", "internal/bytealg.abigen_runtime_cmpstring"], unfollowed := true, recurses := true, named := ["internal/bytealg.MaxLen", "chandler/version.signs", "unicode/utf8.first", "unicode/utf8.acceptRanges"], apart := false, laid := [("unicode/utf8.acceptRanges", laid_unicode_utf8_acceptRanges), ("chandler/version.signs", laid_chandler_version_signs), ("unicode/utf8.first", laid_unicode_utf8_first)] }
def IndexMeetsSaid : Prop := indexMeetsRow.holds Tryz.pinned (OpenSpec.ofChange indexMeetsSpec)

/-- ITS FALSE NEIGHBOUR: 'it returns false'. Refute it at one input. -/
def indexMeetsWrong : ChangeSpec := { name := "indexMeets", fn := fun _ => fun
  | [d1, d2, d3] => { results := [.lit (.bool false)], args := [d1, d2, d3] }
  | _ => none }
def IndexMeetsWrongFalsely : Prop := indexMeetsRow.holds Tryz.pinned (OpenSpec.ofChange indexMeetsWrong)

/-- 'chandlerlaw10.IndexFinds': WHATEVER THE INPUT: true; the input reads as it did. -/
def indexFindsSpec : ChangeSpec := { name := "indexFinds", fn := fun _ => fun
  | [d1, d2, d3, d4, d5] => { results := [.lit (.bool true)], args := [d1, d2, d3, d4, d5] }
  | _ => none }
def indexFindsRow : OpenClaim := { program := "ytelofmeapplfpaagreatdoor", sum := "9f6fff24cc434df5f6eade386388112f3030247dfd104f651753b11a62810fa2", func := "chandler/chandlerlaw10.IndexFinds", spec := "indexFinds", inPlace := ["internal/bytealg.IndexByteString", "internal/bytealg.IndexString", "internal/bytealg.abigen_runtime_cmpstring"], unfollowed := true, recurses := true, named := ["internal/bytealg.MaxLen", "chandler/version.signs", "unicode/utf8.first", "unicode/utf8.acceptRanges"], apart := false, laid := [("unicode/utf8.acceptRanges", laid_unicode_utf8_acceptRanges), ("chandler/version.signs", laid_chandler_version_signs), ("unicode/utf8.first", laid_unicode_utf8_first)] }
def IndexFindsSaid : Prop := indexFindsRow.holds Tryz.pinned (OpenSpec.ofChange indexFindsSpec)

/-- ITS FALSE NEIGHBOUR: 'it returns false'. Refute it at one input. -/
def indexFindsWrong : ChangeSpec := { name := "indexFinds", fn := fun _ => fun
  | [d1, d2, d3, d4, d5] => { results := [.lit (.bool false)], args := [d1, d2, d3, d4, d5] }
  | _ => none }
def IndexFindsWrongFalsely : Prop := indexFindsRow.holds Tryz.pinned (OpenSpec.ofChange indexFindsWrong)

/-- 'chandlerlaw10.IndexNil': WHATEVER THE INPUT: true; the input reads as it did. -/
def indexNilSpec : ChangeSpec := { name := "indexNil", fn := fun _ => fun
  | [d1, d2, d3] => { results := [.lit (.bool true)], args := [d1, d2, d3] }
  | _ => none }
def indexNilRow : OpenClaim := { program := "ytelofmeapplfpaagreatdoor", sum := "9f6fff24cc434df5f6eade386388112f3030247dfd104f651753b11a62810fa2", func := "chandler/chandlerlaw10.IndexNil", spec := "indexNil", inPlace := ["internal/bytealg.IndexByteString", "internal/bytealg.IndexString", "internal/bytealg.abigen_runtime_cmpstring"], unfollowed := true, recurses := true, named := ["internal/bytealg.MaxLen", "unicode/utf8.first", "unicode/utf8.acceptRanges", "chandler/version.signs"], apart := false, laid := [("unicode/utf8.acceptRanges", laid_unicode_utf8_acceptRanges), ("chandler/version.signs", laid_chandler_version_signs), ("unicode/utf8.first", laid_unicode_utf8_first)] }
def IndexNilSaid : Prop := indexNilRow.holds Tryz.pinned (OpenSpec.ofChange indexNilSpec)

/-- ITS FALSE NEIGHBOUR: 'it returns false'. Refute it at one input. -/
def indexNilWrong : ChangeSpec := { name := "indexNil", fn := fun _ => fun
  | [d1, d2, d3] => { results := [.lit (.bool false)], args := [d1, d2, d3] }
  | _ => none }
def IndexNilWrongFalsely : Prop := indexNilRow.holds Tryz.pinned (OpenSpec.ofChange indexNilWrong)

/-- 'chandlerlaw10.IndexTurned': WHATEVER THE INPUT: true; the input reads as it did. -/
def indexTurnedSpec : ChangeSpec := { name := "indexTurned", fn := fun _ => fun
  | [d1, d2] => { results := [.lit (.bool true)], args := [d1, d2] }
  | _ => none }
def indexTurnedRow : OpenClaim := { program := "ytelofmeapplfpaagreatdoor", sum := "9f6fff24cc434df5f6eade386388112f3030247dfd104f651753b11a62810fa2", func := "chandler/chandlerlaw10.IndexTurned", spec := "indexTurned", inPlace := ["internal/bytealg.IndexByteString", "internal/bytealg.IndexString", "internal/bytealg.abigen_runtime_cmpstring"], unfollowed := true, recurses := true, named := ["internal/bytealg.MaxLen", "chandler/version.signs", "unicode/utf8.first", "unicode/utf8.acceptRanges"], apart := false, laid := [("unicode/utf8.acceptRanges", laid_unicode_utf8_acceptRanges), ("chandler/version.signs", laid_chandler_version_signs), ("unicode/utf8.first", laid_unicode_utf8_first)] }
def IndexTurnedSaid : Prop := indexTurnedRow.holds Tryz.pinned (OpenSpec.ofChange indexTurnedSpec)

/-- ITS FALSE NEIGHBOUR: 'it returns false'. Refute it at one input. -/
def indexTurnedWrong : ChangeSpec := { name := "indexTurned", fn := fun _ => fun
  | [d1, d2] => { results := [.lit (.bool false)], args := [d1, d2] }
  | _ => none }
def IndexTurnedWrongFalsely : Prop := indexTurnedRow.holds Tryz.pinned (OpenSpec.ofChange indexTurnedWrong)

/-- 'chandlerlaw10.IndexClash': WHATEVER THE INPUT: true; the input reads as it did. -/
def indexClashSpec : ChangeSpec := { name := "indexClash", fn := fun _ => fun
  | [d1, d2] => { results := [.lit (.bool true)], args := [d1, d2] }
  | _ => none }
def indexClashRow : OpenClaim := { program := "ytelofmeapplfpaagreatdoor", sum := "9f6fff24cc434df5f6eade386388112f3030247dfd104f651753b11a62810fa2", func := "chandler/chandlerlaw10.IndexClash", spec := "indexClash", inPlace := ["internal/bytealg.IndexByteString", "internal/bytealg.IndexString", "internal/bytealg.abigen_runtime_cmpstring"], unfollowed := true, recurses := true, named := ["internal/bytealg.MaxLen", "chandler/version.signs", "unicode/utf8.first", "unicode/utf8.acceptRanges"], apart := false, laid := [("unicode/utf8.acceptRanges", laid_unicode_utf8_acceptRanges), ("chandler/version.signs", laid_chandler_version_signs), ("unicode/utf8.first", laid_unicode_utf8_first)] }
def IndexClashSaid : Prop := indexClashRow.holds Tryz.pinned (OpenSpec.ofChange indexClashSpec)

/-- ITS FALSE NEIGHBOUR: 'it returns false'. Refute it at one input. -/
def indexClashWrong : ChangeSpec := { name := "indexClash", fn := fun _ => fun
  | [d1, d2] => { results := [.lit (.bool false)], args := [d1, d2] }
  | _ => none }
def IndexClashWrongFalsely : Prop := indexClashRow.holds Tryz.pinned (OpenSpec.ofChange indexClashWrong)

/-- 'chandlerlaw10.IndexSplits': WHATEVER THE INPUT: true; the input reads as it did. -/
def indexSplitsSpec : ChangeSpec := { name := "indexSplits", fn := fun _ => fun
  | [d1, d2] => { results := [.lit (.bool true)], args := [d1, d2] }
  | _ => none }
def indexSplitsRow : OpenClaim := { program := "ytelofmeapplfpaagreatdoor", sum := "9f6fff24cc434df5f6eade386388112f3030247dfd104f651753b11a62810fa2", func := "chandler/chandlerlaw10.IndexSplits", spec := "indexSplits", inPlace := ["internal/bytealg.IndexByteString", "internal/bytealg.IndexString", "internal/bytealg.abigen_runtime_cmpstring"], unfollowed := true, recurses := true, named := ["internal/bytealg.MaxLen", "chandler/version.signs", "unicode/utf8.first", "unicode/utf8.acceptRanges"], apart := false, laid := [("unicode/utf8.acceptRanges", laid_unicode_utf8_acceptRanges), ("chandler/version.signs", laid_chandler_version_signs), ("unicode/utf8.first", laid_unicode_utf8_first)] }
def IndexSplitsSaid : Prop := indexSplitsRow.holds Tryz.pinned (OpenSpec.ofChange indexSplitsSpec)

/-- ITS FALSE NEIGHBOUR: 'it returns false'. Refute it at one input. -/
def indexSplitsWrong : ChangeSpec := { name := "indexSplits", fn := fun _ => fun
  | [d1, d2] => { results := [.lit (.bool false)], args := [d1, d2] }
  | _ => none }
def IndexSplitsWrongFalsely : Prop := indexSplitsRow.holds Tryz.pinned (OpenSpec.ofChange indexSplitsWrong)

/-- 'chandlerlaw10.IndexGives': WHATEVER THE INPUT: true; the input reads as it did. -/
def indexGivesSpec : ChangeSpec := { name := "indexGives", fn := fun _ => fun
  | [d1, d2, d3, d4, d5] => { results := [.lit (.bool true)], args := [d1, d2, d3, d4, d5] }
  | _ => none }
def indexGivesRow : OpenClaim := { program := "ytelofmeapplfpaagreatdoor", sum := "9f6fff24cc434df5f6eade386388112f3030247dfd104f651753b11a62810fa2", func := "chandler/chandlerlaw10.IndexGives", spec := "indexGives", inPlace := ["internal/bytealg.IndexByteString", "internal/bytealg.IndexString", "internal/bytealg.abigen_runtime_cmpstring"], unfollowed := true, recurses := true, named := ["internal/bytealg.MaxLen", "chandler/version.signs", "unicode/utf8.first", "unicode/utf8.acceptRanges"], apart := false, laid := [("unicode/utf8.acceptRanges", laid_unicode_utf8_acceptRanges), ("chandler/version.signs", laid_chandler_version_signs), ("unicode/utf8.first", laid_unicode_utf8_first)] }
def IndexGivesSaid : Prop := indexGivesRow.holds Tryz.pinned (OpenSpec.ofChange indexGivesSpec)

/-- ITS FALSE NEIGHBOUR: 'it returns false'. Refute it at one input. -/
def indexGivesWrong : ChangeSpec := { name := "indexGives", fn := fun _ => fun
  | [d1, d2, d3, d4, d5] => { results := [.lit (.bool false)], args := [d1, d2, d3, d4, d5] }
  | _ => none }
def IndexGivesWrongFalsely : Prop := indexGivesRow.holds Tryz.pinned (OpenSpec.ofChange indexGivesWrong)

/- THE SECOND FORM. 'bulk': how many values and letters a reading holds, each counted each time it is reached (what is shared counts as often as it is met; a slice's spare places count too). A statement '..UptoSaid' is the law's where the arguments, and the package variables that the reading takes, are together of bulk at most 1048576: NARROWER than '..Said'. Prove '..Said' where nothing that the law and all that it calls make is longer than what came in: it says more and counts as full. Else prove '..UptoSaid'. A law counts once. -/
mutual
def uptoBulk {H : Type} : DataW H → Nat
  | .lit (.string bytes) => bytes.length + 1
  | .lit _ => 1
  | .nil => 1
  | .ptr d => uptoBulk d + 1
  | .slice elems spare => uptoBulkAll elems + uptoBulkAll spare + 1
  | .agg parts => uptoBulkAll parts + 1
  | .iface _ d => uptoBulk d + 1
  | .map entries => uptoBulkEntries entries + 1
  | .held _ => 1
def uptoBulkAll {H : Type} : List (DataW H) → Nat
  | [] => 0
  | d :: r => uptoBulk d + uptoBulkAll r
def uptoBulkEntries {H : Type} : List (Lit × DataW H) → Nat
  | [] => 0
  | x :: r => uptoBulkEntry x + uptoBulkEntries r
def uptoBulkEntry {H : Type} : Lit × DataW H → Nat
  | (.string bytes, d) => bytes.length + uptoBulk d + 1
  | (_, d) => uptoBulk d + 1
 end
def uptoSmall : (H : Type) → List (DataW H) → Bool := fun _ ds => decide (uptoBulkAll ds ≤ 1048576)
def OpenSpec.upto (s : _root_.Go.ChangeSpec) : _root_.Go.OpenSpec := { _root_.Go.OpenSpec.ofChange s with cond := some uptoSmall }

/-- 'chandlerlaw10.IndexMeets', WHERE WHAT IT READS IS OF BULK AT MOST 1048576: true; the input reads as it did. -/
def indexMeetsUptoRow : OpenClaim := { program := "ytelofmeapplfpaagreatdoor", sum := "9f6fff24cc434df5f6eade386388112f3030247dfd104f651753b11a62810fa2", func := "chandler/chandlerlaw10.IndexMeets", spec := "indexMeets", inPlace := ["internal/bytealg.IndexByteString", "internal/bytealg.IndexString", "internal/bytealg.abigen_runtime_cmpstring"], unfollowed := true, recurses := true, named := ["internal/bytealg.MaxLen", "chandler/version.signs", "unicode/utf8.first", "unicode/utf8.acceptRanges"], apart := false, laid := [("unicode/utf8.acceptRanges", laid_unicode_utf8_acceptRanges), ("chandler/version.signs", laid_chandler_version_signs), ("unicode/utf8.first", laid_unicode_utf8_first)], narrowed := true }
def IndexMeetsUptoSaid : Prop := indexMeetsUptoRow.holds Tryz.pinned (OpenSpec.upto indexMeetsSpec)

/-- 'chandlerlaw10.IndexFinds', WHERE WHAT IT READS IS OF BULK AT MOST 1048576: true; the input reads as it did. -/
def indexFindsUptoRow : OpenClaim := { program := "ytelofmeapplfpaagreatdoor", sum := "9f6fff24cc434df5f6eade386388112f3030247dfd104f651753b11a62810fa2", func := "chandler/chandlerlaw10.IndexFinds", spec := "indexFinds", inPlace := ["internal/bytealg.IndexByteString", "internal/bytealg.IndexString", "internal/bytealg.abigen_runtime_cmpstring"], unfollowed := true, recurses := true, named := ["internal/bytealg.MaxLen", "chandler/version.signs", "unicode/utf8.first", "unicode/utf8.acceptRanges"], apart := false, laid := [("unicode/utf8.acceptRanges", laid_unicode_utf8_acceptRanges), ("chandler/version.signs", laid_chandler_version_signs), ("unicode/utf8.first", laid_unicode_utf8_first)], narrowed := true }
def IndexFindsUptoSaid : Prop := indexFindsUptoRow.holds Tryz.pinned (OpenSpec.upto indexFindsSpec)

/-- 'chandlerlaw10.IndexNil', WHERE WHAT IT READS IS OF BULK AT MOST 1048576: true; the input reads as it did. -/
def indexNilUptoRow : OpenClaim := { program := "ytelofmeapplfpaagreatdoor", sum := "9f6fff24cc434df5f6eade386388112f3030247dfd104f651753b11a62810fa2", func := "chandler/chandlerlaw10.IndexNil", spec := "indexNil", inPlace := ["internal/bytealg.IndexByteString", "internal/bytealg.IndexString", "internal/bytealg.abigen_runtime_cmpstring"], unfollowed := true, recurses := true, named := ["internal/bytealg.MaxLen", "unicode/utf8.first", "unicode/utf8.acceptRanges", "chandler/version.signs"], apart := false, laid := [("unicode/utf8.acceptRanges", laid_unicode_utf8_acceptRanges), ("chandler/version.signs", laid_chandler_version_signs), ("unicode/utf8.first", laid_unicode_utf8_first)], narrowed := true }
def IndexNilUptoSaid : Prop := indexNilUptoRow.holds Tryz.pinned (OpenSpec.upto indexNilSpec)

/-- 'chandlerlaw10.IndexTurned', WHERE WHAT IT READS IS OF BULK AT MOST 1048576: true; the input reads as it did. -/
def indexTurnedUptoRow : OpenClaim := { program := "ytelofmeapplfpaagreatdoor", sum := "9f6fff24cc434df5f6eade386388112f3030247dfd104f651753b11a62810fa2", func := "chandler/chandlerlaw10.IndexTurned", spec := "indexTurned", inPlace := ["internal/bytealg.IndexByteString", "internal/bytealg.IndexString", "internal/bytealg.abigen_runtime_cmpstring"], unfollowed := true, recurses := true, named := ["internal/bytealg.MaxLen", "chandler/version.signs", "unicode/utf8.first", "unicode/utf8.acceptRanges"], apart := false, laid := [("unicode/utf8.acceptRanges", laid_unicode_utf8_acceptRanges), ("chandler/version.signs", laid_chandler_version_signs), ("unicode/utf8.first", laid_unicode_utf8_first)], narrowed := true }
def IndexTurnedUptoSaid : Prop := indexTurnedUptoRow.holds Tryz.pinned (OpenSpec.upto indexTurnedSpec)

/-- 'chandlerlaw10.IndexClash', WHERE WHAT IT READS IS OF BULK AT MOST 1048576: true; the input reads as it did. -/
def indexClashUptoRow : OpenClaim := { program := "ytelofmeapplfpaagreatdoor", sum := "9f6fff24cc434df5f6eade386388112f3030247dfd104f651753b11a62810fa2", func := "chandler/chandlerlaw10.IndexClash", spec := "indexClash", inPlace := ["internal/bytealg.IndexByteString", "internal/bytealg.IndexString", "internal/bytealg.abigen_runtime_cmpstring"], unfollowed := true, recurses := true, named := ["internal/bytealg.MaxLen", "chandler/version.signs", "unicode/utf8.first", "unicode/utf8.acceptRanges"], apart := false, laid := [("unicode/utf8.acceptRanges", laid_unicode_utf8_acceptRanges), ("chandler/version.signs", laid_chandler_version_signs), ("unicode/utf8.first", laid_unicode_utf8_first)], narrowed := true }
def IndexClashUptoSaid : Prop := indexClashUptoRow.holds Tryz.pinned (OpenSpec.upto indexClashSpec)

/-- 'chandlerlaw10.IndexSplits', WHERE WHAT IT READS IS OF BULK AT MOST 1048576: true; the input reads as it did. -/
def indexSplitsUptoRow : OpenClaim := { program := "ytelofmeapplfpaagreatdoor", sum := "9f6fff24cc434df5f6eade386388112f3030247dfd104f651753b11a62810fa2", func := "chandler/chandlerlaw10.IndexSplits", spec := "indexSplits", inPlace := ["internal/bytealg.IndexByteString", "internal/bytealg.IndexString", "internal/bytealg.abigen_runtime_cmpstring"], unfollowed := true, recurses := true, named := ["internal/bytealg.MaxLen", "chandler/version.signs", "unicode/utf8.first", "unicode/utf8.acceptRanges"], apart := false, laid := [("unicode/utf8.acceptRanges", laid_unicode_utf8_acceptRanges), ("chandler/version.signs", laid_chandler_version_signs), ("unicode/utf8.first", laid_unicode_utf8_first)], narrowed := true }
def IndexSplitsUptoSaid : Prop := indexSplitsUptoRow.holds Tryz.pinned (OpenSpec.upto indexSplitsSpec)

/-- 'chandlerlaw10.IndexGives', WHERE WHAT IT READS IS OF BULK AT MOST 1048576: true; the input reads as it did. -/
def indexGivesUptoRow : OpenClaim := { program := "ytelofmeapplfpaagreatdoor", sum := "9f6fff24cc434df5f6eade386388112f3030247dfd104f651753b11a62810fa2", func := "chandler/chandlerlaw10.IndexGives", spec := "indexGives", inPlace := ["internal/bytealg.IndexByteString", "internal/bytealg.IndexString", "internal/bytealg.abigen_runtime_cmpstring"], unfollowed := true, recurses := true, named := ["internal/bytealg.MaxLen", "chandler/version.signs", "unicode/utf8.first", "unicode/utf8.acceptRanges"], apart := false, laid := [("unicode/utf8.acceptRanges", laid_unicode_utf8_acceptRanges), ("chandler/version.signs", laid_chandler_version_signs), ("unicode/utf8.first", laid_unicode_utf8_first)], narrowed := true }
def IndexGivesUptoSaid : Prop := indexGivesUptoRow.holds Tryz.pinned (OpenSpec.upto indexGivesSpec)

end Rows
end Go.Proofs.YtelofmeapplfpaaGreatDoor

/-
  No cell of these rows narrows 'for every input' (looked for: loops, veiled, ifaces, maps, wideKeys, modest, calm, conditions, laid).
  DERIVED. THE GIVEN ROWS OF THIS SEAT. 7 by the template 'for every input the law returns true; each argument reads behind the call as it read before'; 0 by the template 'total and deterministic' (their statements: YtlpahomaokopoaaTotals.lean).
  GIVEN WITH THE SEED: the statements are not yours to turn. If you find one false, say at which input.
  Laid BY PROGRAM, IN A SANDBOX (cutbox-rows.mjs): the forced cells as the released guide's own fill.sh prints them over the translation 05f3a9d35fa96e84… (all of the seat's roots in one cut). By AI agents, Wed Nov 11 2026. No macro, syntax, notation, axiom, sorry.
-/
import Derived.Test.YtlpahomaokopoaaChecked
import GoSem.Claim
import GoSem.ClaimJoined
import GoSem.ClaimMapViews
import Derived.JoinedTies
import Derived.KernelRfl
namespace Go.Proofs.Ytlpahomaokopoaa
/- THE CELL 'sum', in the pinned program and in every row, IS THE sha256 OF THE DUMP (.gsa) THAT YtlpahomaokopoaaProg.lean LOADS. Nothing in Lean hashes anything: it is a label: what it is worth is what the hold of that sum in a sandbox is worth. -/
noncomputable def Try.pinned : Pinned := { name := "ytlpahomaokopoaa", sum := "05f3a9d35fa96e849147b70510e31834a15e698bad53b7a9b01df14c2c6f42a0", checked := Try.checked }
namespace Rows
def none {H : Type} : Left H := { results := [], args := [] }

/-- 'chandlerlaw13.CnfTidies': WHATEVER THE INPUT: true; the input reads as it did. -/
def cnfTidiesSpec : ChangeSpec := { name := "cnfTidies", fn := fun _ => fun
  | [d] => { results := [.lit (.bool true)], args := [d] }
  | _ => none }
def cnfTidiesRow : OpenClaim := { program := "ytlpahomaokopoaa", sum := "05f3a9d35fa96e849147b70510e31834a15e698bad53b7a9b01df14c2c6f42a0", func := "chandler/chandlerlaw13.CnfTidies", spec := "cnfTidies", unfollowed := true, recurses := true, apart := false }
def CnfTidiesSaid : Prop := cnfTidiesRow.holds Try.pinned (OpenSpec.ofChange cnfTidiesSpec)

/-- ITS FALSE NEIGHBOUR: 'it returns false'. Refute it at one input. -/
def cnfTidiesWrong : ChangeSpec := { name := "cnfTidies", fn := fun _ => fun
  | [d] => { results := [.lit (.bool false)], args := [d] }
  | _ => none }
def CnfTidiesWrongFalsely : Prop := cnfTidiesRow.holds Try.pinned (OpenSpec.ofChange cnfTidiesWrong)

/-- 'chandlerlaw13.CnfAdds': WHATEVER THE INPUT: true; the input reads as it did. -/
def cnfAddsSpec : ChangeSpec := { name := "cnfAdds", fn := fun _ => fun
  | [d1, d2, d3] => { results := [.lit (.bool true)], args := [d1, d2, d3] }
  | _ => none }
def cnfAddsRow : OpenClaim := { program := "ytlpahomaokopoaa", sum := "05f3a9d35fa96e849147b70510e31834a15e698bad53b7a9b01df14c2c6f42a0", func := "chandler/chandlerlaw13.CnfAdds", spec := "cnfAdds", unfollowed := true, recurses := true, apart := false }
def CnfAddsSaid : Prop := cnfAddsRow.holds Try.pinned (OpenSpec.ofChange cnfAddsSpec)

/-- ITS FALSE NEIGHBOUR: 'it returns false'. Refute it at one input. -/
def cnfAddsWrong : ChangeSpec := { name := "cnfAdds", fn := fun _ => fun
  | [d1, d2, d3] => { results := [.lit (.bool false)], args := [d1, d2, d3] }
  | _ => none }
def CnfAddsWrongFalsely : Prop := cnfAddsRow.holds Try.pinned (OpenSpec.ofChange cnfAddsWrong)

/-- 'chandlerlaw13.CnfHolds': WHATEVER THE INPUT: true; the input reads as it did. -/
def cnfHoldsSpec : ChangeSpec := { name := "cnfHolds", fn := fun _ => fun
  | [d1, d2, d3, d4] => { results := [.lit (.bool true)], args := [d1, d2, d3, d4] }
  | _ => none }
def cnfHoldsRow : OpenClaim := { program := "ytlpahomaokopoaa", sum := "05f3a9d35fa96e849147b70510e31834a15e698bad53b7a9b01df14c2c6f42a0", func := "chandler/chandlerlaw13.CnfHolds", spec := "cnfHolds", unfollowed := true, recurses := true, apart := false }
def CnfHoldsSaid : Prop := cnfHoldsRow.holds Try.pinned (OpenSpec.ofChange cnfHoldsSpec)

/-- ITS FALSE NEIGHBOUR: 'it returns false'. Refute it at one input. -/
def cnfHoldsWrong : ChangeSpec := { name := "cnfHolds", fn := fun _ => fun
  | [d1, d2, d3, d4] => { results := [.lit (.bool false)], args := [d1, d2, d3, d4] }
  | _ => none }
def CnfHoldsWrongFalsely : Prop := cnfHoldsRow.holds Try.pinned (OpenSpec.ofChange cnfHoldsWrong)

/-- 'chandlerlaw13.CnfMany': WHATEVER THE INPUT: true; the input reads as it did. -/
def cnfManySpec : ChangeSpec := { name := "cnfMany", fn := fun _ => fun
  | [d] => { results := [.lit (.bool true)], args := [d] }
  | _ => none }
def cnfManyRow : OpenClaim := { program := "ytlpahomaokopoaa", sum := "05f3a9d35fa96e849147b70510e31834a15e698bad53b7a9b01df14c2c6f42a0", func := "chandler/chandlerlaw13.CnfMany", spec := "cnfMany", unfollowed := true, recurses := true, apart := false }
def CnfManySaid : Prop := cnfManyRow.holds Try.pinned (OpenSpec.ofChange cnfManySpec)

/-- ITS FALSE NEIGHBOUR: 'it returns false'. Refute it at one input. -/
def cnfManyWrong : ChangeSpec := { name := "cnfMany", fn := fun _ => fun
  | [d] => { results := [.lit (.bool false)], args := [d] }
  | _ => none }
def CnfManyWrongFalsely : Prop := cnfManyRow.holds Try.pinned (OpenSpec.ofChange cnfManyWrong)

/-- 'chandlerlaw13.CnfNil': WHATEVER THE INPUT: true; the input reads as it did. -/
def cnfNilSpec : ChangeSpec := { name := "cnfNil", fn := fun _ => fun
  | [d1, d2] => { results := [.lit (.bool true)], args := [d1, d2] }
  | _ => none }
def cnfNilRow : OpenClaim := { program := "ytlpahomaokopoaa", sum := "05f3a9d35fa96e849147b70510e31834a15e698bad53b7a9b01df14c2c6f42a0", func := "chandler/chandlerlaw13.CnfNil", spec := "cnfNil", unfollowed := true, recurses := true, apart := false }
def CnfNilSaid : Prop := cnfNilRow.holds Try.pinned (OpenSpec.ofChange cnfNilSpec)

/-- ITS FALSE NEIGHBOUR: 'it returns false'. Refute it at one input. -/
def cnfNilWrong : ChangeSpec := { name := "cnfNil", fn := fun _ => fun
  | [d1, d2] => { results := [.lit (.bool false)], args := [d1, d2] }
  | _ => none }
def CnfNilWrongFalsely : Prop := cnfNilRow.holds Try.pinned (OpenSpec.ofChange cnfNilWrong)

/-- 'chandlerlaw13.CnfOne': WHATEVER THE INPUT: true; the input reads as it did. -/
def cnfOneSpec : ChangeSpec := { name := "cnfOne", fn := fun _ => fun
  | [d1, d2, d3] => { results := [.lit (.bool true)], args := [d1, d2, d3] }
  | _ => none }
def cnfOneRow : OpenClaim := { program := "ytlpahomaokopoaa", sum := "05f3a9d35fa96e849147b70510e31834a15e698bad53b7a9b01df14c2c6f42a0", func := "chandler/chandlerlaw13.CnfOne", spec := "cnfOne", unfollowed := true, recurses := true, apart := false }
def CnfOneSaid : Prop := cnfOneRow.holds Try.pinned (OpenSpec.ofChange cnfOneSpec)

/-- ITS FALSE NEIGHBOUR: 'it returns false'. Refute it at one input. -/
def cnfOneWrong : ChangeSpec := { name := "cnfOne", fn := fun _ => fun
  | [d1, d2, d3] => { results := [.lit (.bool false)], args := [d1, d2, d3] }
  | _ => none }
def CnfOneWrongFalsely : Prop := cnfOneRow.holds Try.pinned (OpenSpec.ofChange cnfOneWrong)

/-- 'chandlerlaw13.CnfMore': WHATEVER THE INPUT: true; the input reads as it did. -/
def cnfMoreSpec : ChangeSpec := { name := "cnfMore", fn := fun _ => fun
  | [d1, d2, d3, d4] => { results := [.lit (.bool true)], args := [d1, d2, d3, d4] }
  | _ => none }
def cnfMoreRow : OpenClaim := { program := "ytlpahomaokopoaa", sum := "05f3a9d35fa96e849147b70510e31834a15e698bad53b7a9b01df14c2c6f42a0", func := "chandler/chandlerlaw13.CnfMore", spec := "cnfMore", unfollowed := true, recurses := true, apart := false }
def CnfMoreSaid : Prop := cnfMoreRow.holds Try.pinned (OpenSpec.ofChange cnfMoreSpec)

/-- ITS FALSE NEIGHBOUR: 'it returns false'. Refute it at one input. -/
def cnfMoreWrong : ChangeSpec := { name := "cnfMore", fn := fun _ => fun
  | [d1, d2, d3, d4] => { results := [.lit (.bool false)], args := [d1, d2, d3, d4] }
  | _ => none }
def CnfMoreWrongFalsely : Prop := cnfMoreRow.holds Try.pinned (OpenSpec.ofChange cnfMoreWrong)

/- THE SECOND FORM. 'bulk': how many values and letters a reading holds, each counted each time it is reached (what is shared counts as often as it is met; a slice's spare places count too). A statement '..UptoSaid' is the law's where the arguments, and the package variables that the reading takes, are together of bulk at most 1048576: NARROWER than '..Said'. Prove '..Said' where nothing that the law and all that it calls make is longer than what came in: it says more and counts as full. Else prove '..UptoSaid'. A law counts once. -/
mutual
def uptoBulk {H : Type} : DataW H → Nat
  | .lit (.string bytes) => bytes.length + 1
  | .lit _ => 1
  | .nil => 1
  | .ptr d => uptoBulk d + 1
  | .slice elems spare => uptoBulkAll elems + uptoBulkAll spare + 1
  | .agg parts => uptoBulkAll parts + 1
  | .iface _ d => uptoBulk d + 1
  | .map entries => uptoBulkEntries entries + 1
  | .held _ => 1
def uptoBulkAll {H : Type} : List (DataW H) → Nat
  | [] => 0
  | d :: r => uptoBulk d + uptoBulkAll r
def uptoBulkEntries {H : Type} : List (Lit × DataW H) → Nat
  | [] => 0
  | x :: r => uptoBulkEntry x + uptoBulkEntries r
def uptoBulkEntry {H : Type} : Lit × DataW H → Nat
  | (.string bytes, d) => bytes.length + uptoBulk d + 1
  | (_, d) => uptoBulk d + 1
 end
def uptoSmall : (H : Type) → List (DataW H) → Bool := fun _ ds => decide (uptoBulkAll ds ≤ 1048576)
def OpenSpec.upto (s : _root_.Go.ChangeSpec) : _root_.Go.OpenSpec := { _root_.Go.OpenSpec.ofChange s with cond := some uptoSmall }

/-- 'chandlerlaw13.CnfTidies', WHERE WHAT IT READS IS OF BULK AT MOST 1048576: true; the input reads as it did. -/
def cnfTidiesUptoRow : OpenClaim := { program := "ytlpahomaokopoaa", sum := "05f3a9d35fa96e849147b70510e31834a15e698bad53b7a9b01df14c2c6f42a0", func := "chandler/chandlerlaw13.CnfTidies", spec := "cnfTidies", unfollowed := true, recurses := true, apart := false, narrowed := true }
def CnfTidiesUptoSaid : Prop := cnfTidiesUptoRow.holds Try.pinned (OpenSpec.upto cnfTidiesSpec)

/-- 'chandlerlaw13.CnfAdds', WHERE WHAT IT READS IS OF BULK AT MOST 1048576: true; the input reads as it did. -/
def cnfAddsUptoRow : OpenClaim := { program := "ytlpahomaokopoaa", sum := "05f3a9d35fa96e849147b70510e31834a15e698bad53b7a9b01df14c2c6f42a0", func := "chandler/chandlerlaw13.CnfAdds", spec := "cnfAdds", unfollowed := true, recurses := true, apart := false, narrowed := true }
def CnfAddsUptoSaid : Prop := cnfAddsUptoRow.holds Try.pinned (OpenSpec.upto cnfAddsSpec)

/-- 'chandlerlaw13.CnfHolds', WHERE WHAT IT READS IS OF BULK AT MOST 1048576: true; the input reads as it did. -/
def cnfHoldsUptoRow : OpenClaim := { program := "ytlpahomaokopoaa", sum := "05f3a9d35fa96e849147b70510e31834a15e698bad53b7a9b01df14c2c6f42a0", func := "chandler/chandlerlaw13.CnfHolds", spec := "cnfHolds", unfollowed := true, recurses := true, apart := false, narrowed := true }
def CnfHoldsUptoSaid : Prop := cnfHoldsUptoRow.holds Try.pinned (OpenSpec.upto cnfHoldsSpec)

/-- 'chandlerlaw13.CnfMany', WHERE WHAT IT READS IS OF BULK AT MOST 1048576: true; the input reads as it did. -/
def cnfManyUptoRow : OpenClaim := { program := "ytlpahomaokopoaa", sum := "05f3a9d35fa96e849147b70510e31834a15e698bad53b7a9b01df14c2c6f42a0", func := "chandler/chandlerlaw13.CnfMany", spec := "cnfMany", unfollowed := true, recurses := true, apart := false, narrowed := true }
def CnfManyUptoSaid : Prop := cnfManyUptoRow.holds Try.pinned (OpenSpec.upto cnfManySpec)

/-- 'chandlerlaw13.CnfNil', WHERE WHAT IT READS IS OF BULK AT MOST 1048576: true; the input reads as it did. -/
def cnfNilUptoRow : OpenClaim := { program := "ytlpahomaokopoaa", sum := "05f3a9d35fa96e849147b70510e31834a15e698bad53b7a9b01df14c2c6f42a0", func := "chandler/chandlerlaw13.CnfNil", spec := "cnfNil", unfollowed := true, recurses := true, apart := false, narrowed := true }
def CnfNilUptoSaid : Prop := cnfNilUptoRow.holds Try.pinned (OpenSpec.upto cnfNilSpec)

/-- 'chandlerlaw13.CnfOne', WHERE WHAT IT READS IS OF BULK AT MOST 1048576: true; the input reads as it did. -/
def cnfOneUptoRow : OpenClaim := { program := "ytlpahomaokopoaa", sum := "05f3a9d35fa96e849147b70510e31834a15e698bad53b7a9b01df14c2c6f42a0", func := "chandler/chandlerlaw13.CnfOne", spec := "cnfOne", unfollowed := true, recurses := true, apart := false, narrowed := true }
def CnfOneUptoSaid : Prop := cnfOneUptoRow.holds Try.pinned (OpenSpec.upto cnfOneSpec)

/-- 'chandlerlaw13.CnfMore', WHERE WHAT IT READS IS OF BULK AT MOST 1048576: true; the input reads as it did. -/
def cnfMoreUptoRow : OpenClaim := { program := "ytlpahomaokopoaa", sum := "05f3a9d35fa96e849147b70510e31834a15e698bad53b7a9b01df14c2c6f42a0", func := "chandler/chandlerlaw13.CnfMore", spec := "cnfMore", unfollowed := true, recurses := true, apart := false, narrowed := true }
def CnfMoreUptoSaid : Prop := cnfMoreUptoRow.holds Try.pinned (OpenSpec.upto cnfMoreSpec)

end Rows
end Go.Proofs.Ytlpahomaokopoaa

/-
A set and the reference's set, side by side.
-/
import Derived.Test.YtlpahomaokopoaaCnfQAtM
import Derived.Test.YtlpahomaokopoaaCnfArgs
namespace Go.Proofs.Ytlpahomaokopoaa
open Go.RowKit
set_option linter.unusedSimpArgs false
set_option linter.unusedVariables false
namespace Cn
structure Two (w : World) (B p q : Nat) (v u : Value) (n : Nat) (L M : List (List Int)) : Prop where
  cs : CSet w B p v n L
  qs : QSet w B q u n M
  ap : Apart v u
theorem Two.ne {w : World} {B p q : Nat} {v u : Value} {n : Nat} {L M : List (List Int)} (h : Two w B p q v u n L M) : p ≠ q := h.cs.is.ne h.qs.is (by decide)
theorem Two.below {w w' : World} {B p q : Nat} {v u : Value} {n : Nat} {L M : List (List Int)} (h : Two w B p q v u n L M) (k : Below w.heap.size w w') : Two w' B p q v u n L M := ⟨h.cs.below k, h.qs.below k, h.ap⟩
theorem Two.left {w w' : World} {B p q : Nat} {v u v' : Value} {n : Nat} {L M L' : List (List Int)} (h : Two w B p q v u n L M) (k : Went 55 w B p v n w' v' L') : Two w' B p q v' u n L' M :=
  ⟨k.set, h.qs.other (by decide) (by decide) (by decide) h.cs h.ne.symm h.ap.symm k.chg, (h.ap.symm.grow k.grow (fun i hi => (h.qs.rows.is hi).2.1)).symm⟩
theorem Two.right {w w' : World} {B p q : Nat} {v u u' : Value} {n : Nat} {L M M' : List (List Int)} (h : Two w B p q v u n L M) (k : Went 36 w B q u n w' u' M') : Two w' B p q v u' n L M' :=
  ⟨h.cs.other (by decide) (by decide) (by decide) h.qs h.ne h.ap k.chg, k.set, h.ap.grow k.grow (fun i hi => (h.cs.rows.is hi).2.1)⟩
theorem Two.low1 {w w' : World} {B p q : Nat} {v u v' : Value} {n : Nat} {L M L' : List (List Int)} (h : Two w B p q v u n L M) (k : Went 55 w B p v n w' v' L') (hB : B ≤ w.heap.size) : Below B w w' := k.low h.cs hB
theorem Two.low2 {w w' : World} {B p q : Nat} {v u u' : Value} {n : Nat} {L M M' : List (List Int)} (h : Two w B p q v u n L M) (k : Went 36 w B q u n w' u' M') (hB : B ≤ w.heap.size) : Below B w w' := k.low h.qs hB
end Cn
end Go.Proofs.Ytlpahomaokopoaa

/-
The reference's reader: an atom.
-/
import Derived.Test.YtapmpdljapbpeaaGreatDoorRelYDef
import Derived.StillTailTactics
import Derived.Deep.QuietTactic
import Derived.BigQuiet
import Derived.Test.YtapmpdljapbpeaaGreatDoorReg
namespace Go.Proofs.YtapmpdljapbpeaaGreatDoor
open Go.RowKit
set_option linter.unusedSimpArgs false
set_option linter.unusedVariables false
namespace Reg
theorem From.done {P : Program} {Q : Exit → Act → World → Prop} {a : Act} {w : World} {l : List Oper} {n : Nat} (hn : decide (l.length ≤ n ∧ Region.ready .any l.toArray (upTo l.length n) = []) = true) (h : Q .normal a w) : From P l Q n a w := by
  obtain ⟨hn, hr⟩ := of_decide_eq_true hn
  unfold From
  rw [show l.length - n = 0 by omega]
  exact ⟨hr, h⟩
end Reg
namespace Rl
open Ver (Bs li li_len li_drop S S_self S_of S_size S_li below_drewN empty_is empty_no MaxLen Signs)
end Rl
end Go.Proofs.YtapmpdljapbpeaaGreatDoor

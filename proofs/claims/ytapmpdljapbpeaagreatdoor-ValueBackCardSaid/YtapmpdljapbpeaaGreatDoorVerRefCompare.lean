/-
The reference's Compare, Is, SameVersion, Holds.
-/
import Derived.Test.YtapmpdljapbpeaaGreatDoorVerRefVersion
import Derived.Test.YtapmpdljapbpeaaGreatDoorVerRefK
import Derived.Test.YtapmpdljapbpeaaGreatDoorVerSignsK
import Derived.LoopN
namespace Go.Proofs.YtapmpdljapbpeaaGreatDoor
open Go.RowKit
set_option linter.unusedSimpArgs false
set_option linter.unusedVariables false
namespace Ver
theorem yis_any (s : ByteArray) (w : World) (hs : s.size ≤ 4611686018427387904) :
    Calls Tryz.prog 71 #[.string s] w fun e w' => e = .returned (.bool (parse (li s)).isSome) ∧ Below w.heap.size w w' := by
  have c := yversion_any s w hs
  cases hp : parse (li s) with
  | none =>
    rw [hp] at c
    unfold ytold at c
    clear hp
    go_enter Tryz.func71, Tryz.ntmps71
    go_wp2_with fail
    refine c.mono ?_
    rintro e w1 ⟨rfl, k1⟩
    go_wp2_with fail
    go_ret
    exact ⟨rfl, k1⟩
  | some p =>
    rw [hp] at c
    unfold ytold at c
    clear hp
    simp only at c
    generalize S p.1 = x at *
    generalize S p.2.1 = y at *
    generalize S p.2.2 = z at *
    go_enter Tryz.func71, Tryz.ntmps71
    go_wp2_with fail
    refine c.mono ?_
    rintro e w1 ⟨rfl, k1⟩
    go_wp2_with fail
    go_ret
    exact ⟨rfl, k1⟩
end Ver
end Go.Proofs.YtapmpdljapbpeaaGreatDoor

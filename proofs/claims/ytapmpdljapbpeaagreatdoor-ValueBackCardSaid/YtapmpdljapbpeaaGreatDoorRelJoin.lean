/-
Clauses that lie somewhere, appended onto a row of the call's own. Not too many: light.
-/
import Derived.Test.YtapmpdljapbpeaaGreatDoorRelLists
import Derived.Test.YtapmpdljapbpeaaGreatDoorRelOwn
import Derived.Deep.AppendSrc
namespace Go.Proofs.YtapmpdljapbpeaaGreatDoor
open Go.RowKit
set_option linter.unusedSimpArgs false
set_option linter.unusedVariables false
namespace Rl
open Ver (Bs li li_len li_drop S S_self S_of S_size S_li below_drewN empty_is empty_no MaxLen Signs)
/-- The cells of clauses. -/
def ClCs (w : World) (l : List (List At)) (xs : List Value) : Prop := xs.length = l.length ∧ ∀ i, i < l.length → ∃ u, xs[i]? = some u ∧ Ats w u (l.getD i [])
theorem ClCs.nil (w : World) : ClCs w [] [] := ⟨rfl, fun i hi => absurd hi (by simp)⟩
theorem ClCs.below {w w' : World} {l : List (List At)} {xs : List Value} (h : ClCs w l xs) (hb : Below w.heap.size w w') : ClCs w' l xs := ⟨h.1, fun i hi => by
  obtain ⟨u, h2, h3⟩ := h.2 i hi
  exact ⟨u, h2, h3.below hb⟩⟩
end Rl
end Go.Proofs.YtapmpdljapbpeaaGreatDoor
namespace Go.Proofs.YtapmpdljapbpeaaGreatDoor
open Go.RowKit
set_option linter.unusedSimpArgs false
set_option linter.unusedVariables false
namespace Rl
open Ver (Bs li li_len li_drop S S_self S_of S_size S_li below_drewN empty_is empty_no MaxLen Signs)
def lightB (l : List (List At)) : Bool := decide (l.length ≤ 30) && l.all fun c => decide (c.length ≤ 30)
theorem light_many {l : List (List At)} (h : 30 < l.length) : lightB l = false := by
  unfold lightB
  rw [decide_eq_false (by omega)]
  rfl
theorem light_at {l : List (List At)} {i : Nat} (hi : i < l.length) (h : 30 < (l.getD i []).length) : lightB l = false := by
  unfold lightB
  rw [Bool.and_eq_false_iff]
  right
  rw [List.all_eq_false]
  exact ⟨l[i], List.getElem_mem hi, by rw [show l[i] = l.getD i [] by simp [List.getD, List.getElem?_eq_getElem hi]]; simp only [decide_eq_true_eq]; omega⟩
theorem light_yes {l : List (List At)} (hl : l.length ≤ 30) (h : ∀ i, i < l.length → (l.getD i []).length ≤ 30) : lightB l = true := by
  unfold lightB
  rw [decide_eq_true hl, Bool.true_and, List.all_eq_true]
  intro s hs
  obtain ⟨i, hi, rfl⟩ := List.mem_iff_getElem.1 hs
  have := h i hi
  simpa [List.getD, List.getElem?_eq_getElem hi] using this
end Rl
end Go.Proofs.YtapmpdljapbpeaaGreatDoor

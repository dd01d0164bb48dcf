/-
The contract of the reference's Words.
-/
import Derived.Test.YtgolnfgkoolpoaaDoorWordsK
namespace Go.Proofs.YtgolnfgkoolpoaaDoor
open Go.RowKit
set_option linter.unusedVariables false
set_option linter.unusedSimpArgs false
namespace Txt
theorem go_word {x l : List UInt8} (h : Black x) (hx : x ≠ []) (hl : l = [] ∨ ∃ c r, l = c :: r ∧ W c = true) : go [] (x ++ l) = x :: go [] l := by
  rw [go_plain h, List.nil_append]
  rcases hl with rfl | ⟨c, r, rfl, hc⟩
  · rw [go_nil]; unfold close; rw [if_neg hx]; rfl
  · rw [go_white hc, go_white hc]; unfold close; rw [if_neg hx]; rfl
theorem new_cell (w : World) (v : Value) (t : TypeId) : (w.alloc (.cells #[v] t)).cell? ((⟨w.heap.size, 0, none⟩ : Addr).add 0) = some v := by simp [Addr.add]
end Txt
end Go.Proofs.YtgolnfgkoolpoaaDoor

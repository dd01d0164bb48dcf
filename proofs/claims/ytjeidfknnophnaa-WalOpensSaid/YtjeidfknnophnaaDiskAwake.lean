/-
The statements' own helpers on the program's disk alone: awake.
-/
import Derived.Test.YtjeidfknnophnaaDiskNewCopy
namespace Go.Proofs.Ytjeidfknnophnaa
open Go.RowKit
set_option linter.unusedVariables false
namespace Disk

theorem At.notBytes {w d s b cs} (h : At w d s) (k : Blk.Is w b 5 cs) : ¬ d.Has b := by
  obtain ⟨c1, h1, _⟩ := h.now.lies
  obtain ⟨c2, h2, _⟩ := h.sure.lies
  rintro (rfl | rfl | rfl)
  · exact h.obj.ne k (by decide) rfl
  · exact h1.ne k (by decide) rfl
  · exact h2.ne k (by decide) rfl
/-- Bytes ff, and 63 times 0. -/
def ff : List Int := 255 :: List.replicate 63 0
theorem ff_sec : Sec ff := ⟨by simp [ff], fun z hz => by
  rcases List.mem_cons.1 hz with rfl | h
  · omega
  · have := List.eq_of_mem_replicate h; omega⟩
/-- The disk behind awake's calls. -/
def aw : St := ((fresh 1).write 0 ff).crashed [15]
theorem aw_err : (fresh 1).writeErr 0 64 = 0 := by decide
theorem aw_read : (aw.read 0).2 = 0 ∧ (aw.read 0).1.length = 64 ∧ (aw.read 0).1.getD 0 0 = 15 := by decide +kernel

end Disk
end Go.Proofs.Ytjeidfknnophnaa

/-
What is no good text, and where it begins: text.Good and its reference's Good by one function of the bytes.
-/
import Derived.Test.YtddfjndclgapcaaDoorTextSmall
import Derived.Deep.LoopGhost
import Derived.Lib.OthersKept
namespace Go.Proofs.YtddfjndclgapcaaDoor
open Go.RowKit
set_option linter.unusedSimpArgs false
set_option linter.unusedVariables false
namespace Txt
/-- The place of the first byte at which s is no good text, from i on. -/
def goodN (s : ByteArray) : Nat → Nat → Int
  | 0, _ => -1
  | f + 1, i => if i < s.size then (if sz s i = 0 ∨ ctl (b s i) = true then (i : Int) else goodN s f (i + sz s i)) else -1
def good (s : ByteArray) : Int := goodN s s.size 0
theorem sz_le (s : ByteArray) (i : Nat) (h : i < s.size) : i + sz s i ≤ s.size := by
  by_cases hb : b s i < 128
  · have : sz s i = 1 := by unfold sz; rw [if_pos hb]
    omega
  · rcases dec_high s i h (by omega) with ⟨h0, _⟩ | ⟨_, h1, _⟩ <;> omega
theorem sz_one (s : ByteArray) (i : Nat) (hb : b s i < 128) : sz s i = 1 := by unfold sz; rw [if_pos hb]
theorem lt_cell {w : World} {p : Addr} {v : Value} (h : w.cell? p = some v) : p.block < w.heap.size := by
  by_cases hc : p.block < w.heap.size
  · exact hc
  · exfalso
    unfold World.cell? at h
    rw [Array.getElem?_eq_none (by omega)] at h
    cases h
end Txt
end Go.Proofs.YtddfjndclgapcaaDoor

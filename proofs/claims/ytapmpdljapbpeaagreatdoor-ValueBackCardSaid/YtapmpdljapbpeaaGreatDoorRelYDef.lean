/-
The reference's reader: peek, word. The reference's reader and an atom that is being read.
-/
import Derived.Test.YtapmpdljapbpeaaGreatDoorRelParse
import Derived.Test.YtapmpdljapbpeaaGreatDoorVerParse2
import Derived.Test.YtapmpdljapbpeaaGreatDoorRelAtom
namespace Go.Proofs.YtapmpdljapbpeaaGreatDoor
open Go.RowKit
set_option linter.unusedSimpArgs false
set_option linter.unusedVariables false
namespace Rl
open Ver (Bs li li_len li_drop S S_self S_of S_size S_li below_drewN empty_is empty_no MaxLen Signs)
/-- The reference's reader, at block p. -/
def Yx (w : World) (p : Nat) (l : Bs) (bad : Bool) : Prop := Blk.Is w p 115 #[.string (S l), .bool bad] ∧ l.length ≤ 4611686018427387904
theorem Yx.chg {w w' : World} {p : Nat} {l : Bs} {bad : Bool} {Q : Nat → Prop} (h : Yx w p l bad) (hc : Blk.Chg Q w w') (hn : ¬ Q p) : Yx w' p l bad := ⟨hc.is h.1 hn, h.2⟩
theorem Yx.below {w w' : World} {p : Nat} {l : Bs} {bad : Bool} (h : Yx w p l bad) (hb : Below w.heap.size w w') : Yx w' p l bad := h.chg (Q := fun _ => False) (Blk.Chg.ofBelow' hb) (by simp)
theorem Yx.set {w : World} {p : Nat} {l : Bs} {bad : Bool} (h : Yx w p l bad) (m : Bs) (hm : m.length ≤ 4611686018427387904) : Yx (w.setCell ⟨p, 0, none⟩ (.string (S m))) p m bad := ⟨by have := h.1.set 0 (.string (S m)); simpa using this, hm⟩
theorem Yx.cells {w : World} {p : Nat} {l : Bs} {bad : Bool} (h : Yx w p l bad) : w.cell? ⟨p, 0, none⟩ = some (.string (S l)) ∧ w.cell? ⟨p, 1, none⟩ = some (.bool bad) ∧ w.frozen? ⟨p, 0, none⟩ = false ∧ w.frozen? ⟨p, 1, none⟩ = false := ⟨h.1.at rfl, h.1.at rfl, h.1.free _, h.1.free _⟩
end Rl
end Go.Proofs.YtapmpdljapbpeaaGreatDoor
namespace Go.Proofs.YtapmpdljapbpeaaGreatDoor
open Go.RowKit
set_option linter.unusedSimpArgs false
set_option linter.unusedVariables false
namespace Rl
open Ver (Bs li li_len li_drop S S_self S_of S_size S_li below_drewN empty_is empty_no MaxLen Signs)
/-- The reference's reader, an atom that is being read, and the place of the result, in blocks that were made behind w. -/
structure Sy (w u : World) (p b : Nat) (l : Bs) (bad : Bool) (x y z : Value) : Prop where
  np : p < w.heap.size
  nb : w.heap.size < b
  rd : Yx u p l bad
  at' : Blk.Is u b 82 #[x, y, z]
  res : Blk.Is u w.heap.size 82 #[.string ⟨#[]⟩, .int .i64 0, .string ⟨#[]⟩]
  chg : Blk.Chg (fun k => k = p) w u
theorem Sy.cells {w u : World} {p b : Nat} {l : Bs} {bad : Bool} {x y z : Value} (h : Sy w u p b l bad x y z) : u.cell? ⟨b, 0, none⟩ = some x ∧ u.cell? ⟨b, 1, none⟩ = some y ∧ u.cell? ⟨b, 2, none⟩ = some z ∧ u.frozen? ⟨b, 0, none⟩ = false ∧ u.frozen? ⟨b, 1, none⟩ = false ∧ u.frozen? ⟨b, 2, none⟩ = false :=
  ⟨h.at'.at rfl, h.at'.at rfl, h.at'.at rfl, h.at'.free _, h.at'.free _, h.at'.free _⟩
theorem Sy.call {w u u' : World} {p b : Nat} {l l' : Bs} {bad bad' : Bool} {x y z : Value} (h : Sy w u p b l bad x y z) (hr : Yx u' p l' bad') (hc : Blk.Chg (fun k => k = p) u u') : Sy w u' p b l' bad' x y z := by
  have h1 := h.np
  have h2 := h.nb
  exact ⟨h1, h2, hr, hc.is h.at' (by omega), hc.is h.res (by omega), h.chg.trans hc⟩
theorem Sy.below {w u u' : World} {p b : Nat} {l : Bs} {bad : Bool} {x y z : Value} (h : Sy w u p b l bad x y z) (hb : Below u.heap.size u u') : Sy w u' p b l bad x y z :=
  ⟨h.np, h.nb, h.rd.below hb, is_on h.at' hb, is_on h.res hb, h.chg.trans (Blk.Chg.ofBelow' hb)⟩
end Rl
end Go.Proofs.YtapmpdljapbpeaaGreatDoor

/-
awake: what every program must know.
-/
import Derived.Test.YtapmpdljapbpeaaDoorValYes
import Derived.Test.YtapmpdljapbpeaaDoorValTry
namespace Go.Proofs.YtapmpdljapbpeaaDoor
open Go.RowKit
set_option linter.unusedSimpArgs false
set_option linter.unusedVariables false
namespace Va
/-- Try of a function that panics with a new Wrong. -/
theorem try_wr (K : FuncId) (cap : Array Value) (he : ∀ (args : Array Value) (w : World), (callFunc K args).run Tryd.prog w = .ok (.enter K args) w) (w : World) (x y : ByteArray)
    (c : ∀ W, Below w.heap.size w W → Calls Tryd.prog K cap W fun e w' => Wr W x y e w') :
    Calls Tryd.prog 4 #[.func (.func K) #[] cap] w fun e w' => ∃ b, e = .returned (.pointer (some ⟨b, 0, none⟩)) ∧ Blk.Is w' b 30 #[.string x, .string y] ∧ w.heap.size ≤ b ∧ Below w.heap.size w w' := by
  have hb0 := Blk.Is.new w 22 #[.pointer none]
  have hB0 : Below w.heap.size w (w.alloc (.cells #[.pointer none] 22)) := (Below.refl _ _).alloc (Nat.le_refl _) _
  have hs0 : (w.alloc (.cells #[.pointer none] 22)).heap.size = w.heap.size + 1 := by simp
  refine (try_wrong K cap he w (fun q W' => ∃ b, q = ⟨b, 0, none⟩ ∧ Blk.Is W' b 30 #[.string x, .string y] ∧ w.heap.size + 1 ≤ b ∧ Below w.heap.size w W') ((c _ hB0).mono ?_)).mono ?_
  · rintro e w' ⟨b, rfl, h1, h2, h3⟩
    rw [hs0] at h2
    exact ⟨_, rfl, (h3.block _ hb0.lt).trans hb0, b, rfl, h1, h2, hB0.trans (h3.mono (by omega))⟩
  · rintro e w' ⟨q, W', rfl, ⟨b, rfl, h1, h2, h3⟩, rfl⟩
    exact ⟨b, rfl, h1.setOther _ (by simp; omega), by omega, h3.setCell (Nat.le_refl _) _⟩
set_option maxRecDepth 100000 in
theorem awakeF_any (w : World) : Calls Tryd.prog 14 #[] w fun e w' => Wr w ⟨#[99, 111, 117, 110, 116]⟩ ⟨#[116, 101, 120, 116]⟩ e w' := by
  have c1 := fun w => ofText_any (.string ⟨#[97]⟩) w
  have c2 := fun w => mustCount_no (.iface 9 (.string ⟨#[97]⟩)) (.inr ⟨_, _, rfl, by simp⟩) rfl w
  rw [show kindI (.iface 9 (.string ⟨#[97]⟩)) = ⟨#[116, 101, 120, 116]⟩ from rfl] at c2
  go_enter Tryd.func14, Tryd.ntmps14
  go_wp2_with fail
  refine (c1 _).mono ?_
  rintro e w1 ⟨rfl, k1⟩
  go_wp2_with fail
  refine (c2 _).mono ?_
  rintro e w2 hw
  have k := hw.on k1
  obtain ⟨b, rfl, _⟩ := hw
  unfold wrongAt at k ⊢
  clear k1 c1 c2
  go_wp2_with fail
  exact ⟨rfl, k⟩
theorem essential : isP0 ⟨#[69, 115, 115, 101, 110, 116, 105, 97, 108]⟩ = false ∧ isP1 ⟨#[69, 115, 115, 101, 110, 116, 105, 97, 108]⟩ = false ∧ isP2 ⟨#[69, 115, 115, 101, 110, 116, 105, 97, 108]⟩ = false ∧ isP3 ⟨#[69, 115, 115, 101, 110, 116, 105, 97, 108]⟩ = false ∧ isP4 ⟨#[69, 115, 115, 101, 110, 116, 105, 97, 108]⟩ = false ∧ isP5 ⟨#[69, 115, 115, 101, 110, 116, 105, 97, 108]⟩ = true := by decide +kernel
set_option maxRecDepth 100000 in
theorem awake_any (w : World) : Calls Tryd.prog 8 #[] w fun e w' => e = .returned (.bool true) ∧ Below w.heap.size w w' := by
  obtain ⟨h0, h1, h2, h3, h4, h5⟩ := essential
  have cr := read_k5 ⟨#[69, 115, 115, 101, 110, 116, 105, 97, 108]⟩ ⟨#[121, 101, 115]⟩ h0 h1 h2 h3 h4 h5 w (fun _ _ v er => v = .iface 4 (.bool true) ∧ er = 0) ⟨fun _ _ _ _ _ h _ => h, fun _ _ _ _ _ _ h => h⟩ (fun w' _ => (readYes_yes w').mono fun e w'' ⟨h1, h2⟩ => ⟨_, _, h1, .inr ⟨_, _, rfl⟩, h2, rfl, rfl⟩)
  have cy := fun w => yes_any (.iface 4 (.bool true)) (.inr ⟨_, _, rfl⟩) w
  simp only [asT, asB, if_true, decide_true] at cy
  have he : ∀ (args : Array Value) (w : World), (callFunc 14 args).run Tryd.prog w = .ok (.enter 14 args) w := Tryd.call14
  have ct := fun w => try_wr 14 #[] he w _ _ fun W _ => awakeF_any W
  clear h0 h1 h2 h3 h4 h5
  go_enter Tryd.func8, Tryd.ntmps8
  go_wp2_with fail
  refine cr.mono ?_
  rintro e w1 ⟨v, er, rfl, _, k1, rfl, rfl⟩
  clear cr
  go_wp2_with fail
  have k2 : Below w.heap.size w (w1.alloc (.cells #[.iface 4 (.bool true)] 33)) := k1.alloc k1.size _
  refine (cy _).mono ?_
  rintro e w2 ⟨rfl, k3⟩
  have k4 := k2.trans (k3.mono k2.size)
  clear k1 k2 k3 cy
  go_wp2_with fail
  refine (ct _).mono ?_
  rintro e w3 ⟨b, rfl, hi, _, k5⟩
  have k6 := k4.trans (k5.mono k4.size)
  have c1 := hi.at (i := 0) rfl
  have c2 := hi.at (i := 1) rfl
  clear k4 k5 ct hi he
  go_wp2_with fail
  go_ret
  exact ⟨rfl, k6⟩
end Va
end Go.Proofs.YtapmpdljapbpeaaDoor

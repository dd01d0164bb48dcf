/-
What must be of a kind: what is within, or that panic; values of a text, a count, a yes.
-/
import Derived.Test.YtapmpdljapbpeaaDoorValOps
import Derived.Lib.Strings
namespace Go.Proofs.YtapmpdljapbpeaaDoor
open Go.RowKit
set_option linter.unusedSimpArgs false
set_option linter.unusedVariables false
namespace Va
/-- That a call panics with a new Wrong. -/
def Wr (w : World) (x y : ByteArray) (e : Ending) (w' : World) : Prop := ∃ b, e = wrongAt ⟨b, 0, none⟩ ∧ Blk.Is w' b 30 #[.string x, .string y] ∧ w.heap.size ≤ b ∧ Below w.heap.size w w'
theorem Wr.on {w w1 w' : World} {x y : ByteArray} {e : Ending} (h : Wr w1 x y e w') (hb : Below w.heap.size w w1) : Wr w x y e w' := by
  obtain ⟨b, h1, h2, h3, h4⟩ := h
  exact ⟨b, h1, h2, Nat.le_trans hb.size h3, hb.trans (h4.mono hb.size)⟩
theorem wr_at {w : World} {x y : ByteArray} {w' : World} {b : Nat} (h2 : Blk.Is w' b 30 #[.string x, .string y]) (h3 : w.heap.size ≤ b) (h4 : Below w.heap.size w w') : Wr w x y (wrongAt ⟨b, 0, none⟩) w' := ⟨b, rfl, h2, h3, h4⟩
theorem not_text {iv : Value} (h : IvOK iv) (hb : asB 9 iv = false) : ((kindI iv).toList == (ByteArray.mk #[116, 101, 120, 116]).toList) = false := by
  rcases h with rfl | ⟨t, x, rfl, rfl | rfl | rfl | rfl | rfl | rfl⟩
  all_goals first
    | (simp [asB] at hb; done)
    | (simp [kindI, kindT, Lib.toList_data]; done)
set_option maxRecDepth 100000 in
theorem ofText_any (x : Value) (w : World) : Calls Tryd.prog 16 #[x] w fun e w' => e = .returned (.agg #[.iface 9 x]) ∧ Below w.heap.size w w' := by
  go_enter Tryd.func16, Tryd.ntmps16
  go_wp2_with fail
  go_returns
  exact ⟨rfl, (Below.refl _ _).alloc (Nat.le_refl _) _⟩
theorem not_count {iv : Value} (h : IvOK iv) (hb : asB 3 iv = false) : ((kindI iv).toList == (ByteArray.mk #[99, 111, 117, 110, 116]).toList) = false := by
  rcases h with rfl | ⟨t, x, rfl, rfl | rfl | rfl | rfl | rfl | rfl⟩
  all_goals first
    | (simp [asB] at hb; done)
    | (simp [kindI, kindT, Lib.toList_data]; done)
set_option maxRecDepth 100000 in
theorem mustCountM_yes (x : Value) (w : World) :
    Calls Tryd.prog 26 #[.agg #[.iface 3 x]] w fun e w' => e = .returned x ∧ Below w.heap.size w w' := by
  have hb0 := Blk.Is.new w 33 #[.iface 3 x]
  have hB0 : Below w.heap.size w (w.alloc (.cells #[.iface 3 x] 33)) := (Below.refl _ _).alloc (Nat.le_refl _) _
  have c := demand_yes (.iface 3 x) (.inr ⟨_, _, rfl, by simp⟩) ⟨#[99, 111, 117, 110, 116]⟩ (by simp [kindI, kindT, Lib.toList_data]) (w.alloc (.cells #[.iface 3 x] 33))
  have hs := fun w => run_sure (w := w) Tryd.underlying3 (fun _ e => by cases e) x 20
  go_enter Tryd.func26, Tryd.ntmps26
  go_wp2_with fail
  refine c.mono ?_
  rintro e w' ⟨rfl, kb⟩
  have k := hB0.trans (kb.mono hB0.size)
  have hc : w'.cell? ⟨w.heap.size, 0, none⟩ = some (.iface 3 x) := by
    rw [kb.cell (lt_cell (hb0.at (i := 0) rfl))]; exact hb0.at (i := 0) rfl
  clear kb hB0 hb0 c
  go_wp2_with fail
  go_ret
  exact ⟨rfl, k⟩
set_option maxRecDepth 100000 in
theorem mustCountM_no (iv : Value) (h : IvOK iv) (hb : asB 3 iv = false) (w : World) :
    Calls Tryd.prog 26 #[.agg #[iv]] w fun e w' => Wr w ⟨#[99, 111, 117, 110, 116]⟩ (kindI iv) e w' := by
  have hb0 := (Blk.Is.new w 33 #[iv]).at (i := 0) rfl
  have hB0 : Below w.heap.size w (w.alloc (.cells #[iv] 33)) := (Below.refl _ _).alloc (Nat.le_refl _) _
  have c := demand_no iv h ⟨#[99, 111, 117, 110, 116]⟩ (not_count h hb) (w.alloc (.cells #[iv] 33))
  generalize kindI iv = A at *
  clear h hb
  go_enter Tryd.func26, Tryd.ntmps26
  go_wp2_with fail
  refine c.mono ?_
  rintro e w' ⟨b, rfl, hi, hl, kb⟩
  have k := wr_at hi (Nat.le_trans hB0.size hl) (hB0.trans (kb.mono hB0.size))
  unfold wrongAt at k ⊢
  clear kb hB0 hb0 c hi hl
  go_wp2_with fail
  exact ⟨rfl, k⟩
set_option maxRecDepth 100000 in
theorem mustCount_yes (x : Value) (w : World) :
    Calls Tryd.prog 15 #[.agg #[.iface 3 x]] w fun e w' => e = .returned x ∧ Below w.heap.size w w' := by
  have hb0 := (Blk.Is.new w 33 #[.iface 3 x]).at (i := 0) rfl
  have hB0 : Below w.heap.size w (w.alloc (.cells #[.iface 3 x] 33)) := (Below.refl _ _).alloc (Nat.le_refl _) _
  have c := mustCountM_yes x (w.alloc (.cells #[.iface 3 x] 33))
  go_enter Tryd.func15, Tryd.ntmps15
  go_wp2_with fail
  refine c.mono ?_
  rintro e w' ⟨rfl, kb⟩
  have k := hB0.trans (kb.mono hB0.size)
  clear kb hB0 hb0 c
  go_wp2_with fail
  go_ret
  exact ⟨rfl, k⟩
set_option maxRecDepth 100000 in
theorem mustCount_no (iv : Value) (h : IvOK iv) (hb : asB 3 iv = false) (w : World) :
    Calls Tryd.prog 15 #[.agg #[iv]] w fun e w' => Wr w ⟨#[99, 111, 117, 110, 116]⟩ (kindI iv) e w' := by
  have hb0 := (Blk.Is.new w 33 #[iv]).at (i := 0) rfl
  have hB0 : Below w.heap.size w (w.alloc (.cells #[iv] 33)) := (Below.refl _ _).alloc (Nat.le_refl _) _
  have c := mustCountM_no iv h hb (w.alloc (.cells #[iv] 33))
  generalize kindI iv = A at *
  clear h hb
  go_enter Tryd.func15, Tryd.ntmps15
  go_wp2_with fail
  refine c.mono ?_
  rintro e w' hw
  have k := hw.on hB0
  obtain ⟨b, rfl, _⟩ := hw
  unfold wrongAt at k ⊢
  clear hB0 hb0 c
  go_wp2_with fail
  exact ⟨rfl, k⟩
set_option maxRecDepth 100000 in
theorem ofCount_any (x : Value) (w : World) : Calls Tryd.prog 41 #[x] w fun e w' => e = .returned (.agg #[.iface 3 x]) ∧ Below w.heap.size w w' := by
  go_enter Tryd.func41, Tryd.ntmps41
  go_wp2_with fail
  go_returns
  exact ⟨rfl, (Below.refl _ _).alloc (Nat.le_refl _) _⟩
theorem not_yes {iv : Value} (h : IvOK iv) (hb : asB 4 iv = false) : ((kindI iv).toList == (ByteArray.mk #[121, 101, 115]).toList) = false := by
  rcases h with rfl | ⟨t, x, rfl, rfl | rfl | rfl | rfl | rfl | rfl⟩
  all_goals first
    | (simp [asB] at hb; done)
    | (simp [kindI, kindT, Lib.toList_data]; done)
set_option maxRecDepth 100000 in
theorem ofYes_any (x : Value) (w : World) : Calls Tryd.prog 39 #[x] w fun e w' => e = .returned (.agg #[.iface 4 x]) ∧ Below w.heap.size w w' := by
  go_enter Tryd.func39, Tryd.ntmps39
  go_wp2_with fail
  go_returns
  exact ⟨rfl, (Below.refl _ _).alloc (Nat.le_refl _) _⟩
end Va
end Go.Proofs.YtapmpdljapbpeaaDoor

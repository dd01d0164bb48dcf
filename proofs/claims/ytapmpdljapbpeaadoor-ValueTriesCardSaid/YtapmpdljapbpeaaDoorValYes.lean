/-
readYes; Read, by the kind of the field: what it tells is what the kind's own reader tells.
-/
import Derived.Test.YtapmpdljapbpeaaDoorValMust
namespace Go.Proofs.YtapmpdljapbpeaaDoor
open Go.RowKit
set_option linter.unusedSimpArgs false
set_option linter.unusedVariables false
namespace Va
open Stz (sameS)
theorem str_eq (s t : ByteArray) : (s.toList == t.toList) = decide (s = t) := by
  rw [Lib.toList_data, Lib.toList_data, Bool.eq_iff_iff, beq_iff_eq, decide_eq_true_eq]
  constructor
  · intro h; exact ByteArray.ext (Array.ext' h)
  · rintro rfl; rfl
theorem str_no {s t : ByteArray} (h : s ≠ t) : (s.toList == t.toList) = false := by rw [str_eq, decide_eq_false h]
def yesT : ByteArray := ⟨#[121, 101, 115]⟩
def noT : ByteArray := ⟨#[110, 111]⟩
set_option maxRecDepth 100000 in
theorem readYes_yes (w : World) : Calls Tryd.prog 23 #[.string yesT] w fun e w' => e = .returned (.tuple #[.agg #[.iface 4 (.bool true)], .int .i64 0]) ∧ Below w.heap.size w w' := by
  unfold yesT
  have hb0 := Blk.Is.new w 33 #[.nilIface]
  have hB0 : Below w.heap.size w (w.alloc (.cells #[.nilIface] 33)) := (Below.refl _ _).alloc (Nat.le_refl _) _
  have c := ofYes_any (.bool true) (w.alloc (.cells #[.nilIface] 33))
  go_enter Tryd.func23, Tryd.ntmps23
  go_wp2_with fail
  refine c.mono ?_
  rintro e w' ⟨rfl, kb⟩
  have hi : Blk.Is w' w.heap.size 33 #[.nilIface] := (kb.block _ hb0.lt).trans hb0
  have hc := hi.at (i := 0) rfl
  have hf := hi.free 0
  have h3 := (hi.set 0 (.iface 4 (.bool true))).at (i := 0) (v := .iface 4 (.bool true)) rfl
  have k : Below w.heap.size w (w'.setCell ⟨w.heap.size, 0, none⟩ (.iface 4 (.bool true))) := (hB0.trans (kb.mono hB0.size)).setCell (Nat.le_refl _) _
  clear kb hB0 hb0 c hi
  go_wp2_with fail
  refine bodyPost_ret (v := .tuple #[.agg #[.iface 4 (.bool true)], .int .i64 0]) (by simp [results, Tryd.results23, go_sem, h3]) rfl ⟨rfl, k⟩
set_option maxRecDepth 100000 in
theorem readYes_no (w : World) : Calls Tryd.prog 23 #[.string noT] w fun e w' => e = .returned (.tuple #[.agg #[.iface 4 (.bool false)], .int .i64 0]) ∧ Below w.heap.size w w' := by
  unfold noT
  have hb0 := Blk.Is.new w 33 #[.nilIface]
  have hB0 : Below w.heap.size w (w.alloc (.cells #[.nilIface] 33)) := (Below.refl _ _).alloc (Nat.le_refl _) _
  have c := ofYes_any (.bool false) (w.alloc (.cells #[.nilIface] 33))
  go_enter Tryd.func23, Tryd.ntmps23
  go_wp2_with fail
  refine c.mono ?_
  rintro e w' ⟨rfl, kb⟩
  have hi : Blk.Is w' w.heap.size 33 #[.nilIface] := (kb.block _ hb0.lt).trans hb0
  have hc := hi.at (i := 0) rfl
  have hf := hi.free 0
  have h3 := (hi.set 0 (.iface 4 (.bool false))).at (i := 0) (v := .iface 4 (.bool false)) rfl
  have k : Below w.heap.size w (w'.setCell ⟨w.heap.size, 0, none⟩ (.iface 4 (.bool false))) := (hB0.trans (kb.mono hB0.size)).setCell (Nat.le_refl _) _
  clear kb hB0 hb0 c hi
  go_wp2_with fail
  refine bodyPost_ret (v := .tuple #[.agg #[.iface 4 (.bool false)], .int .i64 0]) (by simp [results, Tryd.results23, go_sem, h3]) rfl ⟨rfl, k⟩
set_option maxRecDepth 100000 in
theorem readYes_else (s : ByteArray) (h1 : s ≠ yesT) (h2 : s ≠ noT) (w : World) : Calls Tryd.prog 23 #[.string s] w fun e w' => e = .returned (.tuple #[.agg #[.nilIface], .int .i64 3]) ∧ Below w.heap.size w w' := by
  have e1 : (s.toList == [121, 101, 115]) = false := beq_eq_false_iff_ne.2 fun h => h1 (ByteArray.ext (Array.ext' (by rw [← Lib.toList_data, h]; rfl)))
  have e2 : (s.toList == [110, 111]) = false := beq_eq_false_iff_ne.2 fun h => h2 (ByteArray.ext (Array.ext' (by rw [← Lib.toList_data, h]; rfl)))
  clear h1 h2
  have hb0 := Blk.Is.new w 33 #[.nilIface]
  have h3 := hb0.at (i := 0) (v := .nilIface) rfl
  have k : Below w.heap.size w (w.alloc (.cells #[.nilIface] 33)) := (Below.refl _ _).alloc (Nat.le_refl _) _
  go_enter Tryd.func23, Tryd.ntmps23
  go_wp2_with fail
  refine bodyPost_ret (v := .tuple #[.agg #[.nilIface], .int .i64 3]) (by simp [results, Tryd.results23, go_sem, h3]) rfl ⟨rfl, k⟩
theorem row_cells (w : World) (T : TypeId) (fs : List ByteArray) : ∀ j, j < fs.length → (w.alloc (.cells (fs.map Value.string).toArray T)).cell? ⟨w.heap.size, 0 + j, none⟩ = some (.string (fs.getD j ByteArray.empty)) := fun j hj => by
  rw [Nat.zero_add]
  refine (Blk.Is.new w T (fs.map Value.string).toArray).at ?_
  simp [List.getD, List.getElem?_eq_getElem hj]
theorem isAny_new (fs : List ByteArray) (name : ByteArray) (w : World) (hL : fs.length ≤ 1000) (hs : ∀ f ∈ fs, f.size ≤ 1000) :
    Calls Tryd.prog 17 #[.string name, .slice (some ⟨w.heap.size, 0, none⟩) fs.length fs.length] (w.alloc (.cells (fs.map Value.string).toArray 9)) fun e w' => e = .returned (.bool (fs.any (sameS · name))) ∧ Below w.heap.size w w' := by
  refine (isAny_any fs name w.heap.size 0 fs.length _ (row_cells w _ fs) hL (Nat.le_refl _) hs).mono ?_
  rintro e w' ⟨rfl, k⟩
  have hB : Below w.heap.size w (w.alloc (.cells (fs.map Value.string).toArray 9)) := (Below.refl _ _).alloc (Nat.le_refl _) _
  exact ⟨rfl, hB.trans (k.mono hB.size)⟩
def fs0 : List ByteArray := [(⟨#[80, 97, 99, 107, 97, 103, 101]⟩ : ByteArray)]
def isP0 (name : ByteArray) : Bool := fs0.any (sameS · name)
theorem isAny0 (name : ByteArray) (w : World) : Calls Tryd.prog 17 #[.string name, .slice (some ⟨w.heap.size, 0, none⟩) 1 1] (w.alloc (.cells #[.string ⟨#[80, 97, 99, 107, 97, 103, 101]⟩] 9)) fun e w' => e = .returned (.bool (isP0 name)) ∧ Below w.heap.size w w' :=
  isAny_new fs0 name w (by decide) (by decide)
def fs1 : List ByteArray := [(⟨#[86, 101, 114, 115, 105, 111, 110]⟩ : ByteArray)]
def isP1 (name : ByteArray) : Bool := fs1.any (sameS · name)
theorem isAny1 (name : ByteArray) (w : World) : Calls Tryd.prog 17 #[.string name, .slice (some ⟨w.heap.size, 0, none⟩) 1 1] (w.alloc (.cells #[.string ⟨#[86, 101, 114, 115, 105, 111, 110]⟩] 9)) fun e w' => e = .returned (.bool (isP1 name)) ∧ Below w.heap.size w w' :=
  isAny_new fs1 name w (by decide) (by decide)
def fs2 : List ByteArray := [(⟨#[80, 114, 101, 45, 68, 101, 112, 101, 110, 100, 115]⟩ : ByteArray), (⟨#[68, 101, 112, 101, 110, 100, 115]⟩ : ByteArray), (⟨#[82, 101, 99, 111, 109, 109, 101, 110, 100, 115]⟩ : ByteArray)]
def isP2 (name : ByteArray) : Bool := fs2.any (sameS · name)
theorem isAny2 (name : ByteArray) (w : World) : Calls Tryd.prog 17 #[.string name, .slice (some ⟨w.heap.size, 0, none⟩) 3 3] (w.alloc (.cells #[.string ⟨#[80, 114, 101, 45, 68, 101, 112, 101, 110, 100, 115]⟩, .string ⟨#[68, 101, 112, 101, 110, 100, 115]⟩, .string ⟨#[82, 101, 99, 111, 109, 109, 101, 110, 100, 115]⟩] 9)) fun e w' => e = .returned (.bool (isP2 name)) ∧ Below w.heap.size w w' :=
  isAny_new fs2 name w (by decide) (by decide)
def fs3 : List ByteArray := [(⟨#[67, 111, 110, 102, 108, 105, 99, 116, 115]⟩ : ByteArray), (⟨#[66, 114, 101, 97, 107, 115]⟩ : ByteArray)]
def isP3 (name : ByteArray) : Bool := fs3.any (sameS · name)
theorem isAny3 (name : ByteArray) (w : World) : Calls Tryd.prog 17 #[.string name, .slice (some ⟨w.heap.size, 0, none⟩) 2 2] (w.alloc (.cells #[.string ⟨#[67, 111, 110, 102, 108, 105, 99, 116, 115]⟩, .string ⟨#[66, 114, 101, 97, 107, 115]⟩] 9)) fun e w' => e = .returned (.bool (isP3 name)) ∧ Below w.heap.size w w' :=
  isAny_new fs3 name w (by decide) (by decide)
def fs4 : List ByteArray := [(⟨#[80, 114, 111, 118, 105, 100, 101, 115]⟩ : ByteArray)]
def isP4 (name : ByteArray) : Bool := fs4.any (sameS · name)
theorem isAny4 (name : ByteArray) (w : World) : Calls Tryd.prog 17 #[.string name, .slice (some ⟨w.heap.size, 0, none⟩) 1 1] (w.alloc (.cells #[.string ⟨#[80, 114, 111, 118, 105, 100, 101, 115]⟩] 9)) fun e w' => e = .returned (.bool (isP4 name)) ∧ Below w.heap.size w w' :=
  isAny_new fs4 name w (by decide) (by decide)
def fs5 : List ByteArray := [(⟨#[69, 115, 115, 101, 110, 116, 105, 97, 108]⟩ : ByteArray), (⟨#[72, 111, 108, 100]⟩ : ByteArray), (⟨#[67, 111, 110, 102, 105, 103, 117, 114, 101, 100]⟩ : ByteArray)]
def isP5 (name : ByteArray) : Bool := fs5.any (sameS · name)
theorem isAny5 (name : ByteArray) (w : World) : Calls Tryd.prog 17 #[.string name, .slice (some ⟨w.heap.size, 0, none⟩) 3 3] (w.alloc (.cells #[.string ⟨#[69, 115, 115, 101, 110, 116, 105, 97, 108]⟩, .string ⟨#[72, 111, 108, 100]⟩, .string ⟨#[67, 111, 110, 102, 105, 103, 117, 114, 101, 100]⟩] 9)) fun e w' => e = .returned (.bool (isP5 name)) ∧ Below w.heap.size w w' :=
  isAny_new fs5 name w (by decide) (by decide)
def fs6 : List ByteArray := [(⟨#[80, 114, 105, 111, 114, 105, 116, 121]⟩ : ByteArray)]
def isP6 (name : ByteArray) : Bool := fs6.any (sameS · name)
theorem isAny6 (name : ByteArray) (w : World) : Calls Tryd.prog 17 #[.string name, .slice (some ⟨w.heap.size, 0, none⟩) 1 1] (w.alloc (.cells #[.string ⟨#[80, 114, 105, 111, 114, 105, 116, 121]⟩] 9)) fun e w' => e = .returned (.bool (isP6 name)) ∧ Below w.heap.size w w' :=
  isAny_new fs6 name w (by decide) (by decide)
/-- What may be told of a value that has been read: it bears what happens below B. -/
structure Told (A : Nat → World → Value → Int → Prop) : Prop where
  on : ∀ B u u' v er, A B u v er → Blk.Chg (fun k => k < B) u u' → A B u' v er
  mono : ∀ B B' u v er, B' ≤ B → A B u v er → A B' u v er
set_option maxRecDepth 100000 in
set_option maxHeartbeats 1000000 in
theorem read_k0 (name s : ByteArray) (h0 : isP0 name = true) (w : World) (A : Nat → World → Value → Int → Prop) (hA : Told A) (c : ∀ w', Below w.heap.size w w' → Calls Tryd.prog 18 #[.string s] w' fun e w'' => ∃ v er, e = .returned (.tuple #[.agg #[v], .int .i64 er]) ∧ IsI v ∧ Below w'.heap.size w' w'' ∧ A w'.heap.size w'' v er) :
    Calls Tryd.prog 12 #[.string name, .string s] w fun e w' => ∃ v er, e = .returned (.tuple #[.agg #[v], .int .i64 er]) ∧ IsI v ∧ Below w.heap.size w w' ∧ A w.heap.size w' v er := by
  have hb0 := Blk.Is.new w 33 #[.nilIface]
  have hB0 : Below w.heap.size w (w.alloc (.cells #[.nilIface] 33)) := (Below.refl _ _).alloc (Nat.le_refl _) _
  have hs0 : (w.alloc (.cells #[.nilIface] 33)).heap.size = w.heap.size + 1 := by simp
  have C := Lib.hid c
  clear c
  have c0 := isAny0 name (w.alloc (.cells #[.nilIface] 33))
  rw [h0, hs0] at c0
  go_enter Tryd.func12, Tryd.ntmps12
  go_wp2_with fail
  refine c0.mono ?_
  rintro e w1 ⟨rfl, k1⟩
  have hb1 : Blk.Is w1 w.heap.size 33 #[.nilIface] := (k1.block _ (by omega)).trans hb0
  have hB1 := hB0.trans (k1.mono (by omega))
  have hs1 : w.heap.size + 1 ≤ w1.heap.size := hs0 ▸ k1.size
  clear hb0 hB0 hs0 k1 c0
  go_wp2_with fail
  refine (C.out _ hB1).mono ?_
  rintro e W ⟨v, er, rfl, hv, kb, ha⟩
  have hi : Blk.Is W w.heap.size 33 #[.nilIface] := (kb.block _ hb1.lt).trans hb1
  have hc := hi.at (i := 0) rfl
  have hf := hi.free 0
  have h9 := (hi.set 0 v).at (i := 0) (v := v) rfl
  have k : Below w.heap.size w (W.setCell ⟨w.heap.size, 0, none⟩ v) := (hB1.trans (kb.mono hB1.size)).setCell (Nat.le_refl _) _
  have HA := Lib.hid (hA.mono _ w.heap.size _ _ _ (by omega) (hA.on _ _ (W.setCell ⟨w.heap.size, 0, none⟩ v) _ _ ha ((Blk.Chg.refl _ W).setAt (b := w.heap.size) (o := 0) (u := v) (Nat.lt_of_lt_of_le (Nat.lt_succ_self _) hs1))))
  clear kb hB1 hb1 hs1 hi ha C
  rcases hv with rfl | ⟨t, x, rfl⟩
  · go_wp2_with fail
    refine bodyPost_ret (v := .tuple #[.agg #[.nilIface], .int .i64 er]) ?_ rfl ?_
    · simp [results, Tryd.results12, go_sem, h9]
    · exact ⟨_, _, rfl, .inl rfl, k, HA.out⟩
  · go_wp2_with fail
    refine bodyPost_ret (v := .tuple #[.agg #[.iface t x], .int .i64 er]) ?_ rfl ?_
    · simp [results, Tryd.results12, go_sem, h9]
    · exact ⟨_, _, rfl, .inr ⟨_, _, rfl⟩, k, HA.out⟩
set_option maxRecDepth 100000 in
set_option maxHeartbeats 1000000 in
theorem read_k1 (name s : ByteArray) (h0 : isP0 name = false) (h1 : isP1 name = true) (w : World) (A : Nat → World → Value → Int → Prop) (hA : Told A) (c : ∀ w', Below w.heap.size w w' → Calls Tryd.prog 19 #[.string s] w' fun e w'' => ∃ v er, e = .returned (.tuple #[.agg #[v], .int .i64 er]) ∧ IsI v ∧ Below w'.heap.size w' w'' ∧ A w'.heap.size w'' v er) :
    Calls Tryd.prog 12 #[.string name, .string s] w fun e w' => ∃ v er, e = .returned (.tuple #[.agg #[v], .int .i64 er]) ∧ IsI v ∧ Below w.heap.size w w' ∧ A w.heap.size w' v er := by
  have hb0 := Blk.Is.new w 33 #[.nilIface]
  have hB0 : Below w.heap.size w (w.alloc (.cells #[.nilIface] 33)) := (Below.refl _ _).alloc (Nat.le_refl _) _
  have hs0 : (w.alloc (.cells #[.nilIface] 33)).heap.size = w.heap.size + 1 := by simp
  have C := Lib.hid c
  clear c
  have c0 := isAny0 name (w.alloc (.cells #[.nilIface] 33))
  rw [h0, hs0] at c0
  have c1 := fun w => isAny1 name w
  rw [h1] at c1
  go_enter Tryd.func12, Tryd.ntmps12
  go_wp2_with fail
  refine c0.mono ?_
  rintro e w1 ⟨rfl, k1⟩
  have hb1 : Blk.Is w1 w.heap.size 33 #[.nilIface] := (k1.block _ (by omega)).trans hb0
  have hB1 := hB0.trans (k1.mono (by omega))
  have hs1 : w.heap.size + 1 ≤ w1.heap.size := hs0 ▸ k1.size
  clear hb0 hB0 hs0 k1 c0
  go_wp2_with fail
  refine (c1 _).mono ?_
  rintro e w2 ⟨rfl, k2⟩
  have hb2 : Blk.Is w2 w.heap.size 33 #[.nilIface] := (k2.block _ hb1.lt).trans hb1
  have hB2 := hB1.trans (k2.mono hB1.size)
  have hs2 : w.heap.size + 1 ≤ w2.heap.size := Nat.le_trans hs1 k2.size
  clear hb1 hB1 hs1 k2 c1
  go_wp2_with fail
  refine (C.out _ hB2).mono ?_
  rintro e W ⟨v, er, rfl, hv, kb, ha⟩
  have hi : Blk.Is W w.heap.size 33 #[.nilIface] := (kb.block _ hb2.lt).trans hb2
  have hc := hi.at (i := 0) rfl
  have hf := hi.free 0
  have h9 := (hi.set 0 v).at (i := 0) (v := v) rfl
  have k : Below w.heap.size w (W.setCell ⟨w.heap.size, 0, none⟩ v) := (hB2.trans (kb.mono hB2.size)).setCell (Nat.le_refl _) _
  have HA := Lib.hid (hA.mono _ w.heap.size _ _ _ (by omega) (hA.on _ _ (W.setCell ⟨w.heap.size, 0, none⟩ v) _ _ ha ((Blk.Chg.refl _ W).setAt (b := w.heap.size) (o := 0) (u := v) (Nat.lt_of_lt_of_le (Nat.lt_succ_self _) hs2))))
  clear kb hB2 hb2 hs2 hi ha C
  rcases hv with rfl | ⟨t, x, rfl⟩
  · go_wp2_with fail
    refine bodyPost_ret (v := .tuple #[.agg #[.nilIface], .int .i64 er]) ?_ rfl ?_
    · simp [results, Tryd.results12, go_sem, h9]
    · exact ⟨_, _, rfl, .inl rfl, k, HA.out⟩
  · go_wp2_with fail
    refine bodyPost_ret (v := .tuple #[.agg #[.iface t x], .int .i64 er]) ?_ rfl ?_
    · simp [results, Tryd.results12, go_sem, h9]
    · exact ⟨_, _, rfl, .inr ⟨_, _, rfl⟩, k, HA.out⟩
set_option maxRecDepth 100000 in
set_option maxHeartbeats 1000000 in
theorem read_k2 (name s : ByteArray) (h0 : isP0 name = false) (h1 : isP1 name = false) (h2 : isP2 name = true) (w : World) (A : Nat → World → Value → Int → Prop) (hA : Told A) (c : ∀ w', Below w.heap.size w w' → Calls Tryd.prog 20 #[.string s] w' fun e w'' => ∃ v er, e = .returned (.tuple #[.agg #[v], .int .i64 er]) ∧ IsI v ∧ Below w'.heap.size w' w'' ∧ A w'.heap.size w'' v er) :
    Calls Tryd.prog 12 #[.string name, .string s] w fun e w' => ∃ v er, e = .returned (.tuple #[.agg #[v], .int .i64 er]) ∧ IsI v ∧ Below w.heap.size w w' ∧ A w.heap.size w' v er := by
  have hb0 := Blk.Is.new w 33 #[.nilIface]
  have hB0 : Below w.heap.size w (w.alloc (.cells #[.nilIface] 33)) := (Below.refl _ _).alloc (Nat.le_refl _) _
  have hs0 : (w.alloc (.cells #[.nilIface] 33)).heap.size = w.heap.size + 1 := by simp
  have C := Lib.hid c
  clear c
  have c0 := isAny0 name (w.alloc (.cells #[.nilIface] 33))
  rw [h0, hs0] at c0
  have c1 := fun w => isAny1 name w
  rw [h1] at c1
  have c2 := fun w => isAny2 name w
  rw [h2] at c2
  go_enter Tryd.func12, Tryd.ntmps12
  go_wp2_with fail
  refine c0.mono ?_
  rintro e w1 ⟨rfl, k1⟩
  have hb1 : Blk.Is w1 w.heap.size 33 #[.nilIface] := (k1.block _ (by omega)).trans hb0
  have hB1 := hB0.trans (k1.mono (by omega))
  have hs1 : w.heap.size + 1 ≤ w1.heap.size := hs0 ▸ k1.size
  clear hb0 hB0 hs0 k1 c0
  go_wp2_with fail
  refine (c1 _).mono ?_
  rintro e w2 ⟨rfl, k2⟩
  have hb2 : Blk.Is w2 w.heap.size 33 #[.nilIface] := (k2.block _ hb1.lt).trans hb1
  have hB2 := hB1.trans (k2.mono hB1.size)
  have hs2 : w.heap.size + 1 ≤ w2.heap.size := Nat.le_trans hs1 k2.size
  clear hb1 hB1 hs1 k2 c1
  go_wp2_with fail
  refine (c2 _).mono ?_
  rintro e w3 ⟨rfl, k3⟩
  have hb3 : Blk.Is w3 w.heap.size 33 #[.nilIface] := (k3.block _ hb2.lt).trans hb2
  have hB3 := hB2.trans (k3.mono hB2.size)
  have hs3 : w.heap.size + 1 ≤ w3.heap.size := Nat.le_trans hs2 k3.size
  clear hb2 hB2 hs2 k3 c2
  go_wp2_with fail
  refine (C.out _ hB3).mono ?_
  rintro e W ⟨v, er, rfl, hv, kb, ha⟩
  have hi : Blk.Is W w.heap.size 33 #[.nilIface] := (kb.block _ hb3.lt).trans hb3
  have hc := hi.at (i := 0) rfl
  have hf := hi.free 0
  have h9 := (hi.set 0 v).at (i := 0) (v := v) rfl
  have k : Below w.heap.size w (W.setCell ⟨w.heap.size, 0, none⟩ v) := (hB3.trans (kb.mono hB3.size)).setCell (Nat.le_refl _) _
  have HA := Lib.hid (hA.mono _ w.heap.size _ _ _ (by omega) (hA.on _ _ (W.setCell ⟨w.heap.size, 0, none⟩ v) _ _ ha ((Blk.Chg.refl _ W).setAt (b := w.heap.size) (o := 0) (u := v) (Nat.lt_of_lt_of_le (Nat.lt_succ_self _) hs3))))
  clear kb hB3 hb3 hs3 hi ha C
  rcases hv with rfl | ⟨t, x, rfl⟩
  · go_wp2_with fail
    refine bodyPost_ret (v := .tuple #[.agg #[.nilIface], .int .i64 er]) ?_ rfl ?_
    · simp [results, Tryd.results12, go_sem, h9]
    · exact ⟨_, _, rfl, .inl rfl, k, HA.out⟩
  · go_wp2_with fail
    refine bodyPost_ret (v := .tuple #[.agg #[.iface t x], .int .i64 er]) ?_ rfl ?_
    · simp [results, Tryd.results12, go_sem, h9]
    · exact ⟨_, _, rfl, .inr ⟨_, _, rfl⟩, k, HA.out⟩
set_option maxRecDepth 100000 in
set_option maxHeartbeats 1000000 in
theorem read_k3 (name s : ByteArray) (h0 : isP0 name = false) (h1 : isP1 name = false) (h2 : isP2 name = false) (h3 : isP3 name = true) (w : World) (A : Nat → World → Value → Int → Prop) (hA : Told A) (c : ∀ w', Below w.heap.size w w' → Calls Tryd.prog 21 #[.string s] w' fun e w'' => ∃ v er, e = .returned (.tuple #[.agg #[v], .int .i64 er]) ∧ IsI v ∧ Below w'.heap.size w' w'' ∧ A w'.heap.size w'' v er) :
    Calls Tryd.prog 12 #[.string name, .string s] w fun e w' => ∃ v er, e = .returned (.tuple #[.agg #[v], .int .i64 er]) ∧ IsI v ∧ Below w.heap.size w w' ∧ A w.heap.size w' v er := by
  have hb0 := Blk.Is.new w 33 #[.nilIface]
  have hB0 : Below w.heap.size w (w.alloc (.cells #[.nilIface] 33)) := (Below.refl _ _).alloc (Nat.le_refl _) _
  have hs0 : (w.alloc (.cells #[.nilIface] 33)).heap.size = w.heap.size + 1 := by simp
  have C := Lib.hid c
  clear c
  have c0 := isAny0 name (w.alloc (.cells #[.nilIface] 33))
  rw [h0, hs0] at c0
  have c1 := fun w => isAny1 name w
  rw [h1] at c1
  have c2 := fun w => isAny2 name w
  rw [h2] at c2
  have c3 := fun w => isAny3 name w
  rw [h3] at c3
  go_enter Tryd.func12, Tryd.ntmps12
  go_wp2_with fail
  refine c0.mono ?_
  rintro e w1 ⟨rfl, k1⟩
  have hb1 : Blk.Is w1 w.heap.size 33 #[.nilIface] := (k1.block _ (by omega)).trans hb0
  have hB1 := hB0.trans (k1.mono (by omega))
  have hs1 : w.heap.size + 1 ≤ w1.heap.size := hs0 ▸ k1.size
  clear hb0 hB0 hs0 k1 c0
  go_wp2_with fail
  refine (c1 _).mono ?_
  rintro e w2 ⟨rfl, k2⟩
  have hb2 : Blk.Is w2 w.heap.size 33 #[.nilIface] := (k2.block _ hb1.lt).trans hb1
  have hB2 := hB1.trans (k2.mono hB1.size)
  have hs2 : w.heap.size + 1 ≤ w2.heap.size := Nat.le_trans hs1 k2.size
  clear hb1 hB1 hs1 k2 c1
  go_wp2_with fail
  refine (c2 _).mono ?_
  rintro e w3 ⟨rfl, k3⟩
  have hb3 : Blk.Is w3 w.heap.size 33 #[.nilIface] := (k3.block _ hb2.lt).trans hb2
  have hB3 := hB2.trans (k3.mono hB2.size)
  have hs3 : w.heap.size + 1 ≤ w3.heap.size := Nat.le_trans hs2 k3.size
  clear hb2 hB2 hs2 k3 c2
  go_wp2_with fail
  refine (c3 _).mono ?_
  rintro e w4 ⟨rfl, k4⟩
  have hb4 : Blk.Is w4 w.heap.size 33 #[.nilIface] := (k4.block _ hb3.lt).trans hb3
  have hB4 := hB3.trans (k4.mono hB3.size)
  have hs4 : w.heap.size + 1 ≤ w4.heap.size := Nat.le_trans hs3 k4.size
  clear hb3 hB3 hs3 k4 c3
  go_wp2_with fail
  refine (C.out _ hB4).mono ?_
  rintro e W ⟨v, er, rfl, hv, kb, ha⟩
  have hi : Blk.Is W w.heap.size 33 #[.nilIface] := (kb.block _ hb4.lt).trans hb4
  have hc := hi.at (i := 0) rfl
  have hf := hi.free 0
  have h9 := (hi.set 0 v).at (i := 0) (v := v) rfl
  have k : Below w.heap.size w (W.setCell ⟨w.heap.size, 0, none⟩ v) := (hB4.trans (kb.mono hB4.size)).setCell (Nat.le_refl _) _
  have HA := Lib.hid (hA.mono _ w.heap.size _ _ _ (by omega) (hA.on _ _ (W.setCell ⟨w.heap.size, 0, none⟩ v) _ _ ha ((Blk.Chg.refl _ W).setAt (b := w.heap.size) (o := 0) (u := v) (Nat.lt_of_lt_of_le (Nat.lt_succ_self _) hs4))))
  clear kb hB4 hb4 hs4 hi ha C
  rcases hv with rfl | ⟨t, x, rfl⟩
  · go_wp2_with fail
    refine bodyPost_ret (v := .tuple #[.agg #[.nilIface], .int .i64 er]) ?_ rfl ?_
    · simp [results, Tryd.results12, go_sem, h9]
    · exact ⟨_, _, rfl, .inl rfl, k, HA.out⟩
  · go_wp2_with fail
    refine bodyPost_ret (v := .tuple #[.agg #[.iface t x], .int .i64 er]) ?_ rfl ?_
    · simp [results, Tryd.results12, go_sem, h9]
    · exact ⟨_, _, rfl, .inr ⟨_, _, rfl⟩, k, HA.out⟩
set_option maxRecDepth 100000 in
set_option maxHeartbeats 1000000 in
theorem read_k4 (name s : ByteArray) (h0 : isP0 name = false) (h1 : isP1 name = false) (h2 : isP2 name = false) (h3 : isP3 name = false) (h4 : isP4 name = true) (w : World) (A : Nat → World → Value → Int → Prop) (hA : Told A) (c : ∀ w', Below w.heap.size w w' → Calls Tryd.prog 22 #[.string s] w' fun e w'' => ∃ v er, e = .returned (.tuple #[.agg #[v], .int .i64 er]) ∧ IsI v ∧ Below w'.heap.size w' w'' ∧ A w'.heap.size w'' v er) :
    Calls Tryd.prog 12 #[.string name, .string s] w fun e w' => ∃ v er, e = .returned (.tuple #[.agg #[v], .int .i64 er]) ∧ IsI v ∧ Below w.heap.size w w' ∧ A w.heap.size w' v er := by
  have hb0 := Blk.Is.new w 33 #[.nilIface]
  have hB0 : Below w.heap.size w (w.alloc (.cells #[.nilIface] 33)) := (Below.refl _ _).alloc (Nat.le_refl _) _
  have hs0 : (w.alloc (.cells #[.nilIface] 33)).heap.size = w.heap.size + 1 := by simp
  have C := Lib.hid c
  clear c
  have c0 := isAny0 name (w.alloc (.cells #[.nilIface] 33))
  rw [h0, hs0] at c0
  have c1 := fun w => isAny1 name w
  rw [h1] at c1
  have c2 := fun w => isAny2 name w
  rw [h2] at c2
  have c3 := fun w => isAny3 name w
  rw [h3] at c3
  have c4 := fun w => isAny4 name w
  rw [h4] at c4
  go_enter Tryd.func12, Tryd.ntmps12
  go_wp2_with fail
  refine c0.mono ?_
  rintro e w1 ⟨rfl, k1⟩
  have hb1 : Blk.Is w1 w.heap.size 33 #[.nilIface] := (k1.block _ (by omega)).trans hb0
  have hB1 := hB0.trans (k1.mono (by omega))
  have hs1 : w.heap.size + 1 ≤ w1.heap.size := hs0 ▸ k1.size
  clear hb0 hB0 hs0 k1 c0
  go_wp2_with fail
  refine (c1 _).mono ?_
  rintro e w2 ⟨rfl, k2⟩
  have hb2 : Blk.Is w2 w.heap.size 33 #[.nilIface] := (k2.block _ hb1.lt).trans hb1
  have hB2 := hB1.trans (k2.mono hB1.size)
  have hs2 : w.heap.size + 1 ≤ w2.heap.size := Nat.le_trans hs1 k2.size
  clear hb1 hB1 hs1 k2 c1
  go_wp2_with fail
  refine (c2 _).mono ?_
  rintro e w3 ⟨rfl, k3⟩
  have hb3 : Blk.Is w3 w.heap.size 33 #[.nilIface] := (k3.block _ hb2.lt).trans hb2
  have hB3 := hB2.trans (k3.mono hB2.size)
  have hs3 : w.heap.size + 1 ≤ w3.heap.size := Nat.le_trans hs2 k3.size
  clear hb2 hB2 hs2 k3 c2
  go_wp2_with fail
  refine (c3 _).mono ?_
  rintro e w4 ⟨rfl, k4⟩
  have hb4 : Blk.Is w4 w.heap.size 33 #[.nilIface] := (k4.block _ hb3.lt).trans hb3
  have hB4 := hB3.trans (k4.mono hB3.size)
  have hs4 : w.heap.size + 1 ≤ w4.heap.size := Nat.le_trans hs3 k4.size
  clear hb3 hB3 hs3 k4 c3
  go_wp2_with fail
  refine (c4 _).mono ?_
  rintro e w5 ⟨rfl, k5⟩
  have hb5 : Blk.Is w5 w.heap.size 33 #[.nilIface] := (k5.block _ hb4.lt).trans hb4
  have hB5 := hB4.trans (k5.mono hB4.size)
  have hs5 : w.heap.size + 1 ≤ w5.heap.size := Nat.le_trans hs4 k5.size
  clear hb4 hB4 hs4 k5 c4
  go_wp2_with fail
  refine (C.out _ hB5).mono ?_
  rintro e W ⟨v, er, rfl, hv, kb, ha⟩
  have hi : Blk.Is W w.heap.size 33 #[.nilIface] := (kb.block _ hb5.lt).trans hb5
  have hc := hi.at (i := 0) rfl
  have hf := hi.free 0
  have h9 := (hi.set 0 v).at (i := 0) (v := v) rfl
  have k : Below w.heap.size w (W.setCell ⟨w.heap.size, 0, none⟩ v) := (hB5.trans (kb.mono hB5.size)).setCell (Nat.le_refl _) _
  have HA := Lib.hid (hA.mono _ w.heap.size _ _ _ (by omega) (hA.on _ _ (W.setCell ⟨w.heap.size, 0, none⟩ v) _ _ ha ((Blk.Chg.refl _ W).setAt (b := w.heap.size) (o := 0) (u := v) (Nat.lt_of_lt_of_le (Nat.lt_succ_self _) hs5))))
  clear kb hB5 hb5 hs5 hi ha C
  rcases hv with rfl | ⟨t, x, rfl⟩
  · go_wp2_with fail
    refine bodyPost_ret (v := .tuple #[.agg #[.nilIface], .int .i64 er]) ?_ rfl ?_
    · simp [results, Tryd.results12, go_sem, h9]
    · exact ⟨_, _, rfl, .inl rfl, k, HA.out⟩
  · go_wp2_with fail
    refine bodyPost_ret (v := .tuple #[.agg #[.iface t x], .int .i64 er]) ?_ rfl ?_
    · simp [results, Tryd.results12, go_sem, h9]
    · exact ⟨_, _, rfl, .inr ⟨_, _, rfl⟩, k, HA.out⟩
set_option maxRecDepth 100000 in
set_option maxHeartbeats 1000000 in
theorem read_k5 (name s : ByteArray) (h0 : isP0 name = false) (h1 : isP1 name = false) (h2 : isP2 name = false) (h3 : isP3 name = false) (h4 : isP4 name = false) (h5 : isP5 name = true) (w : World) (A : Nat → World → Value → Int → Prop) (hA : Told A) (c : ∀ w', Below w.heap.size w w' → Calls Tryd.prog 23 #[.string s] w' fun e w'' => ∃ v er, e = .returned (.tuple #[.agg #[v], .int .i64 er]) ∧ IsI v ∧ Below w'.heap.size w' w'' ∧ A w'.heap.size w'' v er) :
    Calls Tryd.prog 12 #[.string name, .string s] w fun e w' => ∃ v er, e = .returned (.tuple #[.agg #[v], .int .i64 er]) ∧ IsI v ∧ Below w.heap.size w w' ∧ A w.heap.size w' v er := by
  have hb0 := Blk.Is.new w 33 #[.nilIface]
  have hB0 : Below w.heap.size w (w.alloc (.cells #[.nilIface] 33)) := (Below.refl _ _).alloc (Nat.le_refl _) _
  have hs0 : (w.alloc (.cells #[.nilIface] 33)).heap.size = w.heap.size + 1 := by simp
  have C := Lib.hid c
  clear c
  have c0 := isAny0 name (w.alloc (.cells #[.nilIface] 33))
  rw [h0, hs0] at c0
  have c1 := fun w => isAny1 name w
  rw [h1] at c1
  have c2 := fun w => isAny2 name w
  rw [h2] at c2
  have c3 := fun w => isAny3 name w
  rw [h3] at c3
  have c4 := fun w => isAny4 name w
  rw [h4] at c4
  have c5 := fun w => isAny5 name w
  rw [h5] at c5
  go_enter Tryd.func12, Tryd.ntmps12
  go_wp2_with fail
  refine c0.mono ?_
  rintro e w1 ⟨rfl, k1⟩
  have hb1 : Blk.Is w1 w.heap.size 33 #[.nilIface] := (k1.block _ (by omega)).trans hb0
  have hB1 := hB0.trans (k1.mono (by omega))
  have hs1 : w.heap.size + 1 ≤ w1.heap.size := hs0 ▸ k1.size
  clear hb0 hB0 hs0 k1 c0
  go_wp2_with fail
  refine (c1 _).mono ?_
  rintro e w2 ⟨rfl, k2⟩
  have hb2 : Blk.Is w2 w.heap.size 33 #[.nilIface] := (k2.block _ hb1.lt).trans hb1
  have hB2 := hB1.trans (k2.mono hB1.size)
  have hs2 : w.heap.size + 1 ≤ w2.heap.size := Nat.le_trans hs1 k2.size
  clear hb1 hB1 hs1 k2 c1
  go_wp2_with fail
  refine (c2 _).mono ?_
  rintro e w3 ⟨rfl, k3⟩
  have hb3 : Blk.Is w3 w.heap.size 33 #[.nilIface] := (k3.block _ hb2.lt).trans hb2
  have hB3 := hB2.trans (k3.mono hB2.size)
  have hs3 : w.heap.size + 1 ≤ w3.heap.size := Nat.le_trans hs2 k3.size
  clear hb2 hB2 hs2 k3 c2
  go_wp2_with fail
  refine (c3 _).mono ?_
  rintro e w4 ⟨rfl, k4⟩
  have hb4 : Blk.Is w4 w.heap.size 33 #[.nilIface] := (k4.block _ hb3.lt).trans hb3
  have hB4 := hB3.trans (k4.mono hB3.size)
  have hs4 : w.heap.size + 1 ≤ w4.heap.size := Nat.le_trans hs3 k4.size
  clear hb3 hB3 hs3 k4 c3
  go_wp2_with fail
  refine (c4 _).mono ?_
  rintro e w5 ⟨rfl, k5⟩
  have hb5 : Blk.Is w5 w.heap.size 33 #[.nilIface] := (k5.block _ hb4.lt).trans hb4
  have hB5 := hB4.trans (k5.mono hB4.size)
  have hs5 : w.heap.size + 1 ≤ w5.heap.size := Nat.le_trans hs4 k5.size
  clear hb4 hB4 hs4 k5 c4
  go_wp2_with fail
  refine (c5 _).mono ?_
  rintro e w6 ⟨rfl, k6⟩
  have hb6 : Blk.Is w6 w.heap.size 33 #[.nilIface] := (k6.block _ hb5.lt).trans hb5
  have hB6 := hB5.trans (k6.mono hB5.size)
  have hs6 : w.heap.size + 1 ≤ w6.heap.size := Nat.le_trans hs5 k6.size
  clear hb5 hB5 hs5 k6 c5
  go_wp2_with fail
  refine (C.out _ hB6).mono ?_
  rintro e W ⟨v, er, rfl, hv, kb, ha⟩
  have hi : Blk.Is W w.heap.size 33 #[.nilIface] := (kb.block _ hb6.lt).trans hb6
  have hc := hi.at (i := 0) rfl
  have hf := hi.free 0
  have h9 := (hi.set 0 v).at (i := 0) (v := v) rfl
  have k : Below w.heap.size w (W.setCell ⟨w.heap.size, 0, none⟩ v) := (hB6.trans (kb.mono hB6.size)).setCell (Nat.le_refl _) _
  have HA := Lib.hid (hA.mono _ w.heap.size _ _ _ (by omega) (hA.on _ _ (W.setCell ⟨w.heap.size, 0, none⟩ v) _ _ ha ((Blk.Chg.refl _ W).setAt (b := w.heap.size) (o := 0) (u := v) (Nat.lt_of_lt_of_le (Nat.lt_succ_self _) hs6))))
  clear kb hB6 hb6 hs6 hi ha C
  rcases hv with rfl | ⟨t, x, rfl⟩
  · go_wp2_with fail
    refine bodyPost_ret (v := .tuple #[.agg #[.nilIface], .int .i64 er]) ?_ rfl ?_
    · simp [results, Tryd.results12, go_sem, h9]
    · exact ⟨_, _, rfl, .inl rfl, k, HA.out⟩
  · go_wp2_with fail
    refine bodyPost_ret (v := .tuple #[.agg #[.iface t x], .int .i64 er]) ?_ rfl ?_
    · simp [results, Tryd.results12, go_sem, h9]
    · exact ⟨_, _, rfl, .inr ⟨_, _, rfl⟩, k, HA.out⟩
set_option maxRecDepth 100000 in
set_option maxHeartbeats 1000000 in
theorem read_k6 (name s : ByteArray) (h0 : isP0 name = false) (h1 : isP1 name = false) (h2 : isP2 name = false) (h3 : isP3 name = false) (h4 : isP4 name = false) (h5 : isP5 name = false) (h6 : isP6 name = true) (w : World) (A : Nat → World → Value → Int → Prop) (hA : Told A) (c : ∀ w', Below w.heap.size w w' → Calls Tryd.prog 24 #[.string s] w' fun e w'' => ∃ v er, e = .returned (.tuple #[.agg #[v], .int .i64 er]) ∧ IsI v ∧ Below w'.heap.size w' w'' ∧ A w'.heap.size w'' v er) :
    Calls Tryd.prog 12 #[.string name, .string s] w fun e w' => ∃ v er, e = .returned (.tuple #[.agg #[v], .int .i64 er]) ∧ IsI v ∧ Below w.heap.size w w' ∧ A w.heap.size w' v er := by
  have hb0 := Blk.Is.new w 33 #[.nilIface]
  have hB0 : Below w.heap.size w (w.alloc (.cells #[.nilIface] 33)) := (Below.refl _ _).alloc (Nat.le_refl _) _
  have hs0 : (w.alloc (.cells #[.nilIface] 33)).heap.size = w.heap.size + 1 := by simp
  have C := Lib.hid c
  clear c
  have c0 := isAny0 name (w.alloc (.cells #[.nilIface] 33))
  rw [h0, hs0] at c0
  have c1 := fun w => isAny1 name w
  rw [h1] at c1
  have c2 := fun w => isAny2 name w
  rw [h2] at c2
  have c3 := fun w => isAny3 name w
  rw [h3] at c3
  have c4 := fun w => isAny4 name w
  rw [h4] at c4
  have c5 := fun w => isAny5 name w
  rw [h5] at c5
  have c6 := fun w => isAny6 name w
  rw [h6] at c6
  go_enter Tryd.func12, Tryd.ntmps12
  go_wp2_with fail
  refine c0.mono ?_
  rintro e w1 ⟨rfl, k1⟩
  have hb1 : Blk.Is w1 w.heap.size 33 #[.nilIface] := (k1.block _ (by omega)).trans hb0
  have hB1 := hB0.trans (k1.mono (by omega))
  have hs1 : w.heap.size + 1 ≤ w1.heap.size := hs0 ▸ k1.size
  clear hb0 hB0 hs0 k1 c0
  go_wp2_with fail
  refine (c1 _).mono ?_
  rintro e w2 ⟨rfl, k2⟩
  have hb2 : Blk.Is w2 w.heap.size 33 #[.nilIface] := (k2.block _ hb1.lt).trans hb1
  have hB2 := hB1.trans (k2.mono hB1.size)
  have hs2 : w.heap.size + 1 ≤ w2.heap.size := Nat.le_trans hs1 k2.size
  clear hb1 hB1 hs1 k2 c1
  go_wp2_with fail
  refine (c2 _).mono ?_
  rintro e w3 ⟨rfl, k3⟩
  have hb3 : Blk.Is w3 w.heap.size 33 #[.nilIface] := (k3.block _ hb2.lt).trans hb2
  have hB3 := hB2.trans (k3.mono hB2.size)
  have hs3 : w.heap.size + 1 ≤ w3.heap.size := Nat.le_trans hs2 k3.size
  clear hb2 hB2 hs2 k3 c2
  go_wp2_with fail
  refine (c3 _).mono ?_
  rintro e w4 ⟨rfl, k4⟩
  have hb4 : Blk.Is w4 w.heap.size 33 #[.nilIface] := (k4.block _ hb3.lt).trans hb3
  have hB4 := hB3.trans (k4.mono hB3.size)
  have hs4 : w.heap.size + 1 ≤ w4.heap.size := Nat.le_trans hs3 k4.size
  clear hb3 hB3 hs3 k4 c3
  go_wp2_with fail
  refine (c4 _).mono ?_
  rintro e w5 ⟨rfl, k5⟩
  have hb5 : Blk.Is w5 w.heap.size 33 #[.nilIface] := (k5.block _ hb4.lt).trans hb4
  have hB5 := hB4.trans (k5.mono hB4.size)
  have hs5 : w.heap.size + 1 ≤ w5.heap.size := Nat.le_trans hs4 k5.size
  clear hb4 hB4 hs4 k5 c4
  go_wp2_with fail
  refine (c5 _).mono ?_
  rintro e w6 ⟨rfl, k6⟩
  have hb6 : Blk.Is w6 w.heap.size 33 #[.nilIface] := (k6.block _ hb5.lt).trans hb5
  have hB6 := hB5.trans (k6.mono hB5.size)
  have hs6 : w.heap.size + 1 ≤ w6.heap.size := Nat.le_trans hs5 k6.size
  clear hb5 hB5 hs5 k6 c5
  go_wp2_with fail
  refine (c6 _).mono ?_
  rintro e w7 ⟨rfl, k7⟩
  have hb7 : Blk.Is w7 w.heap.size 33 #[.nilIface] := (k7.block _ hb6.lt).trans hb6
  have hB7 := hB6.trans (k7.mono hB6.size)
  have hs7 : w.heap.size + 1 ≤ w7.heap.size := Nat.le_trans hs6 k7.size
  clear hb6 hB6 hs6 k7 c6
  go_wp2_with fail
  refine (C.out _ hB7).mono ?_
  rintro e W ⟨v, er, rfl, hv, kb, ha⟩
  have hi : Blk.Is W w.heap.size 33 #[.nilIface] := (kb.block _ hb7.lt).trans hb7
  have hc := hi.at (i := 0) rfl
  have hf := hi.free 0
  have h9 := (hi.set 0 v).at (i := 0) (v := v) rfl
  have k : Below w.heap.size w (W.setCell ⟨w.heap.size, 0, none⟩ v) := (hB7.trans (kb.mono hB7.size)).setCell (Nat.le_refl _) _
  have HA := Lib.hid (hA.mono _ w.heap.size _ _ _ (by omega) (hA.on _ _ (W.setCell ⟨w.heap.size, 0, none⟩ v) _ _ ha ((Blk.Chg.refl _ W).setAt (b := w.heap.size) (o := 0) (u := v) (Nat.lt_of_lt_of_le (Nat.lt_succ_self _) hs7))))
  clear kb hB7 hb7 hs7 hi ha C
  rcases hv with rfl | ⟨t, x, rfl⟩
  · go_wp2_with fail
    refine bodyPost_ret (v := .tuple #[.agg #[.nilIface], .int .i64 er]) ?_ rfl ?_
    · simp [results, Tryd.results12, go_sem, h9]
    · exact ⟨_, _, rfl, .inl rfl, k, HA.out⟩
  · go_wp2_with fail
    refine bodyPost_ret (v := .tuple #[.agg #[.iface t x], .int .i64 er]) ?_ rfl ?_
    · simp [results, Tryd.results12, go_sem, h9]
    · exact ⟨_, _, rfl, .inr ⟨_, _, rfl⟩, k, HA.out⟩
set_option maxRecDepth 100000 in
set_option maxHeartbeats 1000000 in
theorem read_k7 (name s : ByteArray) (h0 : isP0 name = false) (h1 : isP1 name = false) (h2 : isP2 name = false) (h3 : isP3 name = false) (h4 : isP4 name = false) (h5 : isP5 name = false) (h6 : isP6 name = false) (w : World) (A : Nat → World → Value → Int → Prop) (hA : Told A) (c : ∀ w', A w'.heap.size w' (.iface 9 (.string s)) 0) :
    Calls Tryd.prog 12 #[.string name, .string s] w fun e w' => ∃ v er, e = .returned (.tuple #[.agg #[v], .int .i64 er]) ∧ IsI v ∧ Below w.heap.size w w' ∧ A w.heap.size w' v er := by
  have hb0 := Blk.Is.new w 33 #[.nilIface]
  have hB0 : Below w.heap.size w (w.alloc (.cells #[.nilIface] 33)) := (Below.refl _ _).alloc (Nat.le_refl _) _
  have hs0 : (w.alloc (.cells #[.nilIface] 33)).heap.size = w.heap.size + 1 := by simp
  have C := Lib.hid c
  clear c
  have c0 := isAny0 name (w.alloc (.cells #[.nilIface] 33))
  rw [h0, hs0] at c0
  have c1 := fun w => isAny1 name w
  rw [h1] at c1
  have c2 := fun w => isAny2 name w
  rw [h2] at c2
  have c3 := fun w => isAny3 name w
  rw [h3] at c3
  have c4 := fun w => isAny4 name w
  rw [h4] at c4
  have c5 := fun w => isAny5 name w
  rw [h5] at c5
  have c6 := fun w => isAny6 name w
  rw [h6] at c6
  go_enter Tryd.func12, Tryd.ntmps12
  go_wp2_with fail
  refine c0.mono ?_
  rintro e w1 ⟨rfl, k1⟩
  have hb1 : Blk.Is w1 w.heap.size 33 #[.nilIface] := (k1.block _ (by omega)).trans hb0
  have hB1 := hB0.trans (k1.mono (by omega))
  have hs1 : w.heap.size + 1 ≤ w1.heap.size := hs0 ▸ k1.size
  clear hb0 hB0 hs0 k1 c0
  go_wp2_with fail
  refine (c1 _).mono ?_
  rintro e w2 ⟨rfl, k2⟩
  have hb2 : Blk.Is w2 w.heap.size 33 #[.nilIface] := (k2.block _ hb1.lt).trans hb1
  have hB2 := hB1.trans (k2.mono hB1.size)
  have hs2 : w.heap.size + 1 ≤ w2.heap.size := Nat.le_trans hs1 k2.size
  clear hb1 hB1 hs1 k2 c1
  go_wp2_with fail
  refine (c2 _).mono ?_
  rintro e w3 ⟨rfl, k3⟩
  have hb3 : Blk.Is w3 w.heap.size 33 #[.nilIface] := (k3.block _ hb2.lt).trans hb2
  have hB3 := hB2.trans (k3.mono hB2.size)
  have hs3 : w.heap.size + 1 ≤ w3.heap.size := Nat.le_trans hs2 k3.size
  clear hb2 hB2 hs2 k3 c2
  go_wp2_with fail
  refine (c3 _).mono ?_
  rintro e w4 ⟨rfl, k4⟩
  have hb4 : Blk.Is w4 w.heap.size 33 #[.nilIface] := (k4.block _ hb3.lt).trans hb3
  have hB4 := hB3.trans (k4.mono hB3.size)
  have hs4 : w.heap.size + 1 ≤ w4.heap.size := Nat.le_trans hs3 k4.size
  clear hb3 hB3 hs3 k4 c3
  go_wp2_with fail
  refine (c4 _).mono ?_
  rintro e w5 ⟨rfl, k5⟩
  have hb5 : Blk.Is w5 w.heap.size 33 #[.nilIface] := (k5.block _ hb4.lt).trans hb4
  have hB5 := hB4.trans (k5.mono hB4.size)
  have hs5 : w.heap.size + 1 ≤ w5.heap.size := Nat.le_trans hs4 k5.size
  clear hb4 hB4 hs4 k5 c4
  go_wp2_with fail
  refine (c5 _).mono ?_
  rintro e w6 ⟨rfl, k6⟩
  have hb6 : Blk.Is w6 w.heap.size 33 #[.nilIface] := (k6.block _ hb5.lt).trans hb5
  have hB6 := hB5.trans (k6.mono hB5.size)
  have hs6 : w.heap.size + 1 ≤ w6.heap.size := Nat.le_trans hs5 k6.size
  clear hb5 hB5 hs5 k6 c5
  go_wp2_with fail
  refine (c6 _).mono ?_
  rintro e w7 ⟨rfl, k7⟩
  have hb7 : Blk.Is w7 w.heap.size 33 #[.nilIface] := (k7.block _ hb6.lt).trans hb6
  have hB7 := hB6.trans (k7.mono hB6.size)
  have hs7 : w.heap.size + 1 ≤ w7.heap.size := Nat.le_trans hs6 k7.size
  clear hb6 hB6 hs6 k7 c6
  have ct := ofText_any (.string s) w7
  go_wp2_with fail
  refine ct.mono ?_
  rintro e W ⟨rfl, kb⟩
  have hi : Blk.Is W w.heap.size 33 #[.nilIface] := (kb.block _ hb7.lt).trans hb7
  have hc := hi.at (i := 0) rfl
  have hf := hi.free 0
  have h9 := (hi.set 0 (.iface 9 (.string s))).at (i := 0) (v := .iface 9 (.string s)) rfl
  have k : Below w.heap.size w (W.setCell ⟨w.heap.size, 0, none⟩ (.iface 9 (.string s))) := (hB7.trans (kb.mono hB7.size)).setCell (Nat.le_refl _) _
  have HA := Lib.hid (hA.mono _ w.heap.size _ _ _ (by simp; have := kb.size; omega) (C.out (W.setCell ⟨w.heap.size, 0, none⟩ (.iface 9 (.string s)))))
  clear kb hB7 hb7 hs7 hi C ct
  go_wp2_with fail
  refine bodyPost_ret (v := .tuple #[.agg #[.iface 9 (.string s)], .int .i64 0]) ?_ rfl ?_
  · simp [results, Tryd.results12, go_sem, h9]
  · exact ⟨_, _, rfl, .inr ⟨_, _, rfl⟩, k, HA.out⟩
end Va
end Go.Proofs.YtapmpdljapbpeaaDoor

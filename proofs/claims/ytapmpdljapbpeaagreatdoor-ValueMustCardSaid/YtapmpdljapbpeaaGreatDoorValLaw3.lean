/-
The walk of the law ValueMust.
-/
import Derived.Test.YtapmpdljapbpeaaGreatDoorValMades
import Derived.Deep.QuietTactic
import Derived.Laws.Concat
namespace Go.Proofs.YtapmpdljapbpeaaGreatDoor
open Go.RowKit
set_option linter.unusedSimpArgs false
set_option linter.unusedVariables false
namespace Va
open Rl (At Pv Ats Pvs Clss Cls)
/-- What a Wrong says. -/
def says (x y : ByteArray) : ByteArray := ⟨#[119, 97, 110, 116, 32]⟩ ++ x ++ ⟨#[44, 32, 103, 111, 116, 32]⟩ ++ y
set_option maxRecDepth 100000 in
set_option maxHeartbeats 1000000 in
theorem error_any (b : Nat) (x y : ByteArray) (w : World) (h : Blk.Is w b 56 #[.string x, .string y]) (hx : x.size ≤ 1000) (hy : y.size ≤ 1000) :
    Calls Tryz.prog 29 #[.pointer (some ⟨b, 0, none⟩)] w fun e w' => e = .returned (.string (says x y)) ∧ ∃ n, w' = w.drewN n := by
  have c0 := h.at (i := 0) (v := .string x) rfl
  have c1 := h.at (i := 1) (v := .string y) rfl
  have b1 : (⟨#[119, 97, 110, 116, 32]⟩ : ByteArray).size = 5 := rfl
  have b2 : (⟨#[44, 32, 103, 111, 116, 32]⟩ : ByteArray).size = 6 := rfl
  have s1 := fun w => run_string_add_sum (P := Tryz.prog) w ⟨#[119, 97, 110, 116, 32]⟩ x (by omega)
  have s2 := fun w => run_string_add_sum (P := Tryz.prog) w (⟨#[119, 97, 110, 116, 32]⟩ ++ x) ⟨#[44, 32, 103, 111, 116, 32]⟩ (by simp only [ByteArray.size_append]; omega)
  have s3 := fun w => run_string_add_sum (P := Tryz.prog) w (⟨#[119, 97, 110, 116, 32]⟩ ++ x ++ ⟨#[44, 32, 103, 111, 116, 32]⟩) y (by simp only [ByteArray.size_append]; omega)
  clear b1 b2 h
  go_enter Tryz.func29, Tryz.ntmps29
  go_wp2_with fail
  go_quiet (fail)
  go_wp2_with fail
  go_ret
  exact ⟨rfl, _, rfl⟩
/-- right: of a kind that it is: nothing was told. -/
theorem right_yes (bw : Nat) (want : ByteArray) (x : Vl) (uc ua up : Value) (w : World) (h : Blk.Is w bw 32 #[.string x.kind, .string x.txt, .int .i64 x.cnt, .bool x.ye, uc, ua, up]) (hk : (x.kind.toList == want.toList) = true) :
    Calls Tryz.prog 28 #[.pointer none, .string want, .pointer (some ⟨bw, 0, none⟩)] w fun e w' => e = .returned (.bool true) ∧ ∃ n, w' = w.drewN n := by
  have c0 := h.at (i := 0) (v := .string x.kind) rfl
  clear h
  generalize x.kind = K at *
  go_enter Tryz.func28, Tryz.ntmps28
  go_wp2_with fail
  go_ret
  exact ⟨rfl, 0, rfl⟩
theorem kind_size (x : Vl) : x.kind.size ≤ 8 := by cases x <;> simp [Vl.kind, ByteArray.size]
set_option maxRecDepth 100000 in
set_option maxHeartbeats 2000000 in
/-- right: of another kind: just that Wrong was told. -/
theorem right_no (bw b : Nat) (want : ByteArray) (x : Vl) (uc ua up : Value) (w : World) (h : Blk.Is w bw 32 #[.string x.kind, .string x.txt, .int .i64 x.cnt, .bool x.ye, uc, ua, up]) (hb : Blk.Is w b 56 #[.string want, .string x.kind]) (hw : want.size ≤ 1000) (hk : (x.kind.toList == want.toList) = false) :
    Calls Tryz.prog 28 #[.pointer (some ⟨b, 0, none⟩), .string want, .pointer (some ⟨bw, 0, none⟩)] w fun e w' => e = .returned (.bool true) ∧ ∃ n, w' = w.drewN n := by
  have c0 := h.at (i := 0) (v := .string x.kind) rfl
  have c1 := hb.at (i := 0) (v := .string want) rfl
  have c2 := hb.at (i := 1) (v := .string x.kind) rfl
  have hsz := kind_size x
  clear h
  generalize x.kind = K at *
  have ce : ∀ n, Calls Tryz.prog 29 #[.pointer (some ⟨b, 0, none⟩)] (w.drewN n) fun e w' => e = .returned (.string (says want K)) ∧ ∃ m, w' = w.drewN m := fun n =>
    (error_any b want K (w.drewN n) hb hw (by omega)).mono fun e w' ⟨h1, m, h2⟩ => ⟨h1, n + m, by rw [h2, World.drewN_drewN]⟩
  have CE := Lib.hid ce
  clear ce
  have b1 : (⟨#[119, 97, 110, 116, 32]⟩ : ByteArray).size = 5 := rfl
  have b2 : (⟨#[44, 32, 103, 111, 116, 32]⟩ : ByteArray).size = 6 := rfl
  have s1 := fun w => run_string_add_sum (P := Tryz.prog) w ⟨#[119, 97, 110, 116, 32]⟩ want (by omega)
  have s2 := fun w => run_string_add_sum (P := Tryz.prog) w (⟨#[119, 97, 110, 116, 32]⟩ ++ want) ⟨#[44, 32, 103, 111, 116, 32]⟩ (by simp only [ByteArray.size_append]; omega)
  have s3 := fun w => run_string_add_sum (P := Tryz.prog) w (⟨#[119, 97, 110, 116, 32]⟩ ++ want ++ ⟨#[44, 32, 103, 111, 116, 32]⟩) K (by simp only [ByteArray.size_append]; omega)
  have hee : ((says want K).toList == (⟨#[119, 97, 110, 116, 32]⟩ ++ want ++ ⟨#[44, 32, 103, 111, 116, 32]⟩ ++ K : ByteArray).toList) = true := beq_self_eq_true _
  generalize says want K = T at *
  clear b1 b2 hb
  go_enter Tryz.func28, Tryz.ntmps28
  go_wp2_with fail
  go_quiet ((with_reducible exact CE.out _))
  go_wp2_with fail
  go_ret
  exact ⟨rfl, _, rfl⟩
-- SECOND HALF
/-- That right says yes of what Try told. -/
def RightOK (B : Nat) (r : Value) (want : ByteArray) (x : Vl) (u : World) : Prop :=
  ((x.kind.toList == want.toList) = true ∧ r = .pointer none) ∨ ((x.kind.toList == want.toList) = false ∧ ∃ b, r = .pointer (some ⟨b, 0, none⟩) ∧ Blk.Is u b 56 #[.string want, .string x.kind] ∧ B ≤ b)
theorem RightOK.on {B : Nat} {r : Value} {want : ByteArray} {x : Vl} {u u' : World} (h : RightOK B r want x u) (hc : Blk.Chg (fun k => k < B) u u') : RightOK B r want x u' := by
  rcases h with h | ⟨h1, b, h2, h3, h4⟩
  · exact .inl h
  · exact .inr ⟨h1, b, h2, (hc.block _ h3.lt (by omega)).trans h3, h4⟩
theorem right_any (B bw : Nat) (r : Value) (want : ByteArray) (x : Vl) (uc ua up : Value) (w : World) (h : Blk.Is w bw 32 #[.string x.kind, .string x.txt, .int .i64 x.cnt, .bool x.ye, uc, ua, up]) (hw : want.size ≤ 1000) (hr : RightOK B r want x w) :
    Calls Tryz.prog 28 #[r, .string want, .pointer (some ⟨bw, 0, none⟩)] w fun e w' => e = .returned (.bool true) ∧ ∃ n, w' = w.drewN n := by
  rcases hr with ⟨h1, rfl⟩ | ⟨h1, b, rfl, h3, _⟩
  · exact right_yes bw want x uc ua up w h h1
  · exact right_no bw b want x uc ua up w h h3 hw h1
theorem isT_yes {B : Nat} {w : World} {iv : Value} {x : Vl} (h : VAt B w iv x) (hx : x.isT = true) : iv = .iface 9 (.string x.txt) := by
  cases x <;> first
    | exact h
    | (cases hx)
theorem isT_no {x : Vl} (hx : x.isT = false) : (.string x.txt : Value) = .string ⟨#[]⟩ := by
  cases x <;> first
    | rfl
    | (cases hx)
set_option maxRecDepth 100000 in
theorem l8must1_yes (p q : Nat) (iv : Value) (x : Vl) (w : World) (he : iv = .iface 9 (.string x.txt)) (hp : Blk.Is w p 30 #[iv]) (hq : Blk.Is w q 9 #[.string ⟨#[]⟩]) :
    Calls Tryz.prog 22 #[.pointer (some ⟨p, 0, none⟩), .pointer (some ⟨q, 0, none⟩)] w fun e w' => e = .returned (.tuple #[]) ∧ ∃ W, Below w.heap.size w W ∧ w' = W.setCell ⟨q, 0, none⟩ (.string x.txt) := by
  subst he
  have c := mustText_yes (.string x.txt) w
  have c0 := hp.at (i := 0) rfl
  generalize x.txt = X at *
  go_enter Tryz.func22, Tryz.ntmps22
  go_wp2_with fail
  refine c.mono ?_
  rintro e W ⟨rfl, kb⟩
  have hi : Blk.Is W q 9 #[.string ⟨#[]⟩] := (kb.block _ hq.lt).trans hq
  have c1 := hi.at (i := 0) rfl
  have c2 := hi.free 0
  clear c hi hp hq
  have KB := Lib.hid kb
  clear kb
  go_wp2_with fail
  go_end0
  exact ⟨rfl, _, KB.out, rfl⟩
set_option maxRecDepth 100000 in
theorem l8must1_no (p q : Nat) (iv : Value) (x : Vl) (B : Nat) (w0 w : World) (hv : VAt B w0 iv x) (he : x.isT = false) (hp : Blk.Is w p 30 #[iv]) :
    Calls Tryz.prog 22 #[.pointer (some ⟨p, 0, none⟩), .pointer (some ⟨q, 0, none⟩)] w fun e w' => Wr w ⟨#[116, 101, 120, 116]⟩ x.kind e w' := by
  have c := mustText_no iv hv.ok (by rw [(as_text_x hv).2]; exact he) w
  rw [hv.kindI] at c
  have c0 := hp.at (i := 0) rfl
  clear hv hp
  generalize x.kind = K at *
  go_enter Tryz.func22, Tryz.ntmps22
  go_wp2_with fail
  refine c.mono ?_
  rintro e w' hw
  have k := hw
  obtain ⟨b, rfl, _⟩ := hw
  unfold wrongAt at k ⊢
  clear c
  go_wp2_with fail
  exact ⟨rfl, k⟩
/-- Try of it. -/
theorem l8must1_try (p q : Nat) (iv : Value) (x : Vl) (B N : Nat) (w0 w : World) (hv : VAt B w0 iv x) (hN : N ≤ w.heap.size) (hqN : q < N) (hp : Blk.Is w p 30 #[iv]) (hq : Blk.Is w q 9 #[.string ⟨#[]⟩]) :
    Calls Tryz.prog 21 #[.func (.func 22) #[] #[.pointer (some ⟨p, 0, none⟩), .pointer (some ⟨q, 0, none⟩)]] w fun e w' => ∃ r, e = .returned r ∧ Blk.Is w' q 9 #[.string x.txt] ∧ Blk.Chg (fun k => k = q) w w' ∧ RightOK N r ⟨#[116, 101, 120, 116]⟩ x w' := by
  have hk := kind_isT x
  have hB0 : Below w.heap.size w (w.alloc (.cells #[.pointer none] 51)) := (Below.refl _ _).alloc (Nat.le_refl _) _
  have hi0 := Blk.Is.new w 51 #[.pointer none]
  cases hx : x.isT with
  | true =>
    have he := isT_yes hv hx
    refine (try_ok 22 _ Tryz.call22 w (fun W' => Blk.Is W' q 9 #[.string x.txt] ∧ Blk.Chg (fun k => k = q) w W') ?_).mono ?_
    · refine (l8must1_yes p q iv x _ he (hp.alloc _) (hq.alloc _)).mono ?_
      rintro e w' ⟨rfl, W, hb, rfl⟩
      have hne : w.heap.size ≠ q := by have := hq.lt; omega
      have hqW : Blk.Is W q 9 #[.string ⟨#[]⟩] := (hb.block _ (hq.alloc (.cells #[.pointer none] 51)).lt).trans (hq.alloc _)
      refine ⟨rfl, (Blk.Is.setOther ((hb.block _ hi0.lt).trans hi0) _ hne), hqW.set 0 _, ?_⟩
      exact (Blk.Chg.ofBelow' (S := fun k => k = q) (hB0.trans (hb.mono hB0.size))).setAt rfl
    · rintro e w' ⟨rfl, W', ⟨h1, h2⟩, rfl⟩
      have hne : w.heap.size ≠ q := by have := hq.lt; omega
      refine ⟨_, rfl, h1.setOther _ (Ne.symm hne), h2.setCell' (p := ⟨w.heap.size, 0, none⟩) (Nat.le_refl _) _, .inl ⟨?_, rfl⟩⟩
      rw [Lib.toList_data ⟨#[116, 101, 120, 116]⟩]
      show (x.kind.toList == [116, 101, 120, 116]) = true
      rw [hk, hx]
  | false =>
    have e0 := isT_no hx
    refine (try_wr 22 _ Tryz.call22 w _ _ fun W hW => l8must1_no p q iv x B w0 W hv hx ((hW.block _ hp.lt).trans hp)).mono ?_
    rintro e w' ⟨b, rfl, h1, h2, h3⟩
    refine ⟨_, rfl, by rw [e0]; exact (h3.block _ hq.lt).trans hq, Blk.Chg.ofBelow' h3, .inr ⟨?_, b, rfl, h1, by omega⟩⟩
    rw [Lib.toList_data ⟨#[116, 101, 120, 116]⟩]
    show (x.kind.toList == [116, 101, 120, 116]) = false
    rw [hk, hx]
theorem isN_yes {B : Nat} {w : World} {iv : Value} {x : Vl} (h : VAt B w iv x) (hx : x.isN = true) : iv = .iface 3 (.int .i64 x.cnt) := by
  cases x <;> first
    | exact h
    | (cases hx)
theorem isN_no {x : Vl} (hx : x.isN = false) : (.int .i64 x.cnt : Value) = .int .i64 0 := by
  cases x <;> first
    | rfl
    | (cases hx)
set_option maxRecDepth 100000 in
theorem l8must2_yes (p q : Nat) (iv : Value) (x : Vl) (w : World) (he : iv = .iface 3 (.int .i64 x.cnt)) (hp : Blk.Is w p 30 #[iv]) (hq : Blk.Is w q 3 #[.int .i64 0]) :
    Calls Tryz.prog 24 #[.pointer (some ⟨p, 0, none⟩), .pointer (some ⟨q, 0, none⟩)] w fun e w' => e = .returned (.tuple #[]) ∧ ∃ W, Below w.heap.size w W ∧ w' = W.setCell ⟨q, 0, none⟩ (.int .i64 x.cnt) := by
  subst he
  have c := mustCount_yes (.int .i64 x.cnt) w
  have c0 := hp.at (i := 0) rfl
  generalize x.cnt = X at *
  go_enter Tryz.func24, Tryz.ntmps24
  go_wp2_with fail
  refine c.mono ?_
  rintro e W ⟨rfl, kb⟩
  have hi : Blk.Is W q 3 #[.int .i64 0] := (kb.block _ hq.lt).trans hq
  have c1 := hi.at (i := 0) rfl
  have c2 := hi.free 0
  clear c hi hp hq
  have KB := Lib.hid kb
  clear kb
  go_wp2_with fail
  go_end0
  exact ⟨rfl, _, KB.out, rfl⟩
set_option maxRecDepth 100000 in
theorem l8must2_no (p q : Nat) (iv : Value) (x : Vl) (B : Nat) (w0 w : World) (hv : VAt B w0 iv x) (he : x.isN = false) (hp : Blk.Is w p 30 #[iv]) :
    Calls Tryz.prog 24 #[.pointer (some ⟨p, 0, none⟩), .pointer (some ⟨q, 0, none⟩)] w fun e w' => Wr w ⟨#[99, 111, 117, 110, 116]⟩ x.kind e w' := by
  have c := mustCount_no iv hv.ok (by rw [(as_count_x hv).2]; exact he) w
  rw [hv.kindI] at c
  have c0 := hp.at (i := 0) rfl
  clear hv hp
  generalize x.kind = K at *
  go_enter Tryz.func24, Tryz.ntmps24
  go_wp2_with fail
  refine c.mono ?_
  rintro e w' hw
  have k := hw
  obtain ⟨b, rfl, _⟩ := hw
  unfold wrongAt at k ⊢
  clear c
  go_wp2_with fail
  exact ⟨rfl, k⟩
/-- Try of it. -/
theorem l8must2_try (p q : Nat) (iv : Value) (x : Vl) (B N : Nat) (w0 w : World) (hv : VAt B w0 iv x) (hN : N ≤ w.heap.size) (hqN : q < N) (hp : Blk.Is w p 30 #[iv]) (hq : Blk.Is w q 3 #[.int .i64 0]) :
    Calls Tryz.prog 21 #[.func (.func 24) #[] #[.pointer (some ⟨p, 0, none⟩), .pointer (some ⟨q, 0, none⟩)]] w fun e w' => ∃ r, e = .returned r ∧ Blk.Is w' q 3 #[.int .i64 x.cnt] ∧ Blk.Chg (fun k => k = q) w w' ∧ RightOK N r ⟨#[99, 111, 117, 110, 116]⟩ x w' := by
  have hk := kind_isN x
  have hB0 : Below w.heap.size w (w.alloc (.cells #[.pointer none] 51)) := (Below.refl _ _).alloc (Nat.le_refl _) _
  have hi0 := Blk.Is.new w 51 #[.pointer none]
  cases hx : x.isN with
  | true =>
    have he := isN_yes hv hx
    refine (try_ok 24 _ Tryz.call24 w (fun W' => Blk.Is W' q 3 #[.int .i64 x.cnt] ∧ Blk.Chg (fun k => k = q) w W') ?_).mono ?_
    · refine (l8must2_yes p q iv x _ he (hp.alloc _) (hq.alloc _)).mono ?_
      rintro e w' ⟨rfl, W, hb, rfl⟩
      have hne : w.heap.size ≠ q := by have := hq.lt; omega
      have hqW : Blk.Is W q 3 #[.int .i64 0] := (hb.block _ (hq.alloc (.cells #[.pointer none] 51)).lt).trans (hq.alloc _)
      refine ⟨rfl, (Blk.Is.setOther ((hb.block _ hi0.lt).trans hi0) _ hne), hqW.set 0 _, ?_⟩
      exact (Blk.Chg.ofBelow' (S := fun k => k = q) (hB0.trans (hb.mono hB0.size))).setAt rfl
    · rintro e w' ⟨rfl, W', ⟨h1, h2⟩, rfl⟩
      have hne : w.heap.size ≠ q := by have := hq.lt; omega
      refine ⟨_, rfl, h1.setOther _ (Ne.symm hne), h2.setCell' (p := ⟨w.heap.size, 0, none⟩) (Nat.le_refl _) _, .inl ⟨?_, rfl⟩⟩
      rw [Lib.toList_data ⟨#[99, 111, 117, 110, 116]⟩]
      show (x.kind.toList == [99, 111, 117, 110, 116]) = true
      rw [hk, hx]
  | false =>
    have e0 := isN_no hx
    refine (try_wr 24 _ Tryz.call24 w _ _ fun W hW => l8must2_no p q iv x B w0 W hv hx ((hW.block _ hp.lt).trans hp)).mono ?_
    rintro e w' ⟨b, rfl, h1, h2, h3⟩
    refine ⟨_, rfl, by rw [e0]; exact (h3.block _ hq.lt).trans hq, Blk.Chg.ofBelow' h3, .inr ⟨?_, b, rfl, h1, by omega⟩⟩
    rw [Lib.toList_data ⟨#[99, 111, 117, 110, 116]⟩]
    show (x.kind.toList == [99, 111, 117, 110, 116]) = false
    rw [hk, hx]
theorem isY_yes {B : Nat} {w : World} {iv : Value} {x : Vl} (h : VAt B w iv x) (hx : x.isY = true) : iv = .iface 4 (.bool x.ye) := by
  cases x <;> first
    | exact h
    | (cases hx)
theorem isY_no {x : Vl} (hx : x.isY = false) : (.bool x.ye : Value) = .bool false := by
  cases x <;> first
    | rfl
    | (cases hx)
set_option maxRecDepth 100000 in
theorem l8must3_yes (p q : Nat) (iv : Value) (x : Vl) (w : World) (he : iv = .iface 4 (.bool x.ye)) (hp : Blk.Is w p 30 #[iv]) (hq : Blk.Is w q 4 #[.bool false]) :
    Calls Tryz.prog 26 #[.pointer (some ⟨p, 0, none⟩), .pointer (some ⟨q, 0, none⟩)] w fun e w' => e = .returned (.tuple #[]) ∧ ∃ W, Below w.heap.size w W ∧ w' = W.setCell ⟨q, 0, none⟩ (.bool x.ye) := by
  subst he
  have c := mustYes_yes (.bool x.ye) w
  have c0 := hp.at (i := 0) rfl
  generalize x.ye = X at *
  go_enter Tryz.func26, Tryz.ntmps26
  go_wp2_with fail
  refine c.mono ?_
  rintro e W ⟨rfl, kb⟩
  have hi : Blk.Is W q 4 #[.bool false] := (kb.block _ hq.lt).trans hq
  have c1 := hi.at (i := 0) rfl
  have c2 := hi.free 0
  clear c hi hp hq
  have KB := Lib.hid kb
  clear kb
  go_wp2_with fail
  go_end0
  exact ⟨rfl, _, KB.out, rfl⟩
set_option maxRecDepth 100000 in
theorem l8must3_no (p q : Nat) (iv : Value) (x : Vl) (B : Nat) (w0 w : World) (hv : VAt B w0 iv x) (he : x.isY = false) (hp : Blk.Is w p 30 #[iv]) :
    Calls Tryz.prog 26 #[.pointer (some ⟨p, 0, none⟩), .pointer (some ⟨q, 0, none⟩)] w fun e w' => Wr w ⟨#[121, 101, 115]⟩ x.kind e w' := by
  have c := mustYes_no iv hv.ok (by rw [(as_yes_x hv).2]; exact he) w
  rw [hv.kindI] at c
  have c0 := hp.at (i := 0) rfl
  clear hv hp
  generalize x.kind = K at *
  go_enter Tryz.func26, Tryz.ntmps26
  go_wp2_with fail
  refine c.mono ?_
  rintro e w' hw
  have k := hw
  obtain ⟨b, rfl, _⟩ := hw
  unfold wrongAt at k ⊢
  clear c
  go_wp2_with fail
  exact ⟨rfl, k⟩
/-- Try of it. -/
theorem l8must3_try (p q : Nat) (iv : Value) (x : Vl) (B N : Nat) (w0 w : World) (hv : VAt B w0 iv x) (hN : N ≤ w.heap.size) (hqN : q < N) (hp : Blk.Is w p 30 #[iv]) (hq : Blk.Is w q 4 #[.bool false]) :
    Calls Tryz.prog 21 #[.func (.func 26) #[] #[.pointer (some ⟨p, 0, none⟩), .pointer (some ⟨q, 0, none⟩)]] w fun e w' => ∃ r, e = .returned r ∧ Blk.Is w' q 4 #[.bool x.ye] ∧ Blk.Chg (fun k => k = q) w w' ∧ RightOK N r ⟨#[121, 101, 115]⟩ x w' := by
  have hk := kind_isY x
  have hB0 : Below w.heap.size w (w.alloc (.cells #[.pointer none] 51)) := (Below.refl _ _).alloc (Nat.le_refl _) _
  have hi0 := Blk.Is.new w 51 #[.pointer none]
  cases hx : x.isY with
  | true =>
    have he := isY_yes hv hx
    refine (try_ok 26 _ Tryz.call26 w (fun W' => Blk.Is W' q 4 #[.bool x.ye] ∧ Blk.Chg (fun k => k = q) w W') ?_).mono ?_
    · refine (l8must3_yes p q iv x _ he (hp.alloc _) (hq.alloc _)).mono ?_
      rintro e w' ⟨rfl, W, hb, rfl⟩
      have hne : w.heap.size ≠ q := by have := hq.lt; omega
      have hqW : Blk.Is W q 4 #[.bool false] := (hb.block _ (hq.alloc (.cells #[.pointer none] 51)).lt).trans (hq.alloc _)
      refine ⟨rfl, (Blk.Is.setOther ((hb.block _ hi0.lt).trans hi0) _ hne), hqW.set 0 _, ?_⟩
      exact (Blk.Chg.ofBelow' (S := fun k => k = q) (hB0.trans (hb.mono hB0.size))).setAt rfl
    · rintro e w' ⟨rfl, W', ⟨h1, h2⟩, rfl⟩
      have hne : w.heap.size ≠ q := by have := hq.lt; omega
      refine ⟨_, rfl, h1.setOther _ (Ne.symm hne), h2.setCell' (p := ⟨w.heap.size, 0, none⟩) (Nat.le_refl _) _, .inl ⟨?_, rfl⟩⟩
      rw [Lib.toList_data ⟨#[121, 101, 115]⟩]
      show (x.kind.toList == [121, 101, 115]) = true
      rw [hk, hx]
  | false =>
    have e0 := isY_no hx
    refine (try_wr 26 _ Tryz.call26 w _ _ fun W hW => l8must3_no p q iv x B w0 W hv hx ((hW.block _ hp.lt).trans hp)).mono ?_
    rintro e w' ⟨b, rfl, h1, h2, h3⟩
    refine ⟨_, rfl, by rw [e0]; exact (h3.block _ hq.lt).trans hq, Blk.Chg.ofBelow' h3, .inr ⟨?_, b, rfl, h1, by omega⟩⟩
    rw [Lib.toList_data ⟨#[121, 101, 115]⟩]
    show (x.kind.toList == [121, 101, 115]) = false
    rw [hk, hx]
end Va
end Go.Proofs.YtapmpdljapbpeaaGreatDoor
namespace Go.Proofs.YtapmpdljapbpeaaGreatDoor
open Go.RowKit
set_option linter.unusedSimpArgs false
set_option linter.unusedVariables false
namespace Va
open Rl (At Pv Ats Pvs Clss Cls)
/-- Two new blocks. -/
theorem two_new (w : World) (T1 T2 : TypeId) (C1 C2 : Array Value) : ∃ W, (w.alloc (.cells C1 T1)).alloc (.cells C2 T2) = W ∧ Below w.heap.size w W ∧ W.heap.size = w.heap.size + 2 ∧ Blk.Is W w.heap.size T1 C1 ∧ Blk.Is W (w.heap.size + 1) T2 C2 := by
  have s1 : (w.alloc (.cells C1 T1)).heap.size = w.heap.size + 1 := by simp
  have i1 := Blk.Is.new w T1 C1
  have i2 := Blk.Is.new (w.alloc (.cells C1 T1)) T2 C2
  rw [s1] at i2
  exact ⟨_, rfl, ((Below.refl _ _).alloc (Nat.le_refl _) _).alloc (by omega) _, by simp, i1.alloc _, i2⟩
set_option maxRecDepth 100000 in
set_option maxHeartbeats 8000000 in
theorem must_walk (k n : Int) (s : ByteArray) (b : Bool) (vc va vp : Value) (lc : List (List At)) (la : List At) (lp : List Pv) (w : World) (h1 : Clss w vc lc) (h2 : Ats w va la) (h3 : Pvs w vp lp) :
    Calls Tryz.prog 4 #[.agg #[.int .i64 k, .string s, .int .i64 n, .bool b, vc, va, vp]] w fun e w' => e = .returned (.bool true) ∧ Below w.heap.size w w' := by
  have hB0 : Below w.heap.size w (w.alloc (.cells #[.int .i64 k, .string s, .int .i64 n, .bool b, vc, va, vp] 26)) := (Below.refl _ _).alloc (Nat.le_refl _) _
  have hI0 := Blk.Is.new w 26 #[.int .i64 k, .string s, .int .i64 n, .bool b, vc, va, vp]
  have cl := light_any k n s b vc va vp lc la lp _ (h1.below hB0) (h2.below hB0) (h3.below hB0)
  have ca := fun w => awake_any w
  obtain ⟨ac, cc, e1⟩ := h1.shape
  obtain ⟨aa, cc2, e2⟩ := h2.shape
  obtain ⟨ap, cc3, e3⟩ := h3.shape
  subst e1 e2 e3
  have H := Lib.hid (⟨h1, h2, h3⟩ : _ ∧ _ ∧ _)
  clear h1 h2 h3
  cases hG : light8 lc la lp with
  | false =>
    rw [hG] at cl
    clear hG H
    go_enter Tryz.func4, Tryz.ntmps4
    go_wp2_with fail
    refine cl.mono ?_
    rintro e w1 ⟨rfl, k1⟩
    have b1 := hB0.trans (k1.mono hB0.size)
    clear cl k1 hB0 hI0
    go_wp2_with fail
    refine (ca _).mono ?_
    rintro e w2 ⟨rfl, k2⟩
    have b2 := b1.trans (k2.mono b1.size)
    clear b1 k2 ca
    go_wp2_with fail
    go_ret
    exact ⟨rfl, b2⟩
  | true =>
    rw [hG] at cl
    have hcnt := light8_cnt hG
    clear hG
    go_enter Tryz.func4, Tryz.ntmps4
    go_wp2_with fail
    refine cl.mono ?_
    rintro e w1 ⟨rfl, k1⟩
    have b1 := hB0.trans (k1.mono hB0.size)
    have i1 : Blk.Is w1 w.heap.size 26 #[.int .i64 k, .string s, .int .i64 n, .bool b, .slice ac lc.length cc, .slice aa la.length cc2, .slice ap lp.length cc3] := (k1.block _ hI0.lt).trans hI0
    have hH : Has w1 (.slice ac lc.length cc) (.slice aa la.length cc2) (.slice ap lp.length cc3) lc la lp := ⟨⟨H.out.1.below b1, hcnt.1⟩, ⟨H.out.2.1.below b1, hcnt.2.1⟩, ⟨H.out.2.2.below b1, hcnt.2.2⟩⟩
    have cm := made_any k s n b _ _ _ lc la lp w1 hH
    have hsm := small_mk (k := k) (s := s) (n := n) (b := b) hcnt
    clear cl k1 hB0 hI0 hH H hcnt
    generalize mk k s n b lc la lp = x at *
    have c0 := i1.at (i := 0) rfl
    have c1 := i1.at (i := 1) rfl
    have c2 := i1.at (i := 2) rfl
    have c3 := i1.at (i := 3) rfl
    have c4 := i1.at (i := 4) rfl
    have c5 := i1.at (i := 5) rfl
    have c6 := i1.at (i := 6) rfl
    clear i1
    go_wp2_with fail
    refine cm.mono ?_
    rintro e w2 ⟨iv, rv, rfl, hV, ⟨uc, ua, up, rfl, hC, hA, hP⟩, k2⟩
    have b2 := b1.trans (k2.mono b1.size)
    clear b1 k2 cm c0 c1 c2 c3 c4 c5 c6
    obtain ⟨d1, d2, e1⟩ := hC.shape
    obtain ⟨d3, d4, e2⟩ := hA.shape
    obtain ⟨d5, d6, e3⟩ := hP.shape
    subst e1 e2 e3
    have ho := hV.one
    have hi1 : (Tryz.prog.info? 30).map (·.size) = some 1 := by kernel_rfl
    have hi7 : (Tryz.prog.info? 32).map (·.size) = some 7 := by kernel_rfl
    obtain ⟨W, hW, hbW, hsW, hI1, hI2⟩ := two_new w2 30 32 #[.nilIface] #[.string ⟨#[]⟩, .string ⟨#[]⟩, .int .i64 0, .bool false, .slice none 0 0, .slice none 0 0, .slice none 0 0]
    have hI3 : Blk.Is (W.setRow w2.heap.size #[iv]) (w2.heap.size + 1) 32 #[.string ⟨#[]⟩, .string ⟨#[]⟩, .int .i64 0, .bool false, .slice none 0 0, .slice none 0 0, .slice none 0 0] := hI2.rowOther _ (by omega)
    have HI := Lib.hid (⟨hI1, hI3⟩ : _ ∧ _)
    have HBW := Lib.hid (⟨hbW, hsW⟩ : _ ∧ _)
    have HV := Lib.hid (⟨hV, hC, hA, hP⟩ : _ ∧ _ ∧ _ ∧ _)
    clear hV hC hA hP hbW hsW hI1 hI2 hI3
    obtain ⟨W3, hW3⟩ : ∃ W3, (W.setRow w2.heap.size #[iv]).setRow (w2.heap.size + 1) #[.string x.kind, .string x.txt, .int .i64 x.cnt, .bool x.ye, .slice d1 x.cls.length d2, .slice d3 x.ats.length d4, .slice d5 x.pvs.length d6] = W3 := ⟨_, rfl⟩
    have j1 : Blk.Is W3 w2.heap.size 30 #[iv] := by rw [← hW3]; exact (HI.out.1.row _).rowOther _ (by omega)
    have j2 : Blk.Is W3 (w2.heap.size + 1) 32 #[.string x.kind, .string x.txt, .int .i64 x.cnt, .bool x.ye, .slice d1 x.cls.length d2, .slice d3 x.ats.length d4, .slice d5 x.pvs.length d6] := by rw [← hW3]; exact HI.out.2.row _
    have q2 : Below w2.heap.size w2 W3 := by rw [← hW3]; exact below_row (below_row HBW.out.1 (Nat.le_refl _) _) (Nat.le_succ _) _
    have b3 := b2.trans (q2.mono b2.size)
    have hV := HV.out.1.below q2
    have HY := Lib.hid (⟨HV.out.2.1.below q2, HV.out.2.2.1.below q2, HV.out.2.2.2.below q2⟩ : _ ∧ _ ∧ _)
    have hmf : ∀ (fn : Fn) (first cap : Array Value) (w : World), (Instr.makeFunc fn first cap).run Tryz.prog w = .ok (.func fn first cap) w := fun _ _ _ _ => rfl
    obtain ⟨W4, hW4, hb4, hs4, p1, p2, p3⟩ := three_new W3 9 3 4 #[.string ⟨#[]⟩] #[.int .i64 0] #[.bool false]
    have b4 := b3.trans (hb4.mono b3.size)
    have j1 := Rl.is_on j1 hb4
    have j2 := Rl.is_on j2 hb4
    have hlt1 : w2.heap.size + 1 < W3.heap.size := by have := q2.size; have := HBW.out.2; have h7 : W3.heap.size = W.heap.size := by rw [← hW3]; simp
                                                      omega
    have t1 := l8must1_try w2.heap.size W3.heap.size iv x _ W4.heap.size _ W4 hV (Nat.le_refl _) (by omega) j1 p1
    have HF := Lib.hid (⟨hV, hs4, hlt1⟩ : _ ∧ _ ∧ _)
    have HB4 := Lib.hid b4
    have HLE := Lib.hid b3.size
    have HW4 := Lib.hid hW4
    clear q2 b2 b3 hV hs4 hlt1 b4 hW4
    go_wp2_with (first | (refine wpList_store_row rfl 30 (.tmp 3) (.tmp 19) rfl w2.heap.size #[iv] rfl rfl 30 #[.nilIface] HI.out.1 hi1 (by rfl) (by simp [ho]) ?_) | (refine wpList_store_row rfl 32 (.tmp 4) (.tmp 20) rfl (w2.heap.size + 1) #[.string x.kind, .string x.txt, .int .i64 x.cnt, .bool x.ye, .slice d1 x.cls.length d2, .slice d3 x.ats.length d4, .slice d5 x.pvs.length d6] rfl rfl 32 #[.string ⟨#[]⟩, .string ⟨#[]⟩, .int .i64 0, .bool false, .slice none 0 0, .slice none 0 0, .slice none 0 0] HI.out.2 hi7 (by rfl) (by simp [Value.oneCell']) ?_))
    rw [HW4.out]
    clear hW hW3 HW4 hb4 HV HBW HI hi1 hi7 HY
    refine t1.mono ?_
    rintro e w5 ⟨r1, rfl, p1', g1, ok1⟩
    have s5 := g1.size
    have j1 := g1.is j1 (by have := HF.out.2.2; omega)
    have j2 := g1.is j2 (by have := HF.out.2.2; omega)
    have p2 := g1.is p2 (by omega)
    have p3 := g1.is p3 (by omega)
    have t2 := l8must2_try w2.heap.size (W3.heap.size + 1) iv x _ W4.heap.size _ w5 HF.out.1 s5 (by have := HF.out.2.1; omega) j1 p2
    have G1 := Lib.hid g1
    clear t1 p1 g1
    go_wp2_with fail
    refine t2.mono ?_
    rintro e w6 ⟨r2, rfl, p2', g2, ok2⟩
    have s6 := g2.size
    have j1 := g2.is j1 (by have := HF.out.2.2; omega)
    have j2 := g2.is j2 (by have := HF.out.2.2; omega)
    have p1' := g2.is p1' (by omega)
    have p3 := g2.is p3 (by omega)
    have ok1 := ok1.on (g2.mono fun k _ hk => by have := HF.out.2.1; omega)
    have t3 := l8must3_try w2.heap.size (W3.heap.size + 1 + 1) iv x _ W4.heap.size _ w6 HF.out.1 (Nat.le_trans s5 s6) (by have := HF.out.2.1; omega) j1 p3
    have G2 := Lib.hid g2
    clear t2 p2 g2
    go_wp2_with fail
    refine t3.mono ?_
    rintro e w7 ⟨r3, rfl, p3', g3, ok3⟩
    have s7 := g3.size
    have j2 := g3.is j2 (by have := HF.out.2.2; omega)
    have p1' := g3.is p1' (by omega)
    have p2' := g3.is p2' (by omega)
    have ok1 := ok1.on (g3.mono fun k _ hk => by have := HF.out.2.1; omega)
    have ok2 := ok2.on (g3.mono fun k _ hk => by have := HF.out.2.1; omega)
    have b7 : Below w.heap.size w w7 := by
      have c1 := G1.out.mono (S' := fun k => W3.heap.size ≤ k) fun k _ hk => by omega
      have c2 := G2.out.mono (S' := fun k => W3.heap.size ≤ k) fun k _ hk => by omega
      have c3 := g3.mono (S' := fun k => W3.heap.size ≤ k) fun k _ hk => by omega
      have c := (c1.trans c2).trans c3
      have hw := HB4.out
      have hle : w.heap.size ≤ W3.heap.size := HLE.out
      exact ⟨c.os.trans hw.os, c.tape.trans hw.tape, c.output.trans hw.output, Nat.le_trans hw.size c.size, fun k hk => (c.block k (Nat.lt_of_lt_of_le hk hw.size) (by omega)).trans (hw.block k hk)⟩
    clear t3 p3 j1 g3 G1 G2 HF HB4 s5 s6 s7 ho
    have R1 := right_any W4.heap.size (w2.heap.size + 1) r1 ⟨#[116, 101, 120, 116]⟩ x _ _ _ w7 j2 (by decide) ok1
    have J := Lib.hid (⟨j2, p1', p2', p3', ok2, ok3⟩ : _ ∧ _ ∧ _ ∧ _ ∧ _ ∧ _)
    clear j2 p1' p2' p3' ok1 ok2 ok3
    go_wp2_with fail
    refine R1.mono ?_
    rintro e w8 ⟨rfl, n8, rfl⟩
    have b8 := b7.trans ((below_drewN w7 n8).mono b7.size)
    have q8 := below_drewN w7 n8
    have J8 := Lib.hid (⟨Rl.is_on J.out.1 q8, Rl.is_on J.out.2.1 q8, Rl.is_on J.out.2.2.1 q8, Rl.is_on J.out.2.2.2.1 q8, J.out.2.2.2.2.1.on (chg_below q8), J.out.2.2.2.2.2.on (chg_below q8)⟩ : _ ∧ _ ∧ _ ∧ _ ∧ _ ∧ _)
    have R2 := right_any W4.heap.size (w2.heap.size + 1) r2 ⟨#[99, 111, 117, 110, 116]⟩ x _ _ _ (w7.drewN n8) J8.out.1 (by decide) J8.out.2.2.2.2.1
    clear R1 b7 J q8
    generalize w7.drewN n8 = w8 at *
    go_wp2_with fail
    refine R2.mono ?_
    rintro e w9 ⟨rfl, n9, rfl⟩
    have b9 := b8.trans ((below_drewN w8 n9).mono b8.size)
    have q9 := below_drewN w8 n9
    have J9 := Lib.hid (⟨Rl.is_on J8.out.1 q9, Rl.is_on J8.out.2.1 q9, Rl.is_on J8.out.2.2.1 q9, Rl.is_on J8.out.2.2.2.1 q9, J8.out.2.2.2.2.1.on (chg_below q9), J8.out.2.2.2.2.2.on (chg_below q9)⟩ : _ ∧ _ ∧ _ ∧ _ ∧ _ ∧ _)
    have R3 := right_any W4.heap.size (w2.heap.size + 1) r3 ⟨#[121, 101, 115]⟩ x _ _ _ (w8.drewN n9) J9.out.1 (by decide) J9.out.2.2.2.2.2
    clear R2 b8 J8 q9
    generalize w8.drewN n9 = w9 at *
    go_wp2_with fail
    refine R3.mono ?_
    rintro e wa ⟨rfl, na, rfl⟩
    have ba := b9.trans ((below_drewN w9 na).mono b9.size)
    have v1 : (w9.drewN na).cell? ⟨W3.heap.size, 0, none⟩ = some (.string x.txt) := J9.out.2.1.at (i := 0) rfl
    have v2 : (w9.drewN na).cell? ⟨W3.heap.size + 1, 0, none⟩ = some (.int .i64 x.cnt) := J9.out.2.2.1.at (i := 0) rfl
    have v3 : (w9.drewN na).cell? ⟨W3.heap.size + 1 + 1, 0, none⟩ = some (.bool x.ye) := J9.out.2.2.2.1.at (i := 0) rfl
    have y1 : (w9.drewN na).cell? ⟨w2.heap.size + 1, 1, none⟩ = some (.string x.txt) := J9.out.1.at (i := 1) rfl
    have y2 : (w9.drewN na).cell? ⟨w2.heap.size + 1, 2, none⟩ = some (.int .i64 x.cnt) := J9.out.1.at (i := 2) rfl
    have y3 : (w9.drewN na).cell? ⟨w2.heap.size + 1, 3, none⟩ = some (.bool x.ye) := J9.out.1.at (i := 3) rfl
    clear R3 b9 J9
    generalize w9.drewN na = wb at *
    generalize x.txt = X1 at *
    generalize x.cnt = X2 at *
    generalize x.ye = X3 at *
    go_wp2_with fail
    refine (ca _).mono ?_
    rintro e wc ⟨rfl, kc⟩
    have bc := ba.trans (kc.mono ba.size)
    clear kc ba v1 v2 v3 y1 y2 y3
    go_wp2_with fail
    go_ret
    exact ⟨rfl, bc⟩
end Va
end Go.Proofs.YtapmpdljapbpeaaGreatDoor

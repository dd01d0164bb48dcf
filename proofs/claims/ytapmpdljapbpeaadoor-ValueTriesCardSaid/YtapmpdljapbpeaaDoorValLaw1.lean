/-
The walk of the law ValueTries.
-/
import Derived.Test.YtapmpdljapbpeaaDoorValAwake
namespace Go.Proofs.YtapmpdljapbpeaaDoor
open Go.RowKit
set_option linter.unusedSimpArgs false
set_option linter.unusedVariables false
namespace Va
/-- out's own closure: it recovers what Try lets on. -/
theorem out1_any (p : Addr) (s : ByteArray) (x : Value) (older : List PanicEntry) (w : World) (hx : w.cell? p = some x) (hz : w.frozen? p = false) (R : Ending → FrameMode → World → Prop)
    (hR : R (.returned (.tuple #[])) (.panicking ({ v := .iface 9 (.string s), recovered := true } :: older)) (w.setCell p (.string s))) :
    CallsD Tryd.prog 10 #[.pointer (some p)] (.panicking ({ v := .iface 9 (.string s), recovered := false } :: older)) w R := by
  have ha := fun w => as_text (iv := .iface 9 (.string s)) (.inr ⟨_, _, rfl⟩) w
  simp only [asT, asB, if_true, decide_true] at ha
  refine callsD_of_wpS Tryd.func10 rfl fun c₀ cs hu => ?_
  obtain ⟨B, hB⟩ : ∃ B, bodyPostS Tryd.prog Tryd.f10 c₀ cs R = B := ⟨_, rfl⟩
  rw [hB]
  have HB := Lib.hid hB
  clear hB
  have HR := Lib.hid hR
  clear hR
  apply wpS_seq
  apply wpS_region
  simp [wpOpsS, go_sem, recoverD, hu, Tryd.ntmps10, Exit.thenS, ha]
  clear hu
  refine wpS_of_wp ?_
  generalize hQ : (fun (e : Exit) (a' : Act) (w' : World) => B e a' ({ c₀ with mode := _ } :: cs) w') = Q
  have HQ := Lib.hid hQ
  clear hQ
  rw [show (#[Value.pointer (some p)] ++ (((((((Array.replicate 9 undef).setIfInBounds 3 (Value.iface 9 (Value.string s))).setIfInBounds 4 (Value.tuple #[Value.string s, Value.bool true])).setIfInBounds 2 (Value.tuple #[Value.string s, Value.bool true])).setIfInBounds 5 (Value.string s)).setIfInBounds 6 (Value.bool true)).setIfInBounds 0 (Value.string s)).setIfInBounds 1 (Value.bool true) : Array Value) = #[.pointer (some p), .string s, .bool true, .tuple #[.string s, .bool true], .iface 9 (.string s), .tuple #[.string s, .bool true], .string s, .bool true, undef, undef] by kernel_rfl]
  go_wp2_with fail
  rw [← HQ.out]
  show B Exit.normal _ (_ :: cs) _
  rw [← HB.out]
  exact ⟨rfl, _, rfl, .tuple #[], by simp [results, Tryd.results10, go_sem], HR.out⟩
set_option maxRecDepth 100000 in
theorem out2_any (p : Addr) (s : ByteArray) (w : World) (hx : w.cell? p = some (.string s)) :
    Calls Tryd.prog 11 #[.pointer (some p)] w fun e w' => e = .panicked [{ v := .iface 9 (.string s), recovered := false }] ∧ w' = w := by
  go_enter Tryd.func11, Tryd.ntmps11
  go_wp2_with fail
  exact ⟨rfl, rfl, rfl⟩
set_option maxRecDepth 100000 in
set_option maxHeartbeats 1000000 in
/-- What a panic with s comes to, through Try: s. -/
theorem out_any (s : ByteArray) (w : World) : Calls Tryd.prog 7 #[.string s] w fun e w' => e = .returned (.string s) ∧ Below w.heap.size w w' := by
  have hmf : ∀ (fn : Fn) (first cap : Array Value) (w : World), (Instr.makeFunc fn first cap).run Tryd.prog w = .ok (.func fn first cap) w := fun _ _ _ _ => rfl
  have hs1 : (w.alloc (.cells #[.string s] 9)).heap.size = w.heap.size + 1 := by simp
  have hi1 := (Blk.Is.new w 9 #[.string s]).alloc (.cells #[.string ⟨#[]⟩] 9)
  have hi2 := Blk.Is.new (w.alloc (.cells #[.string s] 9)) 9 #[.string ⟨#[]⟩]
  rw [hs1] at hi2
  have hB1 : Below w.heap.size w (w.alloc (.cells #[.string s] 9)) := (Below.refl _ _).alloc (Nat.le_refl _) _
  have hB2 : Below w.heap.size w ((w.alloc (.cells #[.string s] 9)).alloc (.cells #[.string ⟨#[]⟩] 9)) := hB1.alloc hB1.size _
  have ho : ∀ W, W = ((w.alloc (.cells #[.string s] 9)).alloc (.cells #[.string ⟨#[]⟩] 9)) → Calls Tryd.prog 4 #[.func (.func 11) #[] #[.pointer (some ⟨w.heap.size, 0, none⟩)]] W fun e w' => e = .panicked [{ v := .iface 9 (.string s), recovered := false }, { v := .iface 9 (.string s), recovered := true }] ∧ Blk.Is w' (w.heap.size + 1) 9 #[.string ⟨#[]⟩] ∧ Below w.heap.size w w' := by
    rintro W rfl
    refine try_other 11 _ Tryd.call11 9 (.string s) (by decide) _ (fun w' => Blk.Is w' (w.heap.size + 1) 9 #[.string ⟨#[]⟩] ∧ Below w.heap.size w w') ?_
    refine (out2_any _ s _ ((hi1.alloc _).at (i := 0) rfl)).mono ?_
    rintro e w' ⟨rfl, rfl⟩
    exact ⟨rfl, hi2.alloc _, hB2.alloc hB2.size _⟩
  have co := ho _ rfl
  clear ho hi1 hi2 hB1 hB2 hs1
  go_enter_defers Tryd.func7, Tryd.ntmps7
  go_wp2_with fail
  refine co.mono ?_
  rintro e W ⟨rfl, hi, hb⟩
  have hc := hi.at (i := 0) rfl
  have hf := hi.free 0
  have h3 := (hi.set 0 (.string s)).at (i := 0) (v := .string s) rfl
  have HB := Lib.hid (hb.setCell (p := ⟨w.heap.size + 1, 0, none⟩) (Nat.le_succ _) (.string s))
  clear co hi hb
  go_wp2_with fail
  refine leaves_cons (f := 10) (args := #[.pointer (some ⟨w.heap.size + 1, 0, none⟩)]) (by simp) (by simp [go_sem]) ?_
  refine out1_any _ s _ _ _ hc hf _ ?_
  simp [Leaves, settle, results, Tryd.results7, go_sem, h3]
  exact HB.out
set_option maxRecDepth 100000 in
theorem tries1_any (n : Int) (p q : Addr) (x : Value) (w : World) (hp : w.cell? p = some (.int .i64 n)) (hq : w.cell? q = some x) (hz : w.frozen? q = false) :
    Calls Tryd.prog 5 #[.pointer (some p), .pointer (some q)] w fun e w' => e = .returned (.tuple #[]) ∧ w' = w.setCell q (.int .i64 n) := by
  go_enter Tryd.func5, Tryd.ntmps5
  go_wp2_with fail
  go_end0
  exact ⟨rfl, rfl⟩
set_option maxRecDepth 100000 in
theorem error_nil (w : World) : Calls Tryd.prog 6 #[.pointer none] w fun e w' => e = .returned (.string ⟨#[]⟩) ∧ w' = w := by
  go_enter Tryd.func6, Tryd.ntmps6
  go_wp2_with fail
  go_ret
  exact ⟨rfl, rfl⟩
theorem tries_try (n : Int) (w : World) :
    Calls Tryd.prog 4 #[.func (.func 5) #[] #[.pointer (some ⟨w.heap.size, 0, none⟩), .pointer (some ⟨w.heap.size + 1, 0, none⟩)]] ((w.alloc (.cells #[.int .i64 n] 3)).alloc (.cells #[.int .i64 0] 3)) fun e w' =>
      e = .returned (.pointer none) ∧ w'.cell? ⟨w.heap.size, 0, none⟩ = some (.int .i64 n) ∧ w'.cell? ⟨w.heap.size + 1, 0, none⟩ = some (.int .i64 n) ∧ Below w.heap.size w w' := by
  have hs1 : (w.alloc (.cells #[.int .i64 n] 3)).heap.size = w.heap.size + 1 := by simp
  have hs2 : ((w.alloc (.cells #[.int .i64 n] 3)).alloc (.cells #[.int .i64 0] 3)).heap.size = w.heap.size + 2 := by simp
  have hi1 := (Blk.Is.new w 3 #[.int .i64 n]).alloc (.cells #[.int .i64 0] 3)
  have hi2 := Blk.Is.new (w.alloc (.cells #[.int .i64 n] 3)) 3 #[.int .i64 0]
  rw [hs1] at hi2
  have hB1 : Below w.heap.size w (w.alloc (.cells #[.int .i64 n] 3)) := (Below.refl _ _).alloc (Nat.le_refl _) _
  have hB2 : Below w.heap.size w ((w.alloc (.cells #[.int .i64 n] 3)).alloc (.cells #[.int .i64 0] 3)) := hB1.alloc hB1.size _
  generalize (w.alloc (.cells #[.int .i64 n] 3)).alloc (.cells #[.int .i64 0] 3) = W at *
  refine (try_ok 5 _ Tryd.call5 W (fun w' => Blk.Is w' w.heap.size 3 #[.int .i64 n] ∧ Blk.Is w' (w.heap.size + 1) 3 #[.int .i64 n] ∧ Below w.heap.size w w') ?_).mono ?_
  · have hi3 := Blk.Is.new W 22 #[.pointer none]
    refine (tries1_any n _ _ (.int .i64 0) _ ((hi1.alloc _).at (i := 0) rfl) ((hi2.alloc _).at (i := 0) rfl) ((hi2.alloc _).free 0)).mono ?_
    rintro e w' ⟨rfl, rfl⟩
    refine ⟨rfl, hi3.setOther _ (by simp; omega), (hi1.alloc _).setOther _ (by simp), (hi2.alloc _).set 0 _, (hB2.alloc hB2.size _).setCell (Nat.le_succ _) _⟩
  · rintro e w' ⟨rfl, W', ⟨h1, h2, h3⟩, rfl⟩
    exact ⟨rfl, (h1.setOther _ (by simp; omega)).at (i := 0) rfl, (h2.setOther _ (by simp; omega)).at (i := 0) rfl, h3.setCell (by simp; omega) _⟩
set_option maxRecDepth 100000 in
set_option maxHeartbeats 1000000 in
theorem tries_walk (n : Int) (s : ByteArray) (w : World) :
    Calls Tryd.prog 3 #[.int .i64 n, .string s] w fun e w' => e = .returned (.bool true) ∧ Below w.heap.size w w' := by
  have hmf : ∀ (fn : Fn) (first cap : Array Value) (w : World), (Instr.makeFunc fn first cap).run Tryd.prog w = .ok (.func fn first cap) w := fun _ _ _ _ => rfl
  have c1 := tries_try n w
  have c2 := fun w => try_none w
  have c3 := fun w => error_nil w
  have c4 := fun w => out_any s w
  have c5 := fun w => awake_any w
  go_enter Tryd.func3, Tryd.ntmps3
  go_wp2_with fail
  refine c1.mono ?_
  rintro e w1 ⟨rfl, h1, h2, k1⟩
  clear c1
  go_wp2_with fail
  refine (c2 _).mono ?_
  rintro e w2 ⟨rfl, k2⟩
  have b2 := k1.trans (k2.mono k1.size)
  clear k1 k2 c2 h1 h2
  go_wp2_with fail
  refine (c3 _).mono ?_
  rintro e w3 ⟨rfl, rfl⟩
  clear c3
  go_wp2_with fail
  refine (c4 _).mono ?_
  rintro e w4 ⟨rfl, k4⟩
  have b4 := b2.trans (k4.mono b2.size)
  clear b2 k4 c4
  go_wp2_with fail
  refine (c5 _).mono ?_
  rintro e w5 ⟨rfl, k5⟩
  have b5 := b4.trans (k5.mono b4.size)
  clear b4 k5 c5
  go_wp2_with fail
  go_ret
  exact ⟨rfl, b5⟩
end Va
end Go.Proofs.YtapmpdljapbpeaaDoor

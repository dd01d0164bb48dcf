/-
Try: of a function that returns, of one that panics with a Wrong, of one that panics with a text, of none.
-/
import Derived.Test.YtapmpdljapbpeaaDoorValMust
import Derived.Defers
import Derived.Recover
import Derived.Laws.Pointers
namespace Go.Proofs.YtapmpdljapbpeaaDoor
open Go.RowKit
set_option linter.unusedSimpArgs false
set_option linter.unusedVariables false
namespace Va
set_option maxRecDepth 100000 in
/-- The deferred closure where the frame returns: recover finds nothing. -/
theorem tryD_idle (p : Addr) (w : World) (R : Ending → FrameMode → World → Prop) (hR : R (.returned (.tuple #[])) .returning w) :
    CallsD Tryd.prog 9 #[.pointer (some p)] .returning w R := by
  have ha := fun w => run_assert (w := w) (iv := .nilIface) (z := .pointer none) Tryd.underlying22 (fun _ e => by cases e) (by kernel_rfl) (.inl rfl) 20
  simp only [asT, asB] at ha
  refine callsD_of_wpS Tryd.func9 rfl fun c₀ cs hu => ?_
  obtain ⟨B, hB⟩ : ∃ B, bodyPostS Tryd.prog Tryd.f9 c₀ cs R = B := ⟨_, rfl⟩
  rw [hB]
  have HB := Lib.hid hB
  clear hB
  have HR := Lib.hid hR
  clear hR
  apply wpS_seq
  apply wpS_region
  simp [wpOpsS, go_sem, recoverD, hu, Tryd.ntmps9, Exit.thenS]
  have HU := Lib.hid hu
  clear hu
  refine wpS_of_wp ?_
  generalize hQ : (fun (e : Exit) (a' : Act) (w' : World) => B e a' (c₀ :: cs) w') = Q
  have HQ := Lib.hid hQ
  clear hQ
  rw [show (#[Value.pointer (some p)] ++ ((Array.replicate 18 undef).setIfInBounds 3 Value.nilIface).setIfInBounds 0 Value.nilIface : Array Value) = #[.pointer (some p), .nilIface, undef, undef, .nilIface, undef, undef, undef, undef, undef, undef, undef, undef, undef, undef, undef, undef, undef, undef] by kernel_rfl]
  go_wp2_with fail
  rw [← HQ.out]
  show B Exit.normal _ (c₀ :: cs) w
  rw [← HB.out]
  have hu := HU.out
  refine ⟨rfl, .returning, ?_, .tuple #[], by simp [results, Tryd.results9, go_sem], HR.out⟩
  cases c₀
  simp_all
set_option maxRecDepth 100000 in
/-- Where the frame panics with a Wrong: it is recovered, and laid. -/
theorem tryD_wrong (p q : Addr) (older : List PanicEntry) (w : World) (x : Value) (hx : w.cell? p = some x) (hz : w.frozen? p = false) (R : Ending → FrameMode → World → Prop)
    (hR : R (.returned (.tuple #[])) (.panicking ({ v := .iface 22 (.pointer (some q)), recovered := true } :: older)) (w.setCell p (.pointer (some q)))) :
    CallsD Tryd.prog 9 #[.pointer (some p)] (.panicking ({ v := .iface 22 (.pointer (some q)), recovered := false } :: older)) w R := by
  have ha := fun w => run_assert (w := w) (iv := .iface 22 (.pointer (some q))) (z := .pointer none) Tryd.underlying22 (fun _ e => by cases e) (by kernel_rfl) (.inr ⟨_, _, rfl⟩) 20
  simp only [asT, asB, if_true, decide_true] at ha
  refine callsD_of_wpS Tryd.func9 rfl fun c₀ cs hu => ?_
  obtain ⟨B, hB⟩ : ∃ B, bodyPostS Tryd.prog Tryd.f9 c₀ cs R = B := ⟨_, rfl⟩
  rw [hB]
  have HB := Lib.hid hB
  clear hB
  have HR := Lib.hid hR
  clear hR
  apply wpS_seq
  apply wpS_region
  simp [wpOpsS, go_sem, recoverD, hu, Tryd.ntmps9, Exit.thenS]
  clear hu
  refine wpS_of_wp ?_
  generalize hQ : (fun (e : Exit) (a' : Act) (w' : World) => B e a' ({ c₀ with mode := _ } :: cs) w') = Q
  have HQ := Lib.hid hQ
  clear hQ
  rw [show (#[Value.pointer (some p)] ++ ((Array.replicate 18 undef).setIfInBounds 3 (Value.iface 22 (.pointer (some q)))).setIfInBounds 0 (Value.iface 22 (.pointer (some q))) : Array Value) = #[.pointer (some p), Value.iface 22 (.pointer (some q)), undef, undef, Value.iface 22 (.pointer (some q)), undef, undef, undef, undef, undef, undef, undef, undef, undef, undef, undef, undef, undef, undef] by kernel_rfl]
  go_wp2_with fail
  rw [← HQ.out]
  show B Exit.ret _ (_ :: cs) _
  rw [← HB.out]
  exact ⟨rfl, _, rfl, .tuple #[], by simp [results, Tryd.results9, go_sem], HR.out⟩
set_option maxRecDepth 100000 in
/-- Where it panics with another thing: it goes on. -/
theorem tryD_other (p : Addr) (T : TypeId) (x : Value) (hT : T ≠ 22) (older : List PanicEntry) (w : World) (R : Ending → FrameMode → World → Prop)
    (hR : R (.panicked [{ v := .iface T x, recovered := false }]) (.panicking ({ v := .iface T x, recovered := true } :: older)) w) :
    CallsD Tryd.prog 9 #[.pointer (some p)] (.panicking ({ v := .iface T x, recovered := false } :: older)) w R := by
  have ha := fun w => run_assert (w := w) (iv := .iface T x) (z := .pointer none) Tryd.underlying22 (fun _ e => by cases e) (by kernel_rfl) (.inr ⟨_, _, rfl⟩) 20
  simp only [asT, asB, if_neg hT, decide_eq_false hT] at ha
  refine callsD_of_wpS Tryd.func9 rfl fun c₀ cs hu => ?_
  obtain ⟨B, hB⟩ : ∃ B, bodyPostS Tryd.prog Tryd.f9 c₀ cs R = B := ⟨_, rfl⟩
  rw [hB]
  have HB := Lib.hid hB
  clear hB
  have HR := Lib.hid hR
  clear hR
  apply wpS_seq
  apply wpS_region
  simp [wpOpsS, go_sem, recoverD, hu, Tryd.ntmps9, Exit.thenS]
  clear hu
  refine wpS_of_wp ?_
  generalize hQ : (fun (e : Exit) (a' : Act) (w' : World) => B e a' ({ c₀ with mode := _ } :: cs) w') = Q
  have HQ := Lib.hid hQ
  clear hQ
  rw [show (#[Value.pointer (some p)] ++ ((Array.replicate 18 undef).setIfInBounds 3 (Value.iface T x)).setIfInBounds 0 (Value.iface T x) : Array Value) = #[.pointer (some p), Value.iface T x, undef, undef, Value.iface T x, undef, undef, undef, undef, undef, undef, undef, undef, undef, undef, undef, undef, undef, undef] by kernel_rfl]
  go_wp2_with fail
  rw [← HQ.out]
  show B (Exit.panic _) _ (_ :: cs) _
  rw [← HB.out]
  exact ⟨rfl, _, rfl, HR.out⟩
theorem no_nil (K : FuncId) (cap : Array Value) (w : World) : (binOp BinOp.eql 1 (.func (.func K) #[] cap) .nilFunc).run Tryd.prog w = .ok (.bool false) w := by
  kernel_rfl
theorem is_nil (w : World) : (binOp BinOp.eql 1 .nilFunc .nilFunc).run Tryd.prog w = .ok (.bool true) w := by kernel_rfl
set_option maxRecDepth 100000 in
set_option maxHeartbeats 1000000 in
/-- Of a function that returns. -/
theorem try_ok (K : FuncId) (cap : Array Value) (he : ∀ (args : Array Value) (w : World), (callFunc K args).run Tryd.prog w = .ok (.enter K args) w) (w : World) (R0 : World → Prop)
    (c : Calls Tryd.prog K cap (w.alloc (.cells #[.pointer none] 22)) fun e W' => e = .returned (.tuple #[]) ∧ Blk.Is W' w.heap.size 22 #[.pointer none] ∧ R0 W') :
    Calls Tryd.prog 4 #[.func (.func K) #[] cap] w fun e w' => e = .returned (.pointer none) ∧ ∃ W', R0 W' ∧ w' = W'.setCell ⟨w.heap.size, 0, none⟩ (.pointer none) := by
  have hnil := no_nil K cap
  have hmf : ∀ (fn : Fn) (first cap : Array Value) (w : World), (Instr.makeFunc fn first cap).run Tryd.prog w = .ok (.func fn first cap) w := fun _ _ _ _ => rfl
  go_enter_defers Tryd.func4, Tryd.ntmps4
  go_wp2_with fail
  refine c.mono ?_
  rintro e W ⟨rfl, hi, h0⟩
  have hc := hi.at (i := 0) rfl
  have hf := hi.free 0
  have h3 := (hi.set 0 (.pointer none)).at (i := 0) (v := .pointer none) rfl
  have H0 := Lib.hid h0
  clear c h0 hi
  go_wp2_with fail
  refine leaves_cons (f := 9) (args := #[.pointer (some ⟨w.heap.size, 0, none⟩)]) (by simp) (by simp [go_sem]) ?_
  refine tryD_idle _ _ _ ?_
  simp [Leaves, settle, results, Tryd.results4, go_sem, h3]
  exact ⟨_, H0.out, rfl⟩
set_option maxRecDepth 100000 in
set_option maxHeartbeats 1000000 in
/-- Of a function that panics with a Wrong. -/
theorem try_wrong (K : FuncId) (cap : Array Value) (he : ∀ (args : Array Value) (w : World), (callFunc K args).run Tryd.prog w = .ok (.enter K args) w) (w : World) (R0 : Addr → World → Prop)
    (c : Calls Tryd.prog K cap (w.alloc (.cells #[.pointer none] 22)) fun e W' => ∃ q, e = wrongAt q ∧ Blk.Is W' w.heap.size 22 #[.pointer none] ∧ R0 q W') :
    Calls Tryd.prog 4 #[.func (.func K) #[] cap] w fun e w' => ∃ q W', e = .returned (.pointer (some q)) ∧ R0 q W' ∧ w' = W'.setCell ⟨w.heap.size, 0, none⟩ (.pointer (some q)) := by
  have hnil := no_nil K cap
  have hmf : ∀ (fn : Fn) (first cap : Array Value) (w : World), (Instr.makeFunc fn first cap).run Tryd.prog w = .ok (.func fn first cap) w := fun _ _ _ _ => rfl
  go_enter_defers Tryd.func4, Tryd.ntmps4
  go_wp2_with fail
  refine c.mono ?_
  rintro e W ⟨q, rfl, hi, h0⟩
  unfold wrongAt
  have hc := hi.at (i := 0) rfl
  have hf := hi.free 0
  have h3 := (hi.set 0 (.pointer (some q))).at (i := 0) (v := .pointer (some q)) rfl
  have H0 := Lib.hid h0
  clear c h0 hi
  go_wp2_with fail
  refine leaves_cons (f := 9) (args := #[.pointer (some ⟨w.heap.size, 0, none⟩)]) (by simp) (by simp [go_sem]) ?_
  refine tryD_wrong _ q [] _ _ hc hf _ ?_
  simp [Leaves, settle, results, Tryd.results4, go_sem, h3]
  exact ⟨_, H0.out, rfl⟩
set_option maxRecDepth 100000 in
set_option maxHeartbeats 1000000 in
/-- Of one that panics with another thing. -/
theorem try_other (K : FuncId) (cap : Array Value) (he : ∀ (args : Array Value) (w : World), (callFunc K args).run Tryd.prog w = .ok (.enter K args) w) (T : TypeId) (x : Value) (hT : T ≠ 22) (w : World) (R0 : World → Prop)
    (c : Calls Tryd.prog K cap (w.alloc (.cells #[.pointer none] 22)) fun e W' => e = .panicked [{ v := .iface T x, recovered := false }] ∧ R0 W') :
    Calls Tryd.prog 4 #[.func (.func K) #[] cap] w fun e w' => e = .panicked [{ v := .iface T x, recovered := false }, { v := .iface T x, recovered := true }] ∧ R0 w' := by
  have hnil := no_nil K cap
  have hmf : ∀ (fn : Fn) (first cap : Array Value) (w : World), (Instr.makeFunc fn first cap).run Tryd.prog w = .ok (.func fn first cap) w := fun _ _ _ _ => rfl
  go_enter_defers Tryd.func4, Tryd.ntmps4
  go_wp2_with fail
  refine c.mono ?_
  rintro e W ⟨rfl, h0⟩
  have H0 := Lib.hid h0
  clear c h0
  go_wp2_with fail
  refine leaves_cons (f := 9) (args := #[.pointer (some ⟨w.heap.size, 0, none⟩)]) (by simp) (by simp [go_sem]) ?_
  refine tryD_other _ T x hT [] _ _ ?_
  simp [Leaves, settle, raised, results, Tryd.results4, go_sem]
  exact H0.out
set_option maxRecDepth 100000 in
/-- Of none. -/
theorem try_none (w : World) : Calls Tryd.prog 4 #[.nilFunc] w fun e w' => e = .returned (.pointer none) ∧ Below w.heap.size w w' := by
  have hnil := is_nil
  go_enter_defers Tryd.func4, Tryd.ntmps4
  go_wp2_with fail
  simp [bodyPostD, Leaves, results, Tryd.results4, go_sem]
  exact (Below.refl _ _).alloc (Nat.le_refl _) _
end Va
end Go.Proofs.YtapmpdljapbpeaaDoor

/-
What a value has within, by its kind: type assertions, the kind's name; demand's panic.
-/
import Derived.Test.YtapmpdljapbpeaaDoorValIs
import Derived.Laws.Entries
import Derived.WalkLawsBesides
import Derived.Handy
namespace Go.Proofs.YtapmpdljapbpeaaDoor
open Go.RowKit
set_option linter.unusedSimpArgs false
set_option linter.unusedVariables false
namespace Va
/-- What an assertion tells. -/
def asT (T : TypeId) (z iv : Value) : Value := match iv with
  | .iface t x => if t = T then x else z
  | _ => z
def asB (T : TypeId) (iv : Value) : Bool := match iv with
  | .iface t _ => decide (t = T)
  | _ => false
def IsI (iv : Value) : Prop := iv = .nilIface ∨ ∃ t x, iv = .iface t x
theorem run_assert {P : Program} {T : TypeId} {u : TypeDesc} {z : Value} (hu : P.underlying T = some u) (hn : ∀ ms, u ≠ .interface ms) (hz : (P.info? T).map (·.zero) = some (some z)) {iv : Value} (h : IsI iv) (xT : TypeId) (w : World) :
    (Instr.typeAssert iv xT T true).run P w = .ok (.tuple #[asT T z iv, .bool (asB T iv)]) w := by
  obtain ⟨i, hi, hz⟩ := Option.map_eq_some_iff.1 hz
  rcases h with rfl | ⟨t, x, rfl⟩
  · cases u <;> first
      | exact absurd rfl (hn _)
      | simp [Instr.typeAssert, run_underlying hu, typeInfo, zeroValue, hi, hz, asT, asB]
  · by_cases e : t = T
    · cases u <;> first
        | exact absurd rfl (hn _)
        | simp [Instr.typeAssert, run_underlying hu, e, asT, asB]
    · cases u <;> first
        | exact absurd rfl (hn _)
        | simp [Instr.typeAssert, run_underlying hu, e, typeInfo, zeroValue, hi, hz, asT, asB]
theorem run_sure {P : Program} {T : TypeId} {u : TypeDesc} (hu : P.underlying T = some u) (hn : ∀ ms, u ≠ .interface ms) (x : Value) (xT : TypeId) (w : World) :
    (Instr.typeAssert (.iface T x) xT T false).run P w = .ok x w := by
  cases u <;> first
    | exact absurd rfl (hn _)
    | simp [Instr.typeAssert, run_underlying hu]
theorem as_text {iv : Value} (h : IsI iv) (w : World) : (Instr.typeAssert iv 20 9 true).run Tryd.prog w = .ok (.tuple #[asT 9 (.string .empty) iv, .bool (asB 9 iv)]) w :=
  run_assert Tryd.underlying9 (fun _ e => by cases e) (by kernel_rfl) h _ w
theorem as_count {iv : Value} (h : IsI iv) (w : World) : (Instr.typeAssert iv 20 3 true).run Tryd.prog w = .ok (.tuple #[asT 3 (.int .i64 0) iv, .bool (asB 3 iv)]) w :=
  run_assert Tryd.underlying3 (fun _ e => by cases e) (by kernel_rfl) h _ w
theorem as_yes {iv : Value} (h : IsI iv) (w : World) : (Instr.typeAssert iv 20 4 true).run Tryd.prog w = .ok (.tuple #[asT 4 (.bool false) iv, .bool (asB 4 iv)]) w :=
  run_assert Tryd.underlying4 (fun _ e => by cases e) (by kernel_rfl) h _ w
theorem as_clauses {iv : Value} (h : IsI iv) (w : World) : (Instr.typeAssert iv 20 52 true).run Tryd.prog w = .ok (.tuple #[asT 52 (.slice none 0 0) iv, .bool (asB 52 iv)]) w :=
  run_assert Tryd.underlying52 (fun _ e => by cases e) (by kernel_rfl) h _ w
theorem as_atoms {iv : Value} (h : IsI iv) (w : World) : (Instr.typeAssert iv 20 56 true).run Tryd.prog w = .ok (.tuple #[asT 56 (.slice none 0 0) iv, .bool (asB 56 iv)]) w :=
  run_assert Tryd.underlying56 (fun _ e => by cases e) (by kernel_rfl) h _ w
theorem as_provides {iv : Value} (h : IsI iv) (w : World) : (Instr.typeAssert iv 20 60 true).run Tryd.prog w = .ok (.tuple #[asT 60 (.slice none 0 0) iv, .bool (asB 60 iv)]) w :=
  run_assert Tryd.underlying60 (fun _ e => by cases e) (by kernel_rfl) h _ w
set_option maxRecDepth 100000 in
theorem yesM_any (iv : Value) (h : IsI iv) (w : World) :
    Calls Tryd.prog 25 #[.agg #[iv]] w fun e w' => e = .returned (.tuple #[asT 4 (.bool false) iv, .bool (asB 4 iv)]) ∧ Below w.heap.size w w' := by
  have ha := as_yes h
  generalize asT 4 (.bool false) iv = A at *
  generalize asB 4 iv = B at *
  go_enter Tryd.func25, Tryd.ntmps25
  go_wp2_with fail
  go_returns
  exact ⟨rfl, (Below.refl _ _).alloc (Nat.le_refl _) _⟩
set_option maxRecDepth 100000 in
theorem yes_any (iv : Value) (h : IsI iv) (w : World) :
    Calls Tryd.prog 13 #[.agg #[iv]] w fun e w' => e = .returned (.tuple #[asT 4 (.bool false) iv, .bool (asB 4 iv)]) ∧ Below w.heap.size w w' := by
  have hb0 := (Blk.Is.new w 33 #[iv]).at (i := 0) rfl
  have hB0 : Below w.heap.size w (w.alloc (.cells #[iv] 33)) := (Below.refl _ _).alloc (Nat.le_refl _) _
  have c := yesM_any iv h (w.alloc (.cells #[iv] 33))
  generalize asT 4 (.bool false) iv = A at *
  generalize asB 4 iv = B at *
  clear h
  go_enter Tryd.func13, Tryd.ntmps13
  go_wp2_with fail
  refine c.mono ?_
  rintro e w' ⟨rfl, kb⟩
  have k := hB0.trans (kb.mono hB0.size)
  clear kb hB0 hb0 c
  go_wp2_with fail
  go_returns
  exact ⟨rfl, k⟩
/-- The kind's name, by the type of what is within. -/
def kindT (t : TypeId) : ByteArray := if t = 9 then ⟨#[116, 101, 120, 116]⟩ else if t = 3 then ⟨#[99, 111, 117, 110, 116]⟩ else if t = 4 then ⟨#[121, 101, 115]⟩ else if t = 52 then ⟨#[99, 108, 97, 117, 115, 101, 115]⟩ else if t = 56 then ⟨#[97, 116, 111, 109, 115]⟩ else if t = 60 then ⟨#[112, 114, 111, 118, 105, 100, 101, 115]⟩ else ⟨#[110, 111, 110, 101]⟩
def kindI : Value → ByteArray
  | .iface t _ => kindT t
  | _ => ⟨#[110, 111, 110, 101]⟩
/-- What a value may have within. -/
def IvOK (iv : Value) : Prop := iv = .nilIface ∨ ∃ t x, iv = .iface t x ∧ (t = 9 ∨ t = 3 ∨ t = 4 ∨ t = 52 ∨ t = 56 ∨ t = 60)
theorem IvOK.is {iv : Value} (h : IvOK iv) : IsI iv := by
  rcases h with rfl | ⟨t, x, rfl, _⟩
  · exact .inl rfl
  · exact .inr ⟨_, _, rfl⟩
set_option maxRecDepth 100000 in
set_option maxHeartbeats 4000000 in
theorem kindM_any (iv : Value) (h : IvOK iv) (w : World) :
    Calls Tryd.prog 60 #[.agg #[iv]] w fun e w' => e = .returned (.string (kindI iv)) ∧ Below w.heap.size w w' := by
  have h1 := as_text h.is
  have h2 := as_count h.is
  have h3 := as_yes h.is
  have h4 := as_clauses h.is
  have h5 := as_atoms h.is
  have h6 := as_provides h.is
  rcases h with rfl | ⟨t, x, rfl, rfl | rfl | rfl | rfl | rfl | rfl⟩
  all_goals
    simp [asT, asB] at h1 h2 h3 h4 h5 h6
    go_enter Tryd.func60, Tryd.ntmps60
    go_wp2_with fail
    go_ret
    exact ⟨rfl, (Below.refl _ _).alloc (Nat.le_refl _) _⟩
/-- What a call that must have a kind panics with. -/
def wrongAt (p : Addr) : Ending := .panicked [{ v := .iface 22 (.pointer (some p)), recovered := false }]
set_option maxRecDepth 100000 in
theorem demand_yes (iv : Value) (h : IvOK iv) (x : ByteArray) (hx : ((kindI iv).toList == x.toList) = true) (w : World) :
    Calls Tryd.prog 42 #[.agg #[iv], .string x] w fun e w' => e = .returned (.tuple #[]) ∧ Below w.heap.size w w' := by
  have hb0 := (Blk.Is.new w 33 #[iv]).at (i := 0) rfl
  have hB0 : Below w.heap.size w (w.alloc (.cells #[iv] 33)) := (Below.refl _ _).alloc (Nat.le_refl _) _
  have c := kindM_any iv h (w.alloc (.cells #[iv] 33))
  generalize kindI iv = A at *
  clear h
  go_enter Tryd.func42, Tryd.ntmps42
  go_wp2_with fail
  refine c.mono ?_
  rintro e w' ⟨rfl, kb⟩
  have k := hB0.trans (kb.mono hB0.size)
  clear kb hB0 hb0 c
  go_wp2_with fail
  go_end0
  exact ⟨rfl, k⟩
set_option maxRecDepth 100000 in
theorem demand_no (iv : Value) (h : IvOK iv) (x : ByteArray) (hx : ((kindI iv).toList == x.toList) = false) (w : World) :
    Calls Tryd.prog 42 #[.agg #[iv], .string x] w fun e w' => ∃ b, e = wrongAt ⟨b, 0, none⟩ ∧ Blk.Is w' b 30 #[.string x, .string (kindI iv)] ∧ w.heap.size ≤ b ∧ Below w.heap.size w w' := by
  have hb0 := (Blk.Is.new w 33 #[iv]).at (i := 0) rfl
  have hB0 : Below w.heap.size w (w.alloc (.cells #[iv] 33)) := (Below.refl _ _).alloc (Nat.le_refl _) _
  have c := kindM_any iv h (w.alloc (.cells #[iv] 33))
  generalize kindI iv = A at *
  clear h
  go_enter Tryd.func42, Tryd.ntmps42
  go_wp2_with fail
  refine c.mono ?_
  rintro e w' ⟨rfl, kb⟩
  have k := hB0.trans (kb.mono hB0.size)
  clear kb hB0 hb0 c
  go_wp2_with fail
  exact ⟨rfl, _, rfl, Blk.Is.new _ _ _, k.size, k.alloc k.size _⟩
end Va
end Go.Proofs.YtapmpdljapbpeaaDoor

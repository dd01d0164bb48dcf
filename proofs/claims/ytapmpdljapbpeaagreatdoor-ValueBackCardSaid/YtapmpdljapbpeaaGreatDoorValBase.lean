/-
Which field a name is of: isAny, and the library's ContainsFunc and IndexFunc beneath it. What a value has within, by its kind: type assertions, the kind's name; demand's panic. What must be of a kind: what is within, or that panic; values of a text, a count, a yes. Try: of a function that returns, of one that panics with a Wrong, of one that panics with a text, of none. readYes; Read, by the kind of the field: what it tells is what the kind's own reader tells. awake: what every program must know.
-/
import Derived.Test.YtapmpdljapbpeaaGreatDoorStzSame
import Derived.Test.YtapmpdljapbpeaaGreatDoorBlk
import Derived.Laws.Entries
import Derived.WalkLawsBesides
import Derived.Handy
import Derived.Lib.Strings
import Derived.Defers
import Derived.Recover
import Derived.Laws.Pointers
namespace Go.Proofs.YtapmpdljapbpeaaGreatDoor
open Go.RowKit
set_option linter.unusedSimpArgs false
set_option linter.unusedVariables false
namespace Va
open Stz (sameS)
theorem below_drewN (w : World) : ∀ n, Below w.heap.size w (w.drewN n)
  | 0 => Below.refl _ _
  | n + 1 => (below_drewN w.drew n).mono (Nat.le_refl _) |> fun h => ⟨h.os, h.tape, h.output, h.size, h.block⟩
theorem lt_cell {w : World} {p : Addr} {v : Value} (h : w.cell? p = some v) : p.block < w.heap.size := by
  unfold World.cell? at h
  cases hb : w.heap[p.block]? with
  | none => rw [hb] at h; cases h
  | some x => exact (Array.getElem?_eq_some_iff.1 hb).1
set_option maxRecDepth 100000 in
theorem isAnyF_any (f name : ByteArray) (p : Addr) (w : World) (hp : w.cell? p = some (.string name)) (hs : f.size ≤ 9223372036854775807) :
    Calls Tryz.prog 80 #[.string f, .pointer (some p)] w fun e w' => e = .returned (.bool (sameS f name)) ∧ ∃ n, w' = w.drewN n := by
  have c := Stz.same_any f name w hs
  generalize sameS f name = R at *
  go_enter Tryz.func80, Tryz.ntmps80
  go_wp2_with fail
  refine c.mono ?_
  rintro e w' ⟨rfl, hn⟩
  go_wp2_with fail
  go_ret
  exact ⟨rfl, hn⟩
/-- Where the first of these is that is the name, or -1. -/
def idx (name : ByteArray) (fs : List ByteArray) : Int := if fs.any (sameS · name) then (fs.findIdx (sameS · name) : Nat) else -1
theorem idx_yes {name : ByteArray} {fs : List ByteArray} {k : Nat} (hk : k < fs.length) (h : ∀ j, j < k → sameS (fs.getD j ByteArray.empty) name = false) (h1 : sameS (fs.getD k ByteArray.empty) name = true) : idx name fs = (k : Int) := by
  have hg : ∀ j (hj : j < fs.length), fs.getD j ByteArray.empty = fs[j] := fun j hj => by simp [List.getD, List.getElem?_eq_getElem hj]
  unfold idx
  rw [if_pos (List.any_eq_true.2 ⟨fs[k], List.getElem_mem hk, by rw [← hg k hk]; exact h1⟩)]
  congr 1
  rw [List.findIdx_eq hk]
  exact ⟨by rw [← hg k hk]; exact h1, fun j hj => by rw [← hg j (by omega)]; exact h j hj⟩
theorem idx_no {name : ByteArray} {fs : List ByteArray} (h : ∀ j, j < fs.length → sameS (fs.getD j ByteArray.empty) name = false) : idx name fs = -1 := by
  unfold idx
  rw [if_neg]
  rw [List.any_eq_true]
  rintro ⟨x, hx, h1⟩
  obtain ⟨j, hj, rfl⟩ := List.mem_iff_getElem.1 hx
  have := h j hj
  simp only [List.getD, List.getElem?_eq_getElem hj, Option.getD_some] at this
  rw [this] at h1; cases h1
theorem idx_ge (name : ByteArray) (fs : List ByteArray) : decide (0 ≤ idx name fs) = fs.any (sameS · name) := by
  unfold idx
  cases fs.any (sameS · name)
  · simp
  · simp
set_option maxRecDepth 100000 in
set_option maxHeartbeats 1000000 in
theorem indexFunc_any (fs : List ByteArray) (name : ByteArray) (k o cap : Nat) (p : Addr) (w : World) (hp : w.cell? p = some (.string name)) (hf : ∀ j, j < fs.length → w.cell? ⟨k, o + j, none⟩ = some (.string (fs.getD j ByteArray.empty))) (hL : fs.length ≤ 1000) (hcap : fs.length ≤ cap) (hs : ∀ f ∈ fs, f.size ≤ 1000) :
    Calls Tryz.prog 103 #[.slice (some ⟨k, o, none⟩) fs.length cap, .func (.func 80) #[] #[.pointer (some p)]] w fun e w' => e = .returned (.int .i64 (idx name fs)) ∧ ∃ n, w' = w.drewN n := by
  obtain ⟨G, hG⟩ : ∃ G, idx name fs = G := ⟨_, rfl⟩
  have HG := Lib.hid hG
  have HF := Lib.hid hf
  have HS := Lib.hid hs
  have HP := Lib.hid hp
  obtain ⟨n, hn⟩ : ∃ n, fs.length = n := ⟨_, rfl⟩
  have HN := Lib.hid hn
  rw [hG, hn]
  rw [hn] at hL hcap
  clear hG hf hs hn hp
  go_enter Tryz.func103, Tryz.ntmps103
  go_wp2_with fail
  go_loopg [8] n (fun gf s8 wx => ∃ i : Nat, s8 = .int .i64 i ∧ (∃ q, wx = w.drewN q) ∧ Hid (∀ j, j < i → sameS (fs.getD j ByteArray.empty) name = false) ∧ i ≤ n ∧ n ≤ i + gf)
  case atStart => exact ⟨0, rfl, ⟨0, rfl⟩, fun j hj => absurd hj (by omega), by omega, by omega⟩
  case round =>
    obtain ⟨i, rfl, hbw, HI, hin, hfu⟩ := hrel
    by_cases hlt : i < n
    · obtain ⟨g', rfl⟩ : ∃ g', gk = g' + 1 := ⟨gk - 1, by omega⟩
      have hlt' : (i : Int) < (n : Int) := by omega
      have hi0 : (0 : Int) ≤ i := by omega
      obtain ⟨q, rfl⟩ := hbw
      have hc : (w.drewN q).cell? ⟨k, o + i, none⟩ = some (.string (fs.getD i ByteArray.empty)) := HF.out i (by rw [HN.out]; exact hlt)
      have hp' : (w.drewN q).cell? p = some (.string name) := HP.out
      have hfs : (fs.getD i ByteArray.empty).size ≤ 1000 := HS.out _ (by
        have : i < fs.length := by rw [HN.out]; exact hlt
        simp [List.getD, List.getElem?_eq_getElem this])
      have c := isAnyF_any (fs.getD i ByteArray.empty) name p (w.drewN q) hp' (by omega)
      cases hb : sameS (fs.getD i ByteArray.empty) name
      · have HJ : Hid (∀ j, j < i + 1 → sameS (fs.getD j ByteArray.empty) name = false) := fun j hj => by
          by_cases e : j = i
          · rw [e]; exact hb
          · exact HI.out j (by omega)
        rw [hb] at c
        clear HI hb hp' hfs
        generalize fs.getD i ByteArray.empty = f at *
        have HQ : Hid (∃ q', w.drewN q = w.drewN q') := ⟨q, rfl⟩
        generalize w.drewN q = wd at *
        go_wp2_with fail
        refine c.mono ?_
        rintro e w' ⟨rfl, m, rfl⟩
        have HM : Hid (∃ q', wd.drewN m = w.drewN q') := by
          refine Lib.hid ?_
          obtain ⟨q', hq⟩ := HQ.out
          exact ⟨q' + m, by rw [hq, World.drewN_drewN]⟩
        generalize wd.drewN m = we at *
        go_wp2_with fail
        go_roundg g'
        case measure => omega
        case rel => exact ⟨i + 1, by go_num, HM.out, HJ, by omega, by omega⟩
      · have hI : G = (i : Int) := by rw [← HG.out]; exact idx_yes (by rw [HN.out]; exact hlt) HI.out hb
        subst hI
        rw [hb] at c
        clear HI hb hp' hfs HG
        generalize fs.getD i ByteArray.empty = f at *
        have HQ : Hid (∃ q', w.drewN q = w.drewN q') := ⟨q, rfl⟩
        generalize w.drewN q = wd at *
        go_wp2_with fail
        refine c.mono ?_
        rintro e w' ⟨rfl, m, rfl⟩
        have HM : Hid (∃ q', wd.drewN m = w.drewN q') := by
          refine Lib.hid ?_
          obtain ⟨q', hq⟩ := HQ.out
          exact ⟨q' + m, by rw [hq, World.drewN_drewN]⟩
        generalize wd.drewN m = we at *
        go_wp2_with fail
        go_ret
        exact ⟨rfl, HM.out⟩
    · have hi : i = n := by omega
      subst hi
      have hI : G = -1 := by rw [← HG.out]; exact idx_no (by rw [HN.out]; exact HI.out)
      subst hI
      clear HI HG
      go_wp2_with fail
      go_ret
      exact ⟨rfl, hbw⟩
set_option maxRecDepth 100000 in
set_option maxHeartbeats 1000000 in
theorem containsFunc_any (fs : List ByteArray) (name : ByteArray) (k o cap : Nat) (p : Addr) (w : World) (hp : w.cell? p = some (.string name)) (hf : ∀ j, j < fs.length → w.cell? ⟨k, o + j, none⟩ = some (.string (fs.getD j ByteArray.empty))) (hL : fs.length ≤ 1000) (hcap : fs.length ≤ cap) (hs : ∀ f ∈ fs, f.size ≤ 1000) :
    Calls Tryz.prog 79 #[.slice (some ⟨k, o, none⟩) fs.length cap, .func (.func 80) #[] #[.pointer (some p)]] w fun e w' => e = .returned (.bool (fs.any (sameS · name))) ∧ ∃ n, w' = w.drewN n := by
  have c := indexFunc_any fs name k o cap p w hp hf hL hcap hs
  rw [← idx_ge]
  generalize idx name fs = G at *
  clear hp hf hs
  go_enter Tryz.func79, Tryz.ntmps79
  go_wp2_with fail
  refine c.mono ?_
  rintro e w' ⟨rfl, hn⟩
  go_wp2_with fail
  go_ret
  exact ⟨rfl, hn⟩
set_option maxRecDepth 100000 in
set_option maxHeartbeats 1000000 in
theorem isAny_any (fs : List ByteArray) (name : ByteArray) (k o cap : Nat) (w : World) (hf : ∀ j, j < fs.length → w.cell? ⟨k, o + j, none⟩ = some (.string (fs.getD j ByteArray.empty))) (hL : fs.length ≤ 1000) (hcap : fs.length ≤ cap) (hs : ∀ f ∈ fs, f.size ≤ 1000) :
    Calls Tryz.prog 56 #[.string name, .slice (some ⟨k, o, none⟩) fs.length cap] w fun e w' => e = .returned (.bool (fs.any (sameS · name))) ∧ Below w.heap.size w w' := by
  have hb0 := Blk.Is.new w 9 #[.string name]
  have hB0 : Below w.heap.size w (w.alloc (.cells #[.string name] 9)) := (Below.refl _ _).alloc (Nat.le_refl _) _
  have hf2 : ∀ j, j < fs.length → (w.alloc (.cells #[.string name] 9)).cell? ⟨k, o + j, none⟩ = some (.string (fs.getD j ByteArray.empty)) := fun j hj => by
    rw [hB0.cell (lt_cell (hf j hj))]; exact hf j hj
  have c := containsFunc_any fs name k o cap ⟨w.heap.size, 0, none⟩ _ (hb0.at (i := 0) rfl) hf2 hL hcap hs
  have hmf : ∀ (fn : Fn) (first cap : Array Value) (w : World), (Instr.makeFunc fn first cap).run Tryz.prog w = .ok (.func fn first cap) w := fun _ _ _ _ => rfl
  generalize fs.any (sameS · name) = G at *
  clear hf hf2 hs
  go_enter Tryz.func56, Tryz.ntmps56
  go_wp2_with fail
  refine c.mono ?_
  rintro e w' ⟨rfl, m, rfl⟩
  have kb := hB0.trans ((below_drewN (w.alloc (.cells #[.string name] 9)) m).mono hB0.size)
  generalize (w.alloc (.cells #[.string name] 9)).drewN m = we at *
  clear hb0 hB0 c
  go_wp2_with fail
  go_ret
  exact ⟨rfl, kb⟩
end Va
end Go.Proofs.YtapmpdljapbpeaaGreatDoor
namespace Go.Proofs.YtapmpdljapbpeaaGreatDoor
open Go.RowKit
set_option linter.unusedSimpArgs false
set_option linter.unusedVariables false
namespace Va
/-- What an assertion tells. -/
def asT (T : TypeId) (z iv : Value) : Value := match iv with
  | .iface t x => if t = T then x else z
  | _ => z
def asB (T : TypeId) (iv : Value) : Bool := match iv with
  | .iface t _ => decide (t = T)
  | _ => false
def IsI (iv : Value) : Prop := iv = .nilIface ∨ ∃ t x, iv = .iface t x
theorem run_assert {P : Program} {T : TypeId} {u : TypeDesc} {z : Value} (hu : P.underlying T = some u) (hn : ∀ ms, u ≠ .interface ms) (hz : (P.info? T).map (·.zero) = some (some z)) {iv : Value} (h : IsI iv) (xT : TypeId) (w : World) :
    (Instr.typeAssert iv xT T true).run P w = .ok (.tuple #[asT T z iv, .bool (asB T iv)]) w := by
  obtain ⟨i, hi, hz⟩ := Option.map_eq_some_iff.1 hz
  rcases h with rfl | ⟨t, x, rfl⟩
  · cases u <;> first
      | exact absurd rfl (hn _)
      | simp [Instr.typeAssert, run_underlying hu, typeInfo, zeroValue, hi, hz, asT, asB]
  · by_cases e : t = T
    · cases u <;> first
        | exact absurd rfl (hn _)
        | simp [Instr.typeAssert, run_underlying hu, e, asT, asB]
    · cases u <;> first
        | exact absurd rfl (hn _)
        | simp [Instr.typeAssert, run_underlying hu, e, typeInfo, zeroValue, hi, hz, asT, asB]
theorem run_sure {P : Program} {T : TypeId} {u : TypeDesc} (hu : P.underlying T = some u) (hn : ∀ ms, u ≠ .interface ms) (x : Value) (xT : TypeId) (w : World) :
    (Instr.typeAssert (.iface T x) xT T false).run P w = .ok x w := by
  cases u <;> first
    | exact absurd rfl (hn _)
    | simp [Instr.typeAssert, run_underlying hu]
theorem as_text {iv : Value} (h : IsI iv) (w : World) : (Instr.typeAssert iv 20 9 true).run Tryz.prog w = .ok (.tuple #[asT 9 (.string .empty) iv, .bool (asB 9 iv)]) w :=
  run_assert Tryz.underlying9 (fun _ e => by cases e) (by kernel_rfl) h _ w
theorem as_count {iv : Value} (h : IsI iv) (w : World) : (Instr.typeAssert iv 20 3 true).run Tryz.prog w = .ok (.tuple #[asT 3 (.int .i64 0) iv, .bool (asB 3 iv)]) w :=
  run_assert Tryz.underlying3 (fun _ e => by cases e) (by kernel_rfl) h _ w
theorem as_yes {iv : Value} (h : IsI iv) (w : World) : (Instr.typeAssert iv 20 4 true).run Tryz.prog w = .ok (.tuple #[asT 4 (.bool false) iv, .bool (asB 4 iv)]) w :=
  run_assert Tryz.underlying4 (fun _ e => by cases e) (by kernel_rfl) h _ w
theorem as_clauses {iv : Value} (h : IsI iv) (w : World) : (Instr.typeAssert iv 20 22 true).run Tryz.prog w = .ok (.tuple #[asT 22 (.slice none 0 0) iv, .bool (asB 22 iv)]) w :=
  run_assert Tryz.underlying22 (fun _ e => by cases e) (by kernel_rfl) h _ w
theorem as_atoms {iv : Value} (h : IsI iv) (w : World) : (Instr.typeAssert iv 20 23 true).run Tryz.prog w = .ok (.tuple #[asT 23 (.slice none 0 0) iv, .bool (asB 23 iv)]) w :=
  run_assert Tryz.underlying23 (fun _ e => by cases e) (by kernel_rfl) h _ w
theorem as_provides {iv : Value} (h : IsI iv) (w : World) : (Instr.typeAssert iv 20 24 true).run Tryz.prog w = .ok (.tuple #[asT 24 (.slice none 0 0) iv, .bool (asB 24 iv)]) w :=
  run_assert Tryz.underlying24 (fun _ e => by cases e) (by kernel_rfl) h _ w
set_option maxRecDepth 100000 in
theorem textM_any (iv : Value) (h : IsI iv) (w : World) :
    Calls Tryz.prog 42 #[.agg #[iv]] w fun e w' => e = .returned (.tuple #[asT 9 (.string .empty) iv, .bool (asB 9 iv)]) ∧ Below w.heap.size w w' := by
  have ha := as_text h
  generalize asT 9 (.string .empty) iv = A at *
  generalize asB 9 iv = B at *
  go_enter Tryz.func42, Tryz.ntmps42
  go_wp2_with fail
  go_returns
  exact ⟨rfl, (Below.refl _ _).alloc (Nat.le_refl _) _⟩
set_option maxRecDepth 100000 in
theorem countM_any (iv : Value) (h : IsI iv) (w : World) :
    Calls Tryz.prog 43 #[.agg #[iv]] w fun e w' => e = .returned (.tuple #[asT 3 (.int .i64 0) iv, .bool (asB 3 iv)]) ∧ Below w.heap.size w w' := by
  have ha := as_count h
  generalize asT 3 (.int .i64 0) iv = A at *
  generalize asB 3 iv = B at *
  go_enter Tryz.func43, Tryz.ntmps43
  go_wp2_with fail
  go_returns
  exact ⟨rfl, (Below.refl _ _).alloc (Nat.le_refl _) _⟩
set_option maxRecDepth 100000 in
theorem yesM_any (iv : Value) (h : IsI iv) (w : World) :
    Calls Tryz.prog 44 #[.agg #[iv]] w fun e w' => e = .returned (.tuple #[asT 4 (.bool false) iv, .bool (asB 4 iv)]) ∧ Below w.heap.size w w' := by
  have ha := as_yes h
  generalize asT 4 (.bool false) iv = A at *
  generalize asB 4 iv = B at *
  go_enter Tryz.func44, Tryz.ntmps44
  go_wp2_with fail
  go_returns
  exact ⟨rfl, (Below.refl _ _).alloc (Nat.le_refl _) _⟩
set_option maxRecDepth 100000 in
theorem clausesM_any (iv : Value) (h : IsI iv) (w : World) :
    Calls Tryz.prog 45 #[.agg #[iv]] w fun e w' => e = .returned (.tuple #[asT 22 (.slice none 0 0) iv, .bool (asB 22 iv)]) ∧ Below w.heap.size w w' := by
  have ha := as_clauses h
  generalize asT 22 (.slice none 0 0) iv = A at *
  generalize asB 22 iv = B at *
  go_enter Tryz.func45, Tryz.ntmps45
  go_wp2_with fail
  go_returns
  exact ⟨rfl, (Below.refl _ _).alloc (Nat.le_refl _) _⟩
set_option maxRecDepth 100000 in
theorem atomsM_any (iv : Value) (h : IsI iv) (w : World) :
    Calls Tryz.prog 47 #[.agg #[iv]] w fun e w' => e = .returned (.tuple #[asT 23 (.slice none 0 0) iv, .bool (asB 23 iv)]) ∧ Below w.heap.size w w' := by
  have ha := as_atoms h
  generalize asT 23 (.slice none 0 0) iv = A at *
  generalize asB 23 iv = B at *
  go_enter Tryz.func47, Tryz.ntmps47
  go_wp2_with fail
  go_returns
  exact ⟨rfl, (Below.refl _ _).alloc (Nat.le_refl _) _⟩
set_option maxRecDepth 100000 in
theorem providesM_any (iv : Value) (h : IsI iv) (w : World) :
    Calls Tryz.prog 49 #[.agg #[iv]] w fun e w' => e = .returned (.tuple #[asT 24 (.slice none 0 0) iv, .bool (asB 24 iv)]) ∧ Below w.heap.size w w' := by
  have ha := as_provides h
  generalize asT 24 (.slice none 0 0) iv = A at *
  generalize asB 24 iv = B at *
  go_enter Tryz.func49, Tryz.ntmps49
  go_wp2_with fail
  go_returns
  exact ⟨rfl, (Below.refl _ _).alloc (Nat.le_refl _) _⟩
set_option maxRecDepth 100000 in
theorem text_any (iv : Value) (h : IsI iv) (w : World) :
    Calls Tryz.prog 11 #[.agg #[iv]] w fun e w' => e = .returned (.tuple #[asT 9 (.string .empty) iv, .bool (asB 9 iv)]) ∧ Below w.heap.size w w' := by
  have hb0 := (Blk.Is.new w 30 #[iv]).at (i := 0) rfl
  have hB0 : Below w.heap.size w (w.alloc (.cells #[iv] 30)) := (Below.refl _ _).alloc (Nat.le_refl _) _
  have c := textM_any iv h (w.alloc (.cells #[iv] 30))
  generalize asT 9 (.string .empty) iv = A at *
  generalize asB 9 iv = B at *
  clear h
  go_enter Tryz.func11, Tryz.ntmps11
  go_wp2_with fail
  refine c.mono ?_
  rintro e w' ⟨rfl, kb⟩
  have k := hB0.trans (kb.mono hB0.size)
  clear kb hB0 hb0 c
  go_wp2_with fail
  go_returns
  exact ⟨rfl, k⟩
set_option maxRecDepth 100000 in
theorem count_any (iv : Value) (h : IsI iv) (w : World) :
    Calls Tryz.prog 12 #[.agg #[iv]] w fun e w' => e = .returned (.tuple #[asT 3 (.int .i64 0) iv, .bool (asB 3 iv)]) ∧ Below w.heap.size w w' := by
  have hb0 := (Blk.Is.new w 30 #[iv]).at (i := 0) rfl
  have hB0 : Below w.heap.size w (w.alloc (.cells #[iv] 30)) := (Below.refl _ _).alloc (Nat.le_refl _) _
  have c := countM_any iv h (w.alloc (.cells #[iv] 30))
  generalize asT 3 (.int .i64 0) iv = A at *
  generalize asB 3 iv = B at *
  clear h
  go_enter Tryz.func12, Tryz.ntmps12
  go_wp2_with fail
  refine c.mono ?_
  rintro e w' ⟨rfl, kb⟩
  have k := hB0.trans (kb.mono hB0.size)
  clear kb hB0 hb0 c
  go_wp2_with fail
  go_returns
  exact ⟨rfl, k⟩
set_option maxRecDepth 100000 in
theorem yes_any (iv : Value) (h : IsI iv) (w : World) :
    Calls Tryz.prog 13 #[.agg #[iv]] w fun e w' => e = .returned (.tuple #[asT 4 (.bool false) iv, .bool (asB 4 iv)]) ∧ Below w.heap.size w w' := by
  have hb0 := (Blk.Is.new w 30 #[iv]).at (i := 0) rfl
  have hB0 : Below w.heap.size w (w.alloc (.cells #[iv] 30)) := (Below.refl _ _).alloc (Nat.le_refl _) _
  have c := yesM_any iv h (w.alloc (.cells #[iv] 30))
  generalize asT 4 (.bool false) iv = A at *
  generalize asB 4 iv = B at *
  clear h
  go_enter Tryz.func13, Tryz.ntmps13
  go_wp2_with fail
  refine c.mono ?_
  rintro e w' ⟨rfl, kb⟩
  have k := hB0.trans (kb.mono hB0.size)
  clear kb hB0 hb0 c
  go_wp2_with fail
  go_returns
  exact ⟨rfl, k⟩
/-- The kind's name, by the type of what is within. -/
def kindT (t : TypeId) : ByteArray := if t = 9 then ⟨#[116, 101, 120, 116]⟩ else if t = 3 then ⟨#[99, 111, 117, 110, 116]⟩ else if t = 4 then ⟨#[121, 101, 115]⟩ else if t = 22 then ⟨#[99, 108, 97, 117, 115, 101, 115]⟩ else if t = 23 then ⟨#[97, 116, 111, 109, 115]⟩ else if t = 24 then ⟨#[112, 114, 111, 118, 105, 100, 101, 115]⟩ else ⟨#[110, 111, 110, 101]⟩
def kindI : Value → ByteArray
  | .iface t _ => kindT t
  | _ => ⟨#[110, 111, 110, 101]⟩
/-- What a value may have within. -/
def IvOK (iv : Value) : Prop := iv = .nilIface ∨ ∃ t x, iv = .iface t x ∧ (t = 9 ∨ t = 3 ∨ t = 4 ∨ t = 22 ∨ t = 23 ∨ t = 24)
theorem IvOK.is {iv : Value} (h : IvOK iv) : IsI iv := by
  rcases h with rfl | ⟨t, x, rfl, _⟩
  · exact .inl rfl
  · exact .inr ⟨_, _, rfl⟩
set_option maxRecDepth 100000 in
set_option maxHeartbeats 4000000 in
theorem kindM_any (iv : Value) (h : IvOK iv) (w : World) :
    Calls Tryz.prog 51 #[.agg #[iv]] w fun e w' => e = .returned (.string (kindI iv)) ∧ Below w.heap.size w w' := by
  have h1 := as_text h.is
  have h2 := as_count h.is
  have h3 := as_yes h.is
  have h4 := as_clauses h.is
  have h5 := as_atoms h.is
  have h6 := as_provides h.is
  rcases h with rfl | ⟨t, x, rfl, rfl | rfl | rfl | rfl | rfl | rfl⟩
  all_goals
    simp [asT, asB] at h1 h2 h3 h4 h5 h6
    go_enter Tryz.func51, Tryz.ntmps51
    go_wp2_with fail
    go_ret
    exact ⟨rfl, (Below.refl _ _).alloc (Nat.le_refl _) _⟩
set_option maxRecDepth 100000 in
theorem kind_any (iv : Value) (h : IvOK iv) (w : World) :
    Calls Tryz.prog 17 #[.agg #[iv]] w fun e w' => e = .returned (.string (kindI iv)) ∧ Below w.heap.size w w' := by
  have hb0 := (Blk.Is.new w 30 #[iv]).at (i := 0) rfl
  have hB0 : Below w.heap.size w (w.alloc (.cells #[iv] 30)) := (Below.refl _ _).alloc (Nat.le_refl _) _
  have c := kindM_any iv h (w.alloc (.cells #[iv] 30))
  generalize kindI iv = A at *
  clear h
  go_enter Tryz.func17, Tryz.ntmps17
  go_wp2_with fail
  refine c.mono ?_
  rintro e w' ⟨rfl, kb⟩
  have k := hB0.trans (kb.mono hB0.size)
  clear kb hB0 hb0 c
  go_wp2_with fail
  go_ret
  exact ⟨rfl, k⟩
/-- What a call that must have a kind panics with. -/
def wrongAt (p : Addr) : Ending := .panicked [{ v := .iface 51 (.pointer (some p)), recovered := false }]
set_option maxRecDepth 100000 in
theorem demand_yes (iv : Value) (h : IvOK iv) (x : ByteArray) (hx : ((kindI iv).toList == x.toList) = true) (w : World) :
    Calls Tryz.prog 78 #[.agg #[iv], .string x] w fun e w' => e = .returned (.tuple #[]) ∧ Below w.heap.size w w' := by
  have hb0 := (Blk.Is.new w 30 #[iv]).at (i := 0) rfl
  have hB0 : Below w.heap.size w (w.alloc (.cells #[iv] 30)) := (Below.refl _ _).alloc (Nat.le_refl _) _
  have c := kindM_any iv h (w.alloc (.cells #[iv] 30))
  generalize kindI iv = A at *
  clear h
  go_enter Tryz.func78, Tryz.ntmps78
  go_wp2_with fail
  refine c.mono ?_
  rintro e w' ⟨rfl, kb⟩
  have k := hB0.trans (kb.mono hB0.size)
  clear kb hB0 hb0 c
  go_wp2_with fail
  go_end0
  exact ⟨rfl, k⟩
set_option maxRecDepth 100000 in
theorem demand_no (iv : Value) (h : IvOK iv) (x : ByteArray) (hx : ((kindI iv).toList == x.toList) = false) (w : World) :
    Calls Tryz.prog 78 #[.agg #[iv], .string x] w fun e w' => ∃ b, e = wrongAt ⟨b, 0, none⟩ ∧ Blk.Is w' b 56 #[.string x, .string (kindI iv)] ∧ w.heap.size ≤ b ∧ Below w.heap.size w w' := by
  have hb0 := (Blk.Is.new w 30 #[iv]).at (i := 0) rfl
  have hB0 : Below w.heap.size w (w.alloc (.cells #[iv] 30)) := (Below.refl _ _).alloc (Nat.le_refl _) _
  have c := kindM_any iv h (w.alloc (.cells #[iv] 30))
  generalize kindI iv = A at *
  clear h
  go_enter Tryz.func78, Tryz.ntmps78
  go_wp2_with fail
  refine c.mono ?_
  rintro e w' ⟨rfl, kb⟩
  have k := hB0.trans (kb.mono hB0.size)
  clear kb hB0 hb0 c
  go_wp2_with fail
  exact ⟨rfl, _, rfl, Blk.Is.new _ _ _, k.size, k.alloc k.size _⟩
end Va
end Go.Proofs.YtapmpdljapbpeaaGreatDoor
namespace Go.Proofs.YtapmpdljapbpeaaGreatDoor
open Go.RowKit
set_option linter.unusedSimpArgs false
set_option linter.unusedVariables false
namespace Va
/-- That a call panics with a new Wrong. -/
def Wr (w : World) (x y : ByteArray) (e : Ending) (w' : World) : Prop := ∃ b, e = wrongAt ⟨b, 0, none⟩ ∧ Blk.Is w' b 56 #[.string x, .string y] ∧ w.heap.size ≤ b ∧ Below w.heap.size w w'
theorem Wr.on {w w1 w' : World} {x y : ByteArray} {e : Ending} (h : Wr w1 x y e w') (hb : Below w.heap.size w w1) : Wr w x y e w' := by
  obtain ⟨b, h1, h2, h3, h4⟩ := h
  exact ⟨b, h1, h2, Nat.le_trans hb.size h3, hb.trans (h4.mono hb.size)⟩
theorem wr_at {w : World} {x y : ByteArray} {w' : World} {b : Nat} (h2 : Blk.Is w' b 56 #[.string x, .string y]) (h3 : w.heap.size ≤ b) (h4 : Below w.heap.size w w') : Wr w x y (wrongAt ⟨b, 0, none⟩) w' := ⟨b, rfl, h2, h3, h4⟩
theorem not_text {iv : Value} (h : IvOK iv) (hb : asB 9 iv = false) : ((kindI iv).toList == (ByteArray.mk #[116, 101, 120, 116]).toList) = false := by
  rcases h with rfl | ⟨t, x, rfl, rfl | rfl | rfl | rfl | rfl | rfl⟩
  all_goals first
    | (simp [asB] at hb; done)
    | (simp [kindI, kindT, Lib.toList_data]; done)
set_option maxRecDepth 100000 in
theorem mustTextM_yes (x : Value) (w : World) :
    Calls Tryz.prog 53 #[.agg #[.iface 9 x]] w fun e w' => e = .returned x ∧ Below w.heap.size w w' := by
  have hb0 := Blk.Is.new w 30 #[.iface 9 x]
  have hB0 : Below w.heap.size w (w.alloc (.cells #[.iface 9 x] 30)) := (Below.refl _ _).alloc (Nat.le_refl _) _
  have c := demand_yes (.iface 9 x) (.inr ⟨_, _, rfl, by simp⟩) ⟨#[116, 101, 120, 116]⟩ (by simp [kindI, kindT, Lib.toList_data]) (w.alloc (.cells #[.iface 9 x] 30))
  have hs := fun w => run_sure (w := w) Tryz.underlying9 (fun _ e => by cases e) x 20
  go_enter Tryz.func53, Tryz.ntmps53
  go_wp2_with fail
  refine c.mono ?_
  rintro e w' ⟨rfl, kb⟩
  have k := hB0.trans (kb.mono hB0.size)
  have hc : w'.cell? ⟨w.heap.size, 0, none⟩ = some (.iface 9 x) := by
    rw [kb.cell (lt_cell (hb0.at (i := 0) rfl))]; exact hb0.at (i := 0) rfl
  clear kb hB0 hb0 c
  go_wp2_with fail
  go_ret
  exact ⟨rfl, k⟩
set_option maxRecDepth 100000 in
theorem mustTextM_no (iv : Value) (h : IvOK iv) (hb : asB 9 iv = false) (w : World) :
    Calls Tryz.prog 53 #[.agg #[iv]] w fun e w' => Wr w ⟨#[116, 101, 120, 116]⟩ (kindI iv) e w' := by
  have hb0 := (Blk.Is.new w 30 #[iv]).at (i := 0) rfl
  have hB0 : Below w.heap.size w (w.alloc (.cells #[iv] 30)) := (Below.refl _ _).alloc (Nat.le_refl _) _
  have c := demand_no iv h ⟨#[116, 101, 120, 116]⟩ (not_text h hb) (w.alloc (.cells #[iv] 30))
  generalize kindI iv = A at *
  clear h hb
  go_enter Tryz.func53, Tryz.ntmps53
  go_wp2_with fail
  refine c.mono ?_
  rintro e w' ⟨b, rfl, hi, hl, kb⟩
  have k := wr_at hi (Nat.le_trans hB0.size hl) (hB0.trans (kb.mono hB0.size))
  unfold wrongAt at k ⊢
  clear kb hB0 hb0 c hi hl
  go_wp2_with fail
  exact ⟨rfl, k⟩
set_option maxRecDepth 100000 in
theorem mustText_yes (x : Value) (w : World) :
    Calls Tryz.prog 23 #[.agg #[.iface 9 x]] w fun e w' => e = .returned x ∧ Below w.heap.size w w' := by
  have hb0 := (Blk.Is.new w 30 #[.iface 9 x]).at (i := 0) rfl
  have hB0 : Below w.heap.size w (w.alloc (.cells #[.iface 9 x] 30)) := (Below.refl _ _).alloc (Nat.le_refl _) _
  have c := mustTextM_yes x (w.alloc (.cells #[.iface 9 x] 30))
  go_enter Tryz.func23, Tryz.ntmps23
  go_wp2_with fail
  refine c.mono ?_
  rintro e w' ⟨rfl, kb⟩
  have k := hB0.trans (kb.mono hB0.size)
  clear kb hB0 hb0 c
  go_wp2_with fail
  go_ret
  exact ⟨rfl, k⟩
set_option maxRecDepth 100000 in
theorem mustText_no (iv : Value) (h : IvOK iv) (hb : asB 9 iv = false) (w : World) :
    Calls Tryz.prog 23 #[.agg #[iv]] w fun e w' => Wr w ⟨#[116, 101, 120, 116]⟩ (kindI iv) e w' := by
  have hb0 := (Blk.Is.new w 30 #[iv]).at (i := 0) rfl
  have hB0 : Below w.heap.size w (w.alloc (.cells #[iv] 30)) := (Below.refl _ _).alloc (Nat.le_refl _) _
  have c := mustTextM_no iv h hb (w.alloc (.cells #[iv] 30))
  generalize kindI iv = A at *
  clear h hb
  go_enter Tryz.func23, Tryz.ntmps23
  go_wp2_with fail
  refine c.mono ?_
  rintro e w' hw
  have k := hw.on hB0
  obtain ⟨b, rfl, _⟩ := hw
  unfold wrongAt at k ⊢
  clear hB0 hb0 c
  go_wp2_with fail
  exact ⟨rfl, k⟩
set_option maxRecDepth 100000 in
theorem ofText_any (x : Value) (w : World) : Calls Tryz.prog 36 #[x] w fun e w' => e = .returned (.agg #[.iface 9 x]) ∧ Below w.heap.size w w' := by
  go_enter Tryz.func36, Tryz.ntmps36
  go_wp2_with fail
  go_returns
  exact ⟨rfl, (Below.refl _ _).alloc (Nat.le_refl _) _⟩
theorem not_count {iv : Value} (h : IvOK iv) (hb : asB 3 iv = false) : ((kindI iv).toList == (ByteArray.mk #[99, 111, 117, 110, 116]).toList) = false := by
  rcases h with rfl | ⟨t, x, rfl, rfl | rfl | rfl | rfl | rfl | rfl⟩
  all_goals first
    | (simp [asB] at hb; done)
    | (simp [kindI, kindT, Lib.toList_data]; done)
set_option maxRecDepth 100000 in
theorem mustCountM_no (iv : Value) (h : IvOK iv) (hb : asB 3 iv = false) (w : World) :
    Calls Tryz.prog 54 #[.agg #[iv]] w fun e w' => Wr w ⟨#[99, 111, 117, 110, 116]⟩ (kindI iv) e w' := by
  have hb0 := (Blk.Is.new w 30 #[iv]).at (i := 0) rfl
  have hB0 : Below w.heap.size w (w.alloc (.cells #[iv] 30)) := (Below.refl _ _).alloc (Nat.le_refl _) _
  have c := demand_no iv h ⟨#[99, 111, 117, 110, 116]⟩ (not_count h hb) (w.alloc (.cells #[iv] 30))
  generalize kindI iv = A at *
  clear h hb
  go_enter Tryz.func54, Tryz.ntmps54
  go_wp2_with fail
  refine c.mono ?_
  rintro e w' ⟨b, rfl, hi, hl, kb⟩
  have k := wr_at hi (Nat.le_trans hB0.size hl) (hB0.trans (kb.mono hB0.size))
  unfold wrongAt at k ⊢
  clear kb hB0 hb0 c hi hl
  go_wp2_with fail
  exact ⟨rfl, k⟩
set_option maxRecDepth 100000 in
theorem mustCount_no (iv : Value) (h : IvOK iv) (hb : asB 3 iv = false) (w : World) :
    Calls Tryz.prog 25 #[.agg #[iv]] w fun e w' => Wr w ⟨#[99, 111, 117, 110, 116]⟩ (kindI iv) e w' := by
  have hb0 := (Blk.Is.new w 30 #[iv]).at (i := 0) rfl
  have hB0 : Below w.heap.size w (w.alloc (.cells #[iv] 30)) := (Below.refl _ _).alloc (Nat.le_refl _) _
  have c := mustCountM_no iv h hb (w.alloc (.cells #[iv] 30))
  generalize kindI iv = A at *
  clear h hb
  go_enter Tryz.func25, Tryz.ntmps25
  go_wp2_with fail
  refine c.mono ?_
  rintro e w' hw
  have k := hw.on hB0
  obtain ⟨b, rfl, _⟩ := hw
  unfold wrongAt at k ⊢
  clear hB0 hb0 c
  go_wp2_with fail
  exact ⟨rfl, k⟩
set_option maxRecDepth 100000 in
theorem ofCount_any (x : Value) (w : World) : Calls Tryz.prog 37 #[x] w fun e w' => e = .returned (.agg #[.iface 3 x]) ∧ Below w.heap.size w w' := by
  go_enter Tryz.func37, Tryz.ntmps37
  go_wp2_with fail
  go_returns
  exact ⟨rfl, (Below.refl _ _).alloc (Nat.le_refl _) _⟩
set_option maxRecDepth 100000 in
theorem ofYes_any (x : Value) (w : World) : Calls Tryz.prog 38 #[x] w fun e w' => e = .returned (.agg #[.iface 4 x]) ∧ Below w.heap.size w w' := by
  go_enter Tryz.func38, Tryz.ntmps38
  go_wp2_with fail
  go_returns
  exact ⟨rfl, (Below.refl _ _).alloc (Nat.le_refl _) _⟩
end Va
end Go.Proofs.YtapmpdljapbpeaaGreatDoor
namespace Go.Proofs.YtapmpdljapbpeaaGreatDoor
open Go.RowKit
set_option linter.unusedSimpArgs false
set_option linter.unusedVariables false
namespace Va
set_option maxRecDepth 100000 in
/-- The deferred closure where the frame returns: recover finds nothing. -/
theorem tryD_idle (p : Addr) (w : World) (R : Ending → FrameMode → World → Prop) (hR : R (.returned (.tuple #[])) .returning w) :
    CallsD Tryz.prog 52 #[.pointer (some p)] .returning w R := by
  have ha := fun w => run_assert (w := w) (iv := .nilIface) (z := .pointer none) Tryz.underlying51 (fun _ e => by cases e) (by kernel_rfl) (.inl rfl) 20
  simp only [asT, asB] at ha
  refine callsD_of_wpS Tryz.func52 rfl fun c₀ cs hu => ?_
  obtain ⟨B, hB⟩ : ∃ B, bodyPostS Tryz.prog Tryz.f52 c₀ cs R = B := ⟨_, rfl⟩
  rw [hB]
  have HB := Lib.hid hB
  clear hB
  have HR := Lib.hid hR
  clear hR
  apply wpS_seq
  apply wpS_region
  simp [wpOpsS, go_sem, recoverD, hu, Tryz.ntmps52, Exit.thenS]
  have HU := Lib.hid hu
  clear hu
  refine wpS_of_wp ?_
  generalize hQ : (fun (e : Exit) (a' : Act) (w' : World) => B e a' (c₀ :: cs) w') = Q
  have HQ := Lib.hid hQ
  clear hQ
  rw [show (#[Value.pointer (some p)] ++ ((Array.replicate 18 undef).setIfInBounds 3 Value.nilIface).setIfInBounds 0 Value.nilIface : Array Value) = #[.pointer (some p), .nilIface, undef, undef, .nilIface, undef, undef, undef, undef, undef, undef, undef, undef, undef, undef, undef, undef, undef, undef] by kernel_rfl]
  go_wp2_with fail
  rw [← HQ.out]
  show B Exit.normal _ (c₀ :: cs) w
  rw [← HB.out]
  have hu := HU.out
  refine ⟨rfl, .returning, ?_, .tuple #[], by simp [results, Tryz.results52, go_sem], HR.out⟩
  cases c₀
  simp_all
set_option maxRecDepth 100000 in
/-- Where the frame panics with a Wrong: it is recovered, and laid. -/
theorem tryD_wrong (p q : Addr) (older : List PanicEntry) (w : World) (x : Value) (hx : w.cell? p = some x) (hz : w.frozen? p = false) (R : Ending → FrameMode → World → Prop)
    (hR : R (.returned (.tuple #[])) (.panicking ({ v := .iface 51 (.pointer (some q)), recovered := true } :: older)) (w.setCell p (.pointer (some q)))) :
    CallsD Tryz.prog 52 #[.pointer (some p)] (.panicking ({ v := .iface 51 (.pointer (some q)), recovered := false } :: older)) w R := by
  have ha := fun w => run_assert (w := w) (iv := .iface 51 (.pointer (some q))) (z := .pointer none) Tryz.underlying51 (fun _ e => by cases e) (by kernel_rfl) (.inr ⟨_, _, rfl⟩) 20
  simp only [asT, asB, if_true, decide_true] at ha
  refine callsD_of_wpS Tryz.func52 rfl fun c₀ cs hu => ?_
  obtain ⟨B, hB⟩ : ∃ B, bodyPostS Tryz.prog Tryz.f52 c₀ cs R = B := ⟨_, rfl⟩
  rw [hB]
  have HB := Lib.hid hB
  clear hB
  have HR := Lib.hid hR
  clear hR
  apply wpS_seq
  apply wpS_region
  simp [wpOpsS, go_sem, recoverD, hu, Tryz.ntmps52, Exit.thenS]
  clear hu
  refine wpS_of_wp ?_
  generalize hQ : (fun (e : Exit) (a' : Act) (w' : World) => B e a' ({ c₀ with mode := _ } :: cs) w') = Q
  have HQ := Lib.hid hQ
  clear hQ
  rw [show (#[Value.pointer (some p)] ++ ((Array.replicate 18 undef).setIfInBounds 3 (Value.iface 51 (.pointer (some q)))).setIfInBounds 0 (Value.iface 51 (.pointer (some q))) : Array Value) = #[.pointer (some p), Value.iface 51 (.pointer (some q)), undef, undef, Value.iface 51 (.pointer (some q)), undef, undef, undef, undef, undef, undef, undef, undef, undef, undef, undef, undef, undef, undef] by kernel_rfl]
  go_wp2_with fail
  rw [← HQ.out]
  show B Exit.ret _ (_ :: cs) _
  rw [← HB.out]
  exact ⟨rfl, _, rfl, .tuple #[], by simp [results, Tryz.results52, go_sem], HR.out⟩
theorem no_nil (K : FuncId) (cap : Array Value) (w : World) : (binOp BinOp.eql 1 (.func (.func K) #[] cap) .nilFunc).run Tryz.prog w = .ok (.bool false) w := by
  kernel_rfl
set_option maxRecDepth 100000 in
set_option maxHeartbeats 1000000 in
/-- Of a function that returns. -/
theorem try_ok (K : FuncId) (cap : Array Value) (he : ∀ (args : Array Value) (w : World), (callFunc K args).run Tryz.prog w = .ok (.enter K args) w) (w : World) (R0 : World → Prop)
    (c : Calls Tryz.prog K cap (w.alloc (.cells #[.pointer none] 51)) fun e W' => e = .returned (.tuple #[]) ∧ Blk.Is W' w.heap.size 51 #[.pointer none] ∧ R0 W') :
    Calls Tryz.prog 21 #[.func (.func K) #[] cap] w fun e w' => e = .returned (.pointer none) ∧ ∃ W', R0 W' ∧ w' = W'.setCell ⟨w.heap.size, 0, none⟩ (.pointer none) := by
  have hnil := no_nil K cap
  have hmf : ∀ (fn : Fn) (first cap : Array Value) (w : World), (Instr.makeFunc fn first cap).run Tryz.prog w = .ok (.func fn first cap) w := fun _ _ _ _ => rfl
  go_enter_defers Tryz.func21, Tryz.ntmps21
  go_wp2_with fail
  refine c.mono ?_
  rintro e W ⟨rfl, hi, h0⟩
  have hc := hi.at (i := 0) rfl
  have hf := hi.free 0
  have h3 := (hi.set 0 (.pointer none)).at (i := 0) (v := .pointer none) rfl
  have H0 := Lib.hid h0
  clear c h0 hi
  go_wp2_with fail
  refine leaves_cons (f := 52) (args := #[.pointer (some ⟨w.heap.size, 0, none⟩)]) (by simp) (by simp [go_sem]) ?_
  refine tryD_idle _ _ _ ?_
  simp [Leaves, settle, results, Tryz.results21, go_sem, h3]
  exact ⟨_, H0.out, rfl⟩
set_option maxRecDepth 100000 in
set_option maxHeartbeats 1000000 in
/-- Of a function that panics with a Wrong. -/
theorem try_wrong (K : FuncId) (cap : Array Value) (he : ∀ (args : Array Value) (w : World), (callFunc K args).run Tryz.prog w = .ok (.enter K args) w) (w : World) (R0 : Addr → World → Prop)
    (c : Calls Tryz.prog K cap (w.alloc (.cells #[.pointer none] 51)) fun e W' => ∃ q, e = wrongAt q ∧ Blk.Is W' w.heap.size 51 #[.pointer none] ∧ R0 q W') :
    Calls Tryz.prog 21 #[.func (.func K) #[] cap] w fun e w' => ∃ q W', e = .returned (.pointer (some q)) ∧ R0 q W' ∧ w' = W'.setCell ⟨w.heap.size, 0, none⟩ (.pointer (some q)) := by
  have hnil := no_nil K cap
  have hmf : ∀ (fn : Fn) (first cap : Array Value) (w : World), (Instr.makeFunc fn first cap).run Tryz.prog w = .ok (.func fn first cap) w := fun _ _ _ _ => rfl
  go_enter_defers Tryz.func21, Tryz.ntmps21
  go_wp2_with fail
  refine c.mono ?_
  rintro e W ⟨q, rfl, hi, h0⟩
  unfold wrongAt
  have hc := hi.at (i := 0) rfl
  have hf := hi.free 0
  have h3 := (hi.set 0 (.pointer (some q))).at (i := 0) (v := .pointer (some q)) rfl
  have H0 := Lib.hid h0
  clear c h0 hi
  go_wp2_with fail
  refine leaves_cons (f := 52) (args := #[.pointer (some ⟨w.heap.size, 0, none⟩)]) (by simp) (by simp [go_sem]) ?_
  refine tryD_wrong _ q [] _ _ hc hf _ ?_
  simp [Leaves, settle, results, Tryz.results21, go_sem, h3]
  exact ⟨_, H0.out, rfl⟩
end Va
end Go.Proofs.YtapmpdljapbpeaaGreatDoor
namespace Go.Proofs.YtapmpdljapbpeaaGreatDoor
open Go.RowKit
set_option linter.unusedSimpArgs false
set_option linter.unusedVariables false
namespace Va
open Stz (sameS)
def yesT : ByteArray := ⟨#[121, 101, 115]⟩
def noT : ByteArray := ⟨#[110, 111]⟩
set_option maxRecDepth 100000 in
theorem readYes_yes (w : World) : Calls Tryz.prog 62 #[.string yesT] w fun e w' => e = .returned (.tuple #[.agg #[.iface 4 (.bool true)], .int .i64 0]) ∧ Below w.heap.size w w' := by
  unfold yesT
  have hb0 := Blk.Is.new w 30 #[.nilIface]
  have hB0 : Below w.heap.size w (w.alloc (.cells #[.nilIface] 30)) := (Below.refl _ _).alloc (Nat.le_refl _) _
  have c := ofYes_any (.bool true) (w.alloc (.cells #[.nilIface] 30))
  go_enter Tryz.func62, Tryz.ntmps62
  go_wp2_with fail
  refine c.mono ?_
  rintro e w' ⟨rfl, kb⟩
  have hi : Blk.Is w' w.heap.size 30 #[.nilIface] := (kb.block _ hb0.lt).trans hb0
  have hc := hi.at (i := 0) rfl
  have hf := hi.free 0
  have h3 := (hi.set 0 (.iface 4 (.bool true))).at (i := 0) (v := .iface 4 (.bool true)) rfl
  have k : Below w.heap.size w (w'.setCell ⟨w.heap.size, 0, none⟩ (.iface 4 (.bool true))) := (hB0.trans (kb.mono hB0.size)).setCell (Nat.le_refl _) _
  clear kb hB0 hb0 c hi
  go_wp2_with fail
  refine bodyPost_ret (v := .tuple #[.agg #[.iface 4 (.bool true)], .int .i64 0]) (by simp [results, Tryz.results62, go_sem, h3]) rfl ⟨rfl, k⟩
set_option maxRecDepth 100000 in
theorem readYes_no (w : World) : Calls Tryz.prog 62 #[.string noT] w fun e w' => e = .returned (.tuple #[.agg #[.iface 4 (.bool false)], .int .i64 0]) ∧ Below w.heap.size w w' := by
  unfold noT
  have hb0 := Blk.Is.new w 30 #[.nilIface]
  have hB0 : Below w.heap.size w (w.alloc (.cells #[.nilIface] 30)) := (Below.refl _ _).alloc (Nat.le_refl _) _
  have c := ofYes_any (.bool false) (w.alloc (.cells #[.nilIface] 30))
  go_enter Tryz.func62, Tryz.ntmps62
  go_wp2_with fail
  refine c.mono ?_
  rintro e w' ⟨rfl, kb⟩
  have hi : Blk.Is w' w.heap.size 30 #[.nilIface] := (kb.block _ hb0.lt).trans hb0
  have hc := hi.at (i := 0) rfl
  have hf := hi.free 0
  have h3 := (hi.set 0 (.iface 4 (.bool false))).at (i := 0) (v := .iface 4 (.bool false)) rfl
  have k : Below w.heap.size w (w'.setCell ⟨w.heap.size, 0, none⟩ (.iface 4 (.bool false))) := (hB0.trans (kb.mono hB0.size)).setCell (Nat.le_refl _) _
  clear kb hB0 hb0 c hi
  go_wp2_with fail
  refine bodyPost_ret (v := .tuple #[.agg #[.iface 4 (.bool false)], .int .i64 0]) (by simp [results, Tryz.results62, go_sem, h3]) rfl ⟨rfl, k⟩
set_option maxRecDepth 100000 in
theorem readYes_else (s : ByteArray) (h1 : s ≠ yesT) (h2 : s ≠ noT) (w : World) : Calls Tryz.prog 62 #[.string s] w fun e w' => e = .returned (.tuple #[.agg #[.nilIface], .int .i64 3]) ∧ Below w.heap.size w w' := by
  have e1 : (s.toList == [121, 101, 115]) = false := beq_eq_false_iff_ne.2 fun h => h1 (ByteArray.ext (Array.ext' (by rw [← Lib.toList_data, h]; rfl)))
  have e2 : (s.toList == [110, 111]) = false := beq_eq_false_iff_ne.2 fun h => h2 (ByteArray.ext (Array.ext' (by rw [← Lib.toList_data, h]; rfl)))
  clear h1 h2
  have hb0 := Blk.Is.new w 30 #[.nilIface]
  have h3 := hb0.at (i := 0) (v := .nilIface) rfl
  have k : Below w.heap.size w (w.alloc (.cells #[.nilIface] 30)) := (Below.refl _ _).alloc (Nat.le_refl _) _
  go_enter Tryz.func62, Tryz.ntmps62
  go_wp2_with fail
  refine bodyPost_ret (v := .tuple #[.agg #[.nilIface], .int .i64 3]) (by simp [results, Tryz.results62, go_sem, h3]) rfl ⟨rfl, k⟩
theorem row_cells (w : World) (T : TypeId) (fs : List ByteArray) : ∀ j, j < fs.length → (w.alloc (.cells (fs.map Value.string).toArray T)).cell? ⟨w.heap.size, 0 + j, none⟩ = some (.string (fs.getD j ByteArray.empty)) := fun j hj => by
  rw [Nat.zero_add]
  refine (Blk.Is.new w T (fs.map Value.string).toArray).at ?_
  simp [List.getD, List.getElem?_eq_getElem hj]
theorem isAny_new (fs : List ByteArray) (name : ByteArray) (w : World) (hL : fs.length ≤ 1000) (hs : ∀ f ∈ fs, f.size ≤ 1000) :
    Calls Tryz.prog 56 #[.string name, .slice (some ⟨w.heap.size, 0, none⟩) fs.length fs.length] (w.alloc (.cells (fs.map Value.string).toArray 9)) fun e w' => e = .returned (.bool (fs.any (sameS · name))) ∧ Below w.heap.size w w' := by
  refine (isAny_any fs name w.heap.size 0 fs.length _ (row_cells w _ fs) hL (Nat.le_refl _) hs).mono ?_
  rintro e w' ⟨rfl, k⟩
  have hB : Below w.heap.size w (w.alloc (.cells (fs.map Value.string).toArray 9)) := (Below.refl _ _).alloc (Nat.le_refl _) _
  exact ⟨rfl, hB.trans (k.mono hB.size)⟩
def fs0 : List ByteArray := [(⟨#[80, 97, 99, 107, 97, 103, 101]⟩ : ByteArray)]
def isP0 (name : ByteArray) : Bool := fs0.any (sameS · name)
theorem isAny0 (name : ByteArray) (w : World) : Calls Tryz.prog 56 #[.string name, .slice (some ⟨w.heap.size, 0, none⟩) 1 1] (w.alloc (.cells #[.string ⟨#[80, 97, 99, 107, 97, 103, 101]⟩] 9)) fun e w' => e = .returned (.bool (isP0 name)) ∧ Below w.heap.size w w' :=
  isAny_new fs0 name w (by decide) (by decide)
def fs1 : List ByteArray := [(⟨#[86, 101, 114, 115, 105, 111, 110]⟩ : ByteArray)]
def isP1 (name : ByteArray) : Bool := fs1.any (sameS · name)
theorem isAny1 (name : ByteArray) (w : World) : Calls Tryz.prog 56 #[.string name, .slice (some ⟨w.heap.size, 0, none⟩) 1 1] (w.alloc (.cells #[.string ⟨#[86, 101, 114, 115, 105, 111, 110]⟩] 9)) fun e w' => e = .returned (.bool (isP1 name)) ∧ Below w.heap.size w w' :=
  isAny_new fs1 name w (by decide) (by decide)
def fs2 : List ByteArray := [(⟨#[80, 114, 101, 45, 68, 101, 112, 101, 110, 100, 115]⟩ : ByteArray), (⟨#[68, 101, 112, 101, 110, 100, 115]⟩ : ByteArray), (⟨#[82, 101, 99, 111, 109, 109, 101, 110, 100, 115]⟩ : ByteArray)]
def isP2 (name : ByteArray) : Bool := fs2.any (sameS · name)
theorem isAny2 (name : ByteArray) (w : World) : Calls Tryz.prog 56 #[.string name, .slice (some ⟨w.heap.size, 0, none⟩) 3 3] (w.alloc (.cells #[.string ⟨#[80, 114, 101, 45, 68, 101, 112, 101, 110, 100, 115]⟩, .string ⟨#[68, 101, 112, 101, 110, 100, 115]⟩, .string ⟨#[82, 101, 99, 111, 109, 109, 101, 110, 100, 115]⟩] 9)) fun e w' => e = .returned (.bool (isP2 name)) ∧ Below w.heap.size w w' :=
  isAny_new fs2 name w (by decide) (by decide)
def fs3 : List ByteArray := [(⟨#[67, 111, 110, 102, 108, 105, 99, 116, 115]⟩ : ByteArray), (⟨#[66, 114, 101, 97, 107, 115]⟩ : ByteArray)]
def isP3 (name : ByteArray) : Bool := fs3.any (sameS · name)
theorem isAny3 (name : ByteArray) (w : World) : Calls Tryz.prog 56 #[.string name, .slice (some ⟨w.heap.size, 0, none⟩) 2 2] (w.alloc (.cells #[.string ⟨#[67, 111, 110, 102, 108, 105, 99, 116, 115]⟩, .string ⟨#[66, 114, 101, 97, 107, 115]⟩] 9)) fun e w' => e = .returned (.bool (isP3 name)) ∧ Below w.heap.size w w' :=
  isAny_new fs3 name w (by decide) (by decide)
def fs4 : List ByteArray := [(⟨#[80, 114, 111, 118, 105, 100, 101, 115]⟩ : ByteArray)]
def isP4 (name : ByteArray) : Bool := fs4.any (sameS · name)
theorem isAny4 (name : ByteArray) (w : World) : Calls Tryz.prog 56 #[.string name, .slice (some ⟨w.heap.size, 0, none⟩) 1 1] (w.alloc (.cells #[.string ⟨#[80, 114, 111, 118, 105, 100, 101, 115]⟩] 9)) fun e w' => e = .returned (.bool (isP4 name)) ∧ Below w.heap.size w w' :=
  isAny_new fs4 name w (by decide) (by decide)
def fs5 : List ByteArray := [(⟨#[69, 115, 115, 101, 110, 116, 105, 97, 108]⟩ : ByteArray), (⟨#[72, 111, 108, 100]⟩ : ByteArray), (⟨#[67, 111, 110, 102, 105, 103, 117, 114, 101, 100]⟩ : ByteArray)]
def isP5 (name : ByteArray) : Bool := fs5.any (sameS · name)
theorem isAny5 (name : ByteArray) (w : World) : Calls Tryz.prog 56 #[.string name, .slice (some ⟨w.heap.size, 0, none⟩) 3 3] (w.alloc (.cells #[.string ⟨#[69, 115, 115, 101, 110, 116, 105, 97, 108]⟩, .string ⟨#[72, 111, 108, 100]⟩, .string ⟨#[67, 111, 110, 102, 105, 103, 117, 114, 101, 100]⟩] 9)) fun e w' => e = .returned (.bool (isP5 name)) ∧ Below w.heap.size w w' :=
  isAny_new fs5 name w (by decide) (by decide)
def fs6 : List ByteArray := [(⟨#[80, 114, 105, 111, 114, 105, 116, 121]⟩ : ByteArray)]
def isP6 (name : ByteArray) : Bool := fs6.any (sameS · name)
theorem isAny6 (name : ByteArray) (w : World) : Calls Tryz.prog 56 #[.string name, .slice (some ⟨w.heap.size, 0, none⟩) 1 1] (w.alloc (.cells #[.string ⟨#[80, 114, 105, 111, 114, 105, 116, 121]⟩] 9)) fun e w' => e = .returned (.bool (isP6 name)) ∧ Below w.heap.size w w' :=
  isAny_new fs6 name w (by decide) (by decide)
/-- What may be told of a value that has been read: it bears what happens below B. -/
structure Told (A : Nat → World → Value → Int → Prop) : Prop where
  on : ∀ B u u' v er, A B u v er → Blk.Chg (fun k => k < B) u u' → A B u' v er
  mono : ∀ B B' u v er, B' ≤ B → A B u v er → A B' u v er
set_option maxRecDepth 100000 in
set_option maxHeartbeats 1000000 in
theorem read_k0 (name s : ByteArray) (h0 : isP0 name = true) (w : World) (A : Nat → World → Value → Int → Prop) (hA : Told A) (c : ∀ w', Below w.heap.size w w' → Calls Tryz.prog 57 #[.string s] w' fun e w'' => ∃ v er, e = .returned (.tuple #[.agg #[v], .int .i64 er]) ∧ IsI v ∧ Below w'.heap.size w' w'' ∧ A w'.heap.size w'' v er) :
    Calls Tryz.prog 30 #[.string name, .string s] w fun e w' => ∃ v er, e = .returned (.tuple #[.agg #[v], .int .i64 er]) ∧ IsI v ∧ Below w.heap.size w w' ∧ A w.heap.size w' v er := by
  have hb0 := Blk.Is.new w 30 #[.nilIface]
  have hB0 : Below w.heap.size w (w.alloc (.cells #[.nilIface] 30)) := (Below.refl _ _).alloc (Nat.le_refl _) _
  have hs0 : (w.alloc (.cells #[.nilIface] 30)).heap.size = w.heap.size + 1 := by simp
  have C := Lib.hid c
  clear c
  have c0 := isAny0 name (w.alloc (.cells #[.nilIface] 30))
  rw [h0, hs0] at c0
  go_enter Tryz.func30, Tryz.ntmps30
  go_wp2_with fail
  refine c0.mono ?_
  rintro e w1 ⟨rfl, k1⟩
  have hb1 : Blk.Is w1 w.heap.size 30 #[.nilIface] := (k1.block _ (by omega)).trans hb0
  have hB1 := hB0.trans (k1.mono (by omega))
  have hs1 : w.heap.size + 1 ≤ w1.heap.size := hs0 ▸ k1.size
  clear hb0 hB0 hs0 k1 c0
  go_wp2_with fail
  refine (C.out _ hB1).mono ?_
  rintro e W ⟨v, er, rfl, hv, kb, ha⟩
  have hi : Blk.Is W w.heap.size 30 #[.nilIface] := (kb.block _ hb1.lt).trans hb1
  have hc := hi.at (i := 0) rfl
  have hf := hi.free 0
  have h9 := (hi.set 0 v).at (i := 0) (v := v) rfl
  have k : Below w.heap.size w (W.setCell ⟨w.heap.size, 0, none⟩ v) := (hB1.trans (kb.mono hB1.size)).setCell (Nat.le_refl _) _
  have HA := Lib.hid (hA.mono _ w.heap.size _ _ _ (by omega) (hA.on _ _ (W.setCell ⟨w.heap.size, 0, none⟩ v) _ _ ha ((Blk.Chg.refl _ W).setAt (b := w.heap.size) (o := 0) (u := v) (Nat.lt_of_lt_of_le (Nat.lt_succ_self _) hs1))))
  clear kb hB1 hb1 hs1 hi ha C
  rcases hv with rfl | ⟨t, x, rfl⟩
  · go_wp2_with fail
    refine bodyPost_ret (v := .tuple #[.agg #[.nilIface], .int .i64 er]) ?_ rfl ?_
    · simp [results, Tryz.results30, go_sem, h9]
    · exact ⟨_, _, rfl, .inl rfl, k, HA.out⟩
  · go_wp2_with fail
    refine bodyPost_ret (v := .tuple #[.agg #[.iface t x], .int .i64 er]) ?_ rfl ?_
    · simp [results, Tryz.results30, go_sem, h9]
    · exact ⟨_, _, rfl, .inr ⟨_, _, rfl⟩, k, HA.out⟩
set_option maxRecDepth 100000 in
set_option maxHeartbeats 1000000 in
theorem read_k1 (name s : ByteArray) (h0 : isP0 name = false) (h1 : isP1 name = true) (w : World) (A : Nat → World → Value → Int → Prop) (hA : Told A) (c : ∀ w', Below w.heap.size w w' → Calls Tryz.prog 58 #[.string s] w' fun e w'' => ∃ v er, e = .returned (.tuple #[.agg #[v], .int .i64 er]) ∧ IsI v ∧ Below w'.heap.size w' w'' ∧ A w'.heap.size w'' v er) :
    Calls Tryz.prog 30 #[.string name, .string s] w fun e w' => ∃ v er, e = .returned (.tuple #[.agg #[v], .int .i64 er]) ∧ IsI v ∧ Below w.heap.size w w' ∧ A w.heap.size w' v er := by
  have hb0 := Blk.Is.new w 30 #[.nilIface]
  have hB0 : Below w.heap.size w (w.alloc (.cells #[.nilIface] 30)) := (Below.refl _ _).alloc (Nat.le_refl _) _
  have hs0 : (w.alloc (.cells #[.nilIface] 30)).heap.size = w.heap.size + 1 := by simp
  have C := Lib.hid c
  clear c
  have c0 := isAny0 name (w.alloc (.cells #[.nilIface] 30))
  rw [h0, hs0] at c0
  have c1 := fun w => isAny1 name w
  rw [h1] at c1
  go_enter Tryz.func30, Tryz.ntmps30
  go_wp2_with fail
  refine c0.mono ?_
  rintro e w1 ⟨rfl, k1⟩
  have hb1 : Blk.Is w1 w.heap.size 30 #[.nilIface] := (k1.block _ (by omega)).trans hb0
  have hB1 := hB0.trans (k1.mono (by omega))
  have hs1 : w.heap.size + 1 ≤ w1.heap.size := hs0 ▸ k1.size
  clear hb0 hB0 hs0 k1 c0
  go_wp2_with fail
  refine (c1 _).mono ?_
  rintro e w2 ⟨rfl, k2⟩
  have hb2 : Blk.Is w2 w.heap.size 30 #[.nilIface] := (k2.block _ hb1.lt).trans hb1
  have hB2 := hB1.trans (k2.mono hB1.size)
  have hs2 : w.heap.size + 1 ≤ w2.heap.size := Nat.le_trans hs1 k2.size
  clear hb1 hB1 hs1 k2 c1
  go_wp2_with fail
  refine (C.out _ hB2).mono ?_
  rintro e W ⟨v, er, rfl, hv, kb, ha⟩
  have hi : Blk.Is W w.heap.size 30 #[.nilIface] := (kb.block _ hb2.lt).trans hb2
  have hc := hi.at (i := 0) rfl
  have hf := hi.free 0
  have h9 := (hi.set 0 v).at (i := 0) (v := v) rfl
  have k : Below w.heap.size w (W.setCell ⟨w.heap.size, 0, none⟩ v) := (hB2.trans (kb.mono hB2.size)).setCell (Nat.le_refl _) _
  have HA := Lib.hid (hA.mono _ w.heap.size _ _ _ (by omega) (hA.on _ _ (W.setCell ⟨w.heap.size, 0, none⟩ v) _ _ ha ((Blk.Chg.refl _ W).setAt (b := w.heap.size) (o := 0) (u := v) (Nat.lt_of_lt_of_le (Nat.lt_succ_self _) hs2))))
  clear kb hB2 hb2 hs2 hi ha C
  rcases hv with rfl | ⟨t, x, rfl⟩
  · go_wp2_with fail
    refine bodyPost_ret (v := .tuple #[.agg #[.nilIface], .int .i64 er]) ?_ rfl ?_
    · simp [results, Tryz.results30, go_sem, h9]
    · exact ⟨_, _, rfl, .inl rfl, k, HA.out⟩
  · go_wp2_with fail
    refine bodyPost_ret (v := .tuple #[.agg #[.iface t x], .int .i64 er]) ?_ rfl ?_
    · simp [results, Tryz.results30, go_sem, h9]
    · exact ⟨_, _, rfl, .inr ⟨_, _, rfl⟩, k, HA.out⟩
set_option maxRecDepth 100000 in
set_option maxHeartbeats 1000000 in
theorem read_k2 (name s : ByteArray) (h0 : isP0 name = false) (h1 : isP1 name = false) (h2 : isP2 name = true) (w : World) (A : Nat → World → Value → Int → Prop) (hA : Told A) (c : ∀ w', Below w.heap.size w w' → Calls Tryz.prog 59 #[.string s] w' fun e w'' => ∃ v er, e = .returned (.tuple #[.agg #[v], .int .i64 er]) ∧ IsI v ∧ Below w'.heap.size w' w'' ∧ A w'.heap.size w'' v er) :
    Calls Tryz.prog 30 #[.string name, .string s] w fun e w' => ∃ v er, e = .returned (.tuple #[.agg #[v], .int .i64 er]) ∧ IsI v ∧ Below w.heap.size w w' ∧ A w.heap.size w' v er := by
  have hb0 := Blk.Is.new w 30 #[.nilIface]
  have hB0 : Below w.heap.size w (w.alloc (.cells #[.nilIface] 30)) := (Below.refl _ _).alloc (Nat.le_refl _) _
  have hs0 : (w.alloc (.cells #[.nilIface] 30)).heap.size = w.heap.size + 1 := by simp
  have C := Lib.hid c
  clear c
  have c0 := isAny0 name (w.alloc (.cells #[.nilIface] 30))
  rw [h0, hs0] at c0
  have c1 := fun w => isAny1 name w
  rw [h1] at c1
  have c2 := fun w => isAny2 name w
  rw [h2] at c2
  go_enter Tryz.func30, Tryz.ntmps30
  go_wp2_with fail
  refine c0.mono ?_
  rintro e w1 ⟨rfl, k1⟩
  have hb1 : Blk.Is w1 w.heap.size 30 #[.nilIface] := (k1.block _ (by omega)).trans hb0
  have hB1 := hB0.trans (k1.mono (by omega))
  have hs1 : w.heap.size + 1 ≤ w1.heap.size := hs0 ▸ k1.size
  clear hb0 hB0 hs0 k1 c0
  go_wp2_with fail
  refine (c1 _).mono ?_
  rintro e w2 ⟨rfl, k2⟩
  have hb2 : Blk.Is w2 w.heap.size 30 #[.nilIface] := (k2.block _ hb1.lt).trans hb1
  have hB2 := hB1.trans (k2.mono hB1.size)
  have hs2 : w.heap.size + 1 ≤ w2.heap.size := Nat.le_trans hs1 k2.size
  clear hb1 hB1 hs1 k2 c1
  go_wp2_with fail
  refine (c2 _).mono ?_
  rintro e w3 ⟨rfl, k3⟩
  have hb3 : Blk.Is w3 w.heap.size 30 #[.nilIface] := (k3.block _ hb2.lt).trans hb2
  have hB3 := hB2.trans (k3.mono hB2.size)
  have hs3 : w.heap.size + 1 ≤ w3.heap.size := Nat.le_trans hs2 k3.size
  clear hb2 hB2 hs2 k3 c2
  go_wp2_with fail
  refine (C.out _ hB3).mono ?_
  rintro e W ⟨v, er, rfl, hv, kb, ha⟩
  have hi : Blk.Is W w.heap.size 30 #[.nilIface] := (kb.block _ hb3.lt).trans hb3
  have hc := hi.at (i := 0) rfl
  have hf := hi.free 0
  have h9 := (hi.set 0 v).at (i := 0) (v := v) rfl
  have k : Below w.heap.size w (W.setCell ⟨w.heap.size, 0, none⟩ v) := (hB3.trans (kb.mono hB3.size)).setCell (Nat.le_refl _) _
  have HA := Lib.hid (hA.mono _ w.heap.size _ _ _ (by omega) (hA.on _ _ (W.setCell ⟨w.heap.size, 0, none⟩ v) _ _ ha ((Blk.Chg.refl _ W).setAt (b := w.heap.size) (o := 0) (u := v) (Nat.lt_of_lt_of_le (Nat.lt_succ_self _) hs3))))
  clear kb hB3 hb3 hs3 hi ha C
  rcases hv with rfl | ⟨t, x, rfl⟩
  · go_wp2_with fail
    refine bodyPost_ret (v := .tuple #[.agg #[.nilIface], .int .i64 er]) ?_ rfl ?_
    · simp [results, Tryz.results30, go_sem, h9]
    · exact ⟨_, _, rfl, .inl rfl, k, HA.out⟩
  · go_wp2_with fail
    refine bodyPost_ret (v := .tuple #[.agg #[.iface t x], .int .i64 er]) ?_ rfl ?_
    · simp [results, Tryz.results30, go_sem, h9]
    · exact ⟨_, _, rfl, .inr ⟨_, _, rfl⟩, k, HA.out⟩
set_option maxRecDepth 100000 in
set_option maxHeartbeats 1000000 in
theorem read_k3 (name s : ByteArray) (h0 : isP0 name = false) (h1 : isP1 name = false) (h2 : isP2 name = false) (h3 : isP3 name = true) (w : World) (A : Nat → World → Value → Int → Prop) (hA : Told A) (c : ∀ w', Below w.heap.size w w' → Calls Tryz.prog 60 #[.string s] w' fun e w'' => ∃ v er, e = .returned (.tuple #[.agg #[v], .int .i64 er]) ∧ IsI v ∧ Below w'.heap.size w' w'' ∧ A w'.heap.size w'' v er) :
    Calls Tryz.prog 30 #[.string name, .string s] w fun e w' => ∃ v er, e = .returned (.tuple #[.agg #[v], .int .i64 er]) ∧ IsI v ∧ Below w.heap.size w w' ∧ A w.heap.size w' v er := by
  have hb0 := Blk.Is.new w 30 #[.nilIface]
  have hB0 : Below w.heap.size w (w.alloc (.cells #[.nilIface] 30)) := (Below.refl _ _).alloc (Nat.le_refl _) _
  have hs0 : (w.alloc (.cells #[.nilIface] 30)).heap.size = w.heap.size + 1 := by simp
  have C := Lib.hid c
  clear c
  have c0 := isAny0 name (w.alloc (.cells #[.nilIface] 30))
  rw [h0, hs0] at c0
  have c1 := fun w => isAny1 name w
  rw [h1] at c1
  have c2 := fun w => isAny2 name w
  rw [h2] at c2
  have c3 := fun w => isAny3 name w
  rw [h3] at c3
  go_enter Tryz.func30, Tryz.ntmps30
  go_wp2_with fail
  refine c0.mono ?_
  rintro e w1 ⟨rfl, k1⟩
  have hb1 : Blk.Is w1 w.heap.size 30 #[.nilIface] := (k1.block _ (by omega)).trans hb0
  have hB1 := hB0.trans (k1.mono (by omega))
  have hs1 : w.heap.size + 1 ≤ w1.heap.size := hs0 ▸ k1.size
  clear hb0 hB0 hs0 k1 c0
  go_wp2_with fail
  refine (c1 _).mono ?_
  rintro e w2 ⟨rfl, k2⟩
  have hb2 : Blk.Is w2 w.heap.size 30 #[.nilIface] := (k2.block _ hb1.lt).trans hb1
  have hB2 := hB1.trans (k2.mono hB1.size)
  have hs2 : w.heap.size + 1 ≤ w2.heap.size := Nat.le_trans hs1 k2.size
  clear hb1 hB1 hs1 k2 c1
  go_wp2_with fail
  refine (c2 _).mono ?_
  rintro e w3 ⟨rfl, k3⟩
  have hb3 : Blk.Is w3 w.heap.size 30 #[.nilIface] := (k3.block _ hb2.lt).trans hb2
  have hB3 := hB2.trans (k3.mono hB2.size)
  have hs3 : w.heap.size + 1 ≤ w3.heap.size := Nat.le_trans hs2 k3.size
  clear hb2 hB2 hs2 k3 c2
  go_wp2_with fail
  refine (c3 _).mono ?_
  rintro e w4 ⟨rfl, k4⟩
  have hb4 : Blk.Is w4 w.heap.size 30 #[.nilIface] := (k4.block _ hb3.lt).trans hb3
  have hB4 := hB3.trans (k4.mono hB3.size)
  have hs4 : w.heap.size + 1 ≤ w4.heap.size := Nat.le_trans hs3 k4.size
  clear hb3 hB3 hs3 k4 c3
  go_wp2_with fail
  refine (C.out _ hB4).mono ?_
  rintro e W ⟨v, er, rfl, hv, kb, ha⟩
  have hi : Blk.Is W w.heap.size 30 #[.nilIface] := (kb.block _ hb4.lt).trans hb4
  have hc := hi.at (i := 0) rfl
  have hf := hi.free 0
  have h9 := (hi.set 0 v).at (i := 0) (v := v) rfl
  have k : Below w.heap.size w (W.setCell ⟨w.heap.size, 0, none⟩ v) := (hB4.trans (kb.mono hB4.size)).setCell (Nat.le_refl _) _
  have HA := Lib.hid (hA.mono _ w.heap.size _ _ _ (by omega) (hA.on _ _ (W.setCell ⟨w.heap.size, 0, none⟩ v) _ _ ha ((Blk.Chg.refl _ W).setAt (b := w.heap.size) (o := 0) (u := v) (Nat.lt_of_lt_of_le (Nat.lt_succ_self _) hs4))))
  clear kb hB4 hb4 hs4 hi ha C
  rcases hv with rfl | ⟨t, x, rfl⟩
  · go_wp2_with fail
    refine bodyPost_ret (v := .tuple #[.agg #[.nilIface], .int .i64 er]) ?_ rfl ?_
    · simp [results, Tryz.results30, go_sem, h9]
    · exact ⟨_, _, rfl, .inl rfl, k, HA.out⟩
  · go_wp2_with fail
    refine bodyPost_ret (v := .tuple #[.agg #[.iface t x], .int .i64 er]) ?_ rfl ?_
    · simp [results, Tryz.results30, go_sem, h9]
    · exact ⟨_, _, rfl, .inr ⟨_, _, rfl⟩, k, HA.out⟩
set_option maxRecDepth 100000 in
set_option maxHeartbeats 1000000 in
theorem read_k4 (name s : ByteArray) (h0 : isP0 name = false) (h1 : isP1 name = false) (h2 : isP2 name = false) (h3 : isP3 name = false) (h4 : isP4 name = true) (w : World) (A : Nat → World → Value → Int → Prop) (hA : Told A) (c : ∀ w', Below w.heap.size w w' → Calls Tryz.prog 61 #[.string s] w' fun e w'' => ∃ v er, e = .returned (.tuple #[.agg #[v], .int .i64 er]) ∧ IsI v ∧ Below w'.heap.size w' w'' ∧ A w'.heap.size w'' v er) :
    Calls Tryz.prog 30 #[.string name, .string s] w fun e w' => ∃ v er, e = .returned (.tuple #[.agg #[v], .int .i64 er]) ∧ IsI v ∧ Below w.heap.size w w' ∧ A w.heap.size w' v er := by
  have hb0 := Blk.Is.new w 30 #[.nilIface]
  have hB0 : Below w.heap.size w (w.alloc (.cells #[.nilIface] 30)) := (Below.refl _ _).alloc (Nat.le_refl _) _
  have hs0 : (w.alloc (.cells #[.nilIface] 30)).heap.size = w.heap.size + 1 := by simp
  have C := Lib.hid c
  clear c
  have c0 := isAny0 name (w.alloc (.cells #[.nilIface] 30))
  rw [h0, hs0] at c0
  have c1 := fun w => isAny1 name w
  rw [h1] at c1
  have c2 := fun w => isAny2 name w
  rw [h2] at c2
  have c3 := fun w => isAny3 name w
  rw [h3] at c3
  have c4 := fun w => isAny4 name w
  rw [h4] at c4
  go_enter Tryz.func30, Tryz.ntmps30
  go_wp2_with fail
  refine c0.mono ?_
  rintro e w1 ⟨rfl, k1⟩
  have hb1 : Blk.Is w1 w.heap.size 30 #[.nilIface] := (k1.block _ (by omega)).trans hb0
  have hB1 := hB0.trans (k1.mono (by omega))
  have hs1 : w.heap.size + 1 ≤ w1.heap.size := hs0 ▸ k1.size
  clear hb0 hB0 hs0 k1 c0
  go_wp2_with fail
  refine (c1 _).mono ?_
  rintro e w2 ⟨rfl, k2⟩
  have hb2 : Blk.Is w2 w.heap.size 30 #[.nilIface] := (k2.block _ hb1.lt).trans hb1
  have hB2 := hB1.trans (k2.mono hB1.size)
  have hs2 : w.heap.size + 1 ≤ w2.heap.size := Nat.le_trans hs1 k2.size
  clear hb1 hB1 hs1 k2 c1
  go_wp2_with fail
  refine (c2 _).mono ?_
  rintro e w3 ⟨rfl, k3⟩
  have hb3 : Blk.Is w3 w.heap.size 30 #[.nilIface] := (k3.block _ hb2.lt).trans hb2
  have hB3 := hB2.trans (k3.mono hB2.size)
  have hs3 : w.heap.size + 1 ≤ w3.heap.size := Nat.le_trans hs2 k3.size
  clear hb2 hB2 hs2 k3 c2
  go_wp2_with fail
  refine (c3 _).mono ?_
  rintro e w4 ⟨rfl, k4⟩
  have hb4 : Blk.Is w4 w.heap.size 30 #[.nilIface] := (k4.block _ hb3.lt).trans hb3
  have hB4 := hB3.trans (k4.mono hB3.size)
  have hs4 : w.heap.size + 1 ≤ w4.heap.size := Nat.le_trans hs3 k4.size
  clear hb3 hB3 hs3 k4 c3
  go_wp2_with fail
  refine (c4 _).mono ?_
  rintro e w5 ⟨rfl, k5⟩
  have hb5 : Blk.Is w5 w.heap.size 30 #[.nilIface] := (k5.block _ hb4.lt).trans hb4
  have hB5 := hB4.trans (k5.mono hB4.size)
  have hs5 : w.heap.size + 1 ≤ w5.heap.size := Nat.le_trans hs4 k5.size
  clear hb4 hB4 hs4 k5 c4
  go_wp2_with fail
  refine (C.out _ hB5).mono ?_
  rintro e W ⟨v, er, rfl, hv, kb, ha⟩
  have hi : Blk.Is W w.heap.size 30 #[.nilIface] := (kb.block _ hb5.lt).trans hb5
  have hc := hi.at (i := 0) rfl
  have hf := hi.free 0
  have h9 := (hi.set 0 v).at (i := 0) (v := v) rfl
  have k : Below w.heap.size w (W.setCell ⟨w.heap.size, 0, none⟩ v) := (hB5.trans (kb.mono hB5.size)).setCell (Nat.le_refl _) _
  have HA := Lib.hid (hA.mono _ w.heap.size _ _ _ (by omega) (hA.on _ _ (W.setCell ⟨w.heap.size, 0, none⟩ v) _ _ ha ((Blk.Chg.refl _ W).setAt (b := w.heap.size) (o := 0) (u := v) (Nat.lt_of_lt_of_le (Nat.lt_succ_self _) hs5))))
  clear kb hB5 hb5 hs5 hi ha C
  rcases hv with rfl | ⟨t, x, rfl⟩
  · go_wp2_with fail
    refine bodyPost_ret (v := .tuple #[.agg #[.nilIface], .int .i64 er]) ?_ rfl ?_
    · simp [results, Tryz.results30, go_sem, h9]
    · exact ⟨_, _, rfl, .inl rfl, k, HA.out⟩
  · go_wp2_with fail
    refine bodyPost_ret (v := .tuple #[.agg #[.iface t x], .int .i64 er]) ?_ rfl ?_
    · simp [results, Tryz.results30, go_sem, h9]
    · exact ⟨_, _, rfl, .inr ⟨_, _, rfl⟩, k, HA.out⟩
set_option maxRecDepth 100000 in
set_option maxHeartbeats 1000000 in
theorem read_k5 (name s : ByteArray) (h0 : isP0 name = false) (h1 : isP1 name = false) (h2 : isP2 name = false) (h3 : isP3 name = false) (h4 : isP4 name = false) (h5 : isP5 name = true) (w : World) (A : Nat → World → Value → Int → Prop) (hA : Told A) (c : ∀ w', Below w.heap.size w w' → Calls Tryz.prog 62 #[.string s] w' fun e w'' => ∃ v er, e = .returned (.tuple #[.agg #[v], .int .i64 er]) ∧ IsI v ∧ Below w'.heap.size w' w'' ∧ A w'.heap.size w'' v er) :
    Calls Tryz.prog 30 #[.string name, .string s] w fun e w' => ∃ v er, e = .returned (.tuple #[.agg #[v], .int .i64 er]) ∧ IsI v ∧ Below w.heap.size w w' ∧ A w.heap.size w' v er := by
  have hb0 := Blk.Is.new w 30 #[.nilIface]
  have hB0 : Below w.heap.size w (w.alloc (.cells #[.nilIface] 30)) := (Below.refl _ _).alloc (Nat.le_refl _) _
  have hs0 : (w.alloc (.cells #[.nilIface] 30)).heap.size = w.heap.size + 1 := by simp
  have C := Lib.hid c
  clear c
  have c0 := isAny0 name (w.alloc (.cells #[.nilIface] 30))
  rw [h0, hs0] at c0
  have c1 := fun w => isAny1 name w
  rw [h1] at c1
  have c2 := fun w => isAny2 name w
  rw [h2] at c2
  have c3 := fun w => isAny3 name w
  rw [h3] at c3
  have c4 := fun w => isAny4 name w
  rw [h4] at c4
  have c5 := fun w => isAny5 name w
  rw [h5] at c5
  go_enter Tryz.func30, Tryz.ntmps30
  go_wp2_with fail
  refine c0.mono ?_
  rintro e w1 ⟨rfl, k1⟩
  have hb1 : Blk.Is w1 w.heap.size 30 #[.nilIface] := (k1.block _ (by omega)).trans hb0
  have hB1 := hB0.trans (k1.mono (by omega))
  have hs1 : w.heap.size + 1 ≤ w1.heap.size := hs0 ▸ k1.size
  clear hb0 hB0 hs0 k1 c0
  go_wp2_with fail
  refine (c1 _).mono ?_
  rintro e w2 ⟨rfl, k2⟩
  have hb2 : Blk.Is w2 w.heap.size 30 #[.nilIface] := (k2.block _ hb1.lt).trans hb1
  have hB2 := hB1.trans (k2.mono hB1.size)
  have hs2 : w.heap.size + 1 ≤ w2.heap.size := Nat.le_trans hs1 k2.size
  clear hb1 hB1 hs1 k2 c1
  go_wp2_with fail
  refine (c2 _).mono ?_
  rintro e w3 ⟨rfl, k3⟩
  have hb3 : Blk.Is w3 w.heap.size 30 #[.nilIface] := (k3.block _ hb2.lt).trans hb2
  have hB3 := hB2.trans (k3.mono hB2.size)
  have hs3 : w.heap.size + 1 ≤ w3.heap.size := Nat.le_trans hs2 k3.size
  clear hb2 hB2 hs2 k3 c2
  go_wp2_with fail
  refine (c3 _).mono ?_
  rintro e w4 ⟨rfl, k4⟩
  have hb4 : Blk.Is w4 w.heap.size 30 #[.nilIface] := (k4.block _ hb3.lt).trans hb3
  have hB4 := hB3.trans (k4.mono hB3.size)
  have hs4 : w.heap.size + 1 ≤ w4.heap.size := Nat.le_trans hs3 k4.size
  clear hb3 hB3 hs3 k4 c3
  go_wp2_with fail
  refine (c4 _).mono ?_
  rintro e w5 ⟨rfl, k5⟩
  have hb5 : Blk.Is w5 w.heap.size 30 #[.nilIface] := (k5.block _ hb4.lt).trans hb4
  have hB5 := hB4.trans (k5.mono hB4.size)
  have hs5 : w.heap.size + 1 ≤ w5.heap.size := Nat.le_trans hs4 k5.size
  clear hb4 hB4 hs4 k5 c4
  go_wp2_with fail
  refine (c5 _).mono ?_
  rintro e w6 ⟨rfl, k6⟩
  have hb6 : Blk.Is w6 w.heap.size 30 #[.nilIface] := (k6.block _ hb5.lt).trans hb5
  have hB6 := hB5.trans (k6.mono hB5.size)
  have hs6 : w.heap.size + 1 ≤ w6.heap.size := Nat.le_trans hs5 k6.size
  clear hb5 hB5 hs5 k6 c5
  go_wp2_with fail
  refine (C.out _ hB6).mono ?_
  rintro e W ⟨v, er, rfl, hv, kb, ha⟩
  have hi : Blk.Is W w.heap.size 30 #[.nilIface] := (kb.block _ hb6.lt).trans hb6
  have hc := hi.at (i := 0) rfl
  have hf := hi.free 0
  have h9 := (hi.set 0 v).at (i := 0) (v := v) rfl
  have k : Below w.heap.size w (W.setCell ⟨w.heap.size, 0, none⟩ v) := (hB6.trans (kb.mono hB6.size)).setCell (Nat.le_refl _) _
  have HA := Lib.hid (hA.mono _ w.heap.size _ _ _ (by omega) (hA.on _ _ (W.setCell ⟨w.heap.size, 0, none⟩ v) _ _ ha ((Blk.Chg.refl _ W).setAt (b := w.heap.size) (o := 0) (u := v) (Nat.lt_of_lt_of_le (Nat.lt_succ_self _) hs6))))
  clear kb hB6 hb6 hs6 hi ha C
  rcases hv with rfl | ⟨t, x, rfl⟩
  · go_wp2_with fail
    refine bodyPost_ret (v := .tuple #[.agg #[.nilIface], .int .i64 er]) ?_ rfl ?_
    · simp [results, Tryz.results30, go_sem, h9]
    · exact ⟨_, _, rfl, .inl rfl, k, HA.out⟩
  · go_wp2_with fail
    refine bodyPost_ret (v := .tuple #[.agg #[.iface t x], .int .i64 er]) ?_ rfl ?_
    · simp [results, Tryz.results30, go_sem, h9]
    · exact ⟨_, _, rfl, .inr ⟨_, _, rfl⟩, k, HA.out⟩
set_option maxRecDepth 100000 in
set_option maxHeartbeats 1000000 in
theorem read_k6 (name s : ByteArray) (h0 : isP0 name = false) (h1 : isP1 name = false) (h2 : isP2 name = false) (h3 : isP3 name = false) (h4 : isP4 name = false) (h5 : isP5 name = false) (h6 : isP6 name = true) (w : World) (A : Nat → World → Value → Int → Prop) (hA : Told A) (c : ∀ w', Below w.heap.size w w' → Calls Tryz.prog 63 #[.string s] w' fun e w'' => ∃ v er, e = .returned (.tuple #[.agg #[v], .int .i64 er]) ∧ IsI v ∧ Below w'.heap.size w' w'' ∧ A w'.heap.size w'' v er) :
    Calls Tryz.prog 30 #[.string name, .string s] w fun e w' => ∃ v er, e = .returned (.tuple #[.agg #[v], .int .i64 er]) ∧ IsI v ∧ Below w.heap.size w w' ∧ A w.heap.size w' v er := by
  have hb0 := Blk.Is.new w 30 #[.nilIface]
  have hB0 : Below w.heap.size w (w.alloc (.cells #[.nilIface] 30)) := (Below.refl _ _).alloc (Nat.le_refl _) _
  have hs0 : (w.alloc (.cells #[.nilIface] 30)).heap.size = w.heap.size + 1 := by simp
  have C := Lib.hid c
  clear c
  have c0 := isAny0 name (w.alloc (.cells #[.nilIface] 30))
  rw [h0, hs0] at c0
  have c1 := fun w => isAny1 name w
  rw [h1] at c1
  have c2 := fun w => isAny2 name w
  rw [h2] at c2
  have c3 := fun w => isAny3 name w
  rw [h3] at c3
  have c4 := fun w => isAny4 name w
  rw [h4] at c4
  have c5 := fun w => isAny5 name w
  rw [h5] at c5
  have c6 := fun w => isAny6 name w
  rw [h6] at c6
  go_enter Tryz.func30, Tryz.ntmps30
  go_wp2_with fail
  refine c0.mono ?_
  rintro e w1 ⟨rfl, k1⟩
  have hb1 : Blk.Is w1 w.heap.size 30 #[.nilIface] := (k1.block _ (by omega)).trans hb0
  have hB1 := hB0.trans (k1.mono (by omega))
  have hs1 : w.heap.size + 1 ≤ w1.heap.size := hs0 ▸ k1.size
  clear hb0 hB0 hs0 k1 c0
  go_wp2_with fail
  refine (c1 _).mono ?_
  rintro e w2 ⟨rfl, k2⟩
  have hb2 : Blk.Is w2 w.heap.size 30 #[.nilIface] := (k2.block _ hb1.lt).trans hb1
  have hB2 := hB1.trans (k2.mono hB1.size)
  have hs2 : w.heap.size + 1 ≤ w2.heap.size := Nat.le_trans hs1 k2.size
  clear hb1 hB1 hs1 k2 c1
  go_wp2_with fail
  refine (c2 _).mono ?_
  rintro e w3 ⟨rfl, k3⟩
  have hb3 : Blk.Is w3 w.heap.size 30 #[.nilIface] := (k3.block _ hb2.lt).trans hb2
  have hB3 := hB2.trans (k3.mono hB2.size)
  have hs3 : w.heap.size + 1 ≤ w3.heap.size := Nat.le_trans hs2 k3.size
  clear hb2 hB2 hs2 k3 c2
  go_wp2_with fail
  refine (c3 _).mono ?_
  rintro e w4 ⟨rfl, k4⟩
  have hb4 : Blk.Is w4 w.heap.size 30 #[.nilIface] := (k4.block _ hb3.lt).trans hb3
  have hB4 := hB3.trans (k4.mono hB3.size)
  have hs4 : w.heap.size + 1 ≤ w4.heap.size := Nat.le_trans hs3 k4.size
  clear hb3 hB3 hs3 k4 c3
  go_wp2_with fail
  refine (c4 _).mono ?_
  rintro e w5 ⟨rfl, k5⟩
  have hb5 : Blk.Is w5 w.heap.size 30 #[.nilIface] := (k5.block _ hb4.lt).trans hb4
  have hB5 := hB4.trans (k5.mono hB4.size)
  have hs5 : w.heap.size + 1 ≤ w5.heap.size := Nat.le_trans hs4 k5.size
  clear hb4 hB4 hs4 k5 c4
  go_wp2_with fail
  refine (c5 _).mono ?_
  rintro e w6 ⟨rfl, k6⟩
  have hb6 : Blk.Is w6 w.heap.size 30 #[.nilIface] := (k6.block _ hb5.lt).trans hb5
  have hB6 := hB5.trans (k6.mono hB5.size)
  have hs6 : w.heap.size + 1 ≤ w6.heap.size := Nat.le_trans hs5 k6.size
  clear hb5 hB5 hs5 k6 c5
  go_wp2_with fail
  refine (c6 _).mono ?_
  rintro e w7 ⟨rfl, k7⟩
  have hb7 : Blk.Is w7 w.heap.size 30 #[.nilIface] := (k7.block _ hb6.lt).trans hb6
  have hB7 := hB6.trans (k7.mono hB6.size)
  have hs7 : w.heap.size + 1 ≤ w7.heap.size := Nat.le_trans hs6 k7.size
  clear hb6 hB6 hs6 k7 c6
  go_wp2_with fail
  refine (C.out _ hB7).mono ?_
  rintro e W ⟨v, er, rfl, hv, kb, ha⟩
  have hi : Blk.Is W w.heap.size 30 #[.nilIface] := (kb.block _ hb7.lt).trans hb7
  have hc := hi.at (i := 0) rfl
  have hf := hi.free 0
  have h9 := (hi.set 0 v).at (i := 0) (v := v) rfl
  have k : Below w.heap.size w (W.setCell ⟨w.heap.size, 0, none⟩ v) := (hB7.trans (kb.mono hB7.size)).setCell (Nat.le_refl _) _
  have HA := Lib.hid (hA.mono _ w.heap.size _ _ _ (by omega) (hA.on _ _ (W.setCell ⟨w.heap.size, 0, none⟩ v) _ _ ha ((Blk.Chg.refl _ W).setAt (b := w.heap.size) (o := 0) (u := v) (Nat.lt_of_lt_of_le (Nat.lt_succ_self _) hs7))))
  clear kb hB7 hb7 hs7 hi ha C
  rcases hv with rfl | ⟨t, x, rfl⟩
  · go_wp2_with fail
    refine bodyPost_ret (v := .tuple #[.agg #[.nilIface], .int .i64 er]) ?_ rfl ?_
    · simp [results, Tryz.results30, go_sem, h9]
    · exact ⟨_, _, rfl, .inl rfl, k, HA.out⟩
  · go_wp2_with fail
    refine bodyPost_ret (v := .tuple #[.agg #[.iface t x], .int .i64 er]) ?_ rfl ?_
    · simp [results, Tryz.results30, go_sem, h9]
    · exact ⟨_, _, rfl, .inr ⟨_, _, rfl⟩, k, HA.out⟩
set_option maxRecDepth 100000 in
set_option maxHeartbeats 1000000 in
theorem read_k7 (name s : ByteArray) (h0 : isP0 name = false) (h1 : isP1 name = false) (h2 : isP2 name = false) (h3 : isP3 name = false) (h4 : isP4 name = false) (h5 : isP5 name = false) (h6 : isP6 name = false) (w : World) (A : Nat → World → Value → Int → Prop) (hA : Told A) (c : ∀ w', A w'.heap.size w' (.iface 9 (.string s)) 0) :
    Calls Tryz.prog 30 #[.string name, .string s] w fun e w' => ∃ v er, e = .returned (.tuple #[.agg #[v], .int .i64 er]) ∧ IsI v ∧ Below w.heap.size w w' ∧ A w.heap.size w' v er := by
  have hb0 := Blk.Is.new w 30 #[.nilIface]
  have hB0 : Below w.heap.size w (w.alloc (.cells #[.nilIface] 30)) := (Below.refl _ _).alloc (Nat.le_refl _) _
  have hs0 : (w.alloc (.cells #[.nilIface] 30)).heap.size = w.heap.size + 1 := by simp
  have C := Lib.hid c
  clear c
  have c0 := isAny0 name (w.alloc (.cells #[.nilIface] 30))
  rw [h0, hs0] at c0
  have c1 := fun w => isAny1 name w
  rw [h1] at c1
  have c2 := fun w => isAny2 name w
  rw [h2] at c2
  have c3 := fun w => isAny3 name w
  rw [h3] at c3
  have c4 := fun w => isAny4 name w
  rw [h4] at c4
  have c5 := fun w => isAny5 name w
  rw [h5] at c5
  have c6 := fun w => isAny6 name w
  rw [h6] at c6
  go_enter Tryz.func30, Tryz.ntmps30
  go_wp2_with fail
  refine c0.mono ?_
  rintro e w1 ⟨rfl, k1⟩
  have hb1 : Blk.Is w1 w.heap.size 30 #[.nilIface] := (k1.block _ (by omega)).trans hb0
  have hB1 := hB0.trans (k1.mono (by omega))
  have hs1 : w.heap.size + 1 ≤ w1.heap.size := hs0 ▸ k1.size
  clear hb0 hB0 hs0 k1 c0
  go_wp2_with fail
  refine (c1 _).mono ?_
  rintro e w2 ⟨rfl, k2⟩
  have hb2 : Blk.Is w2 w.heap.size 30 #[.nilIface] := (k2.block _ hb1.lt).trans hb1
  have hB2 := hB1.trans (k2.mono hB1.size)
  have hs2 : w.heap.size + 1 ≤ w2.heap.size := Nat.le_trans hs1 k2.size
  clear hb1 hB1 hs1 k2 c1
  go_wp2_with fail
  refine (c2 _).mono ?_
  rintro e w3 ⟨rfl, k3⟩
  have hb3 : Blk.Is w3 w.heap.size 30 #[.nilIface] := (k3.block _ hb2.lt).trans hb2
  have hB3 := hB2.trans (k3.mono hB2.size)
  have hs3 : w.heap.size + 1 ≤ w3.heap.size := Nat.le_trans hs2 k3.size
  clear hb2 hB2 hs2 k3 c2
  go_wp2_with fail
  refine (c3 _).mono ?_
  rintro e w4 ⟨rfl, k4⟩
  have hb4 : Blk.Is w4 w.heap.size 30 #[.nilIface] := (k4.block _ hb3.lt).trans hb3
  have hB4 := hB3.trans (k4.mono hB3.size)
  have hs4 : w.heap.size + 1 ≤ w4.heap.size := Nat.le_trans hs3 k4.size
  clear hb3 hB3 hs3 k4 c3
  go_wp2_with fail
  refine (c4 _).mono ?_
  rintro e w5 ⟨rfl, k5⟩
  have hb5 : Blk.Is w5 w.heap.size 30 #[.nilIface] := (k5.block _ hb4.lt).trans hb4
  have hB5 := hB4.trans (k5.mono hB4.size)
  have hs5 : w.heap.size + 1 ≤ w5.heap.size := Nat.le_trans hs4 k5.size
  clear hb4 hB4 hs4 k5 c4
  go_wp2_with fail
  refine (c5 _).mono ?_
  rintro e w6 ⟨rfl, k6⟩
  have hb6 : Blk.Is w6 w.heap.size 30 #[.nilIface] := (k6.block _ hb5.lt).trans hb5
  have hB6 := hB5.trans (k6.mono hB5.size)
  have hs6 : w.heap.size + 1 ≤ w6.heap.size := Nat.le_trans hs5 k6.size
  clear hb5 hB5 hs5 k6 c5
  go_wp2_with fail
  refine (c6 _).mono ?_
  rintro e w7 ⟨rfl, k7⟩
  have hb7 : Blk.Is w7 w.heap.size 30 #[.nilIface] := (k7.block _ hb6.lt).trans hb6
  have hB7 := hB6.trans (k7.mono hB6.size)
  have hs7 : w.heap.size + 1 ≤ w7.heap.size := Nat.le_trans hs6 k7.size
  clear hb6 hB6 hs6 k7 c6
  have ct := ofText_any (.string s) w7
  go_wp2_with fail
  refine ct.mono ?_
  rintro e W ⟨rfl, kb⟩
  have hi : Blk.Is W w.heap.size 30 #[.nilIface] := (kb.block _ hb7.lt).trans hb7
  have hc := hi.at (i := 0) rfl
  have hf := hi.free 0
  have h9 := (hi.set 0 (.iface 9 (.string s))).at (i := 0) (v := .iface 9 (.string s)) rfl
  have k : Below w.heap.size w (W.setCell ⟨w.heap.size, 0, none⟩ (.iface 9 (.string s))) := (hB7.trans (kb.mono hB7.size)).setCell (Nat.le_refl _) _
  have HA := Lib.hid (hA.mono _ w.heap.size _ _ _ (by simp; have := kb.size; omega) (C.out (W.setCell ⟨w.heap.size, 0, none⟩ (.iface 9 (.string s)))))
  clear kb hB7 hb7 hs7 hi C ct
  go_wp2_with fail
  refine bodyPost_ret (v := .tuple #[.agg #[.iface 9 (.string s)], .int .i64 0]) ?_ rfl ?_
  · simp [results, Tryz.results30, go_sem, h9]
  · exact ⟨_, _, rfl, .inr ⟨_, _, rfl⟩, k, HA.out⟩
end Va
end Go.Proofs.YtapmpdljapbpeaaGreatDoor
namespace Go.Proofs.YtapmpdljapbpeaaGreatDoor
open Go.RowKit
set_option linter.unusedSimpArgs false
set_option linter.unusedVariables false
namespace Va
/-- Try of a function that panics with a new Wrong. -/
theorem try_wr (K : FuncId) (cap : Array Value) (he : ∀ (args : Array Value) (w : World), (callFunc K args).run Tryz.prog w = .ok (.enter K args) w) (w : World) (x y : ByteArray)
    (c : ∀ W, Below w.heap.size w W → Calls Tryz.prog K cap W fun e w' => Wr W x y e w') :
    Calls Tryz.prog 21 #[.func (.func K) #[] cap] w fun e w' => ∃ b, e = .returned (.pointer (some ⟨b, 0, none⟩)) ∧ Blk.Is w' b 56 #[.string x, .string y] ∧ w.heap.size ≤ b ∧ Below w.heap.size w w' := by
  have hb0 := Blk.Is.new w 51 #[.pointer none]
  have hB0 : Below w.heap.size w (w.alloc (.cells #[.pointer none] 51)) := (Below.refl _ _).alloc (Nat.le_refl _) _
  have hs0 : (w.alloc (.cells #[.pointer none] 51)).heap.size = w.heap.size + 1 := by simp
  refine (try_wrong K cap he w (fun q W' => ∃ b, q = ⟨b, 0, none⟩ ∧ Blk.Is W' b 56 #[.string x, .string y] ∧ w.heap.size + 1 ≤ b ∧ Below w.heap.size w W') ((c _ hB0).mono ?_)).mono ?_
  · rintro e w' ⟨b, rfl, h1, h2, h3⟩
    rw [hs0] at h2
    exact ⟨_, rfl, (h3.block _ hb0.lt).trans hb0, b, rfl, h1, h2, hB0.trans (h3.mono (by omega))⟩
  · rintro e w' ⟨q, W', rfl, ⟨b, rfl, h1, h2, h3⟩, rfl⟩
    exact ⟨b, rfl, h1.setOther _ (by simp; omega), by omega, h3.setCell (Nat.le_refl _) _⟩
set_option maxRecDepth 100000 in
theorem awakeF_any (w : World) : Calls Tryz.prog 35 #[] w fun e w' => Wr w ⟨#[99, 111, 117, 110, 116]⟩ ⟨#[116, 101, 120, 116]⟩ e w' := by
  have c1 := fun w => ofText_any (.string ⟨#[97]⟩) w
  have c2 := fun w => mustCount_no (.iface 9 (.string ⟨#[97]⟩)) (.inr ⟨_, _, rfl, by simp⟩) rfl w
  rw [show kindI (.iface 9 (.string ⟨#[97]⟩)) = ⟨#[116, 101, 120, 116]⟩ from rfl] at c2
  go_enter Tryz.func35, Tryz.ntmps35
  go_wp2_with fail
  refine (c1 _).mono ?_
  rintro e w1 ⟨rfl, k1⟩
  go_wp2_with fail
  refine (c2 _).mono ?_
  rintro e w2 hw
  have k := hw.on k1
  obtain ⟨b, rfl, _⟩ := hw
  unfold wrongAt at k ⊢
  clear k1 c1 c2
  go_wp2_with fail
  exact ⟨rfl, k⟩
theorem essential : isP0 ⟨#[69, 115, 115, 101, 110, 116, 105, 97, 108]⟩ = false ∧ isP1 ⟨#[69, 115, 115, 101, 110, 116, 105, 97, 108]⟩ = false ∧ isP2 ⟨#[69, 115, 115, 101, 110, 116, 105, 97, 108]⟩ = false ∧ isP3 ⟨#[69, 115, 115, 101, 110, 116, 105, 97, 108]⟩ = false ∧ isP4 ⟨#[69, 115, 115, 101, 110, 116, 105, 97, 108]⟩ = false ∧ isP5 ⟨#[69, 115, 115, 101, 110, 116, 105, 97, 108]⟩ = true := by decide +kernel
set_option maxRecDepth 100000 in
theorem awake_any (w : World) : Calls Tryz.prog 9 #[] w fun e w' => e = .returned (.bool true) ∧ Below w.heap.size w w' := by
  obtain ⟨h0, h1, h2, h3, h4, h5⟩ := essential
  have cr := read_k5 ⟨#[69, 115, 115, 101, 110, 116, 105, 97, 108]⟩ ⟨#[121, 101, 115]⟩ h0 h1 h2 h3 h4 h5 w (fun _ _ v er => v = .iface 4 (.bool true) ∧ er = 0) ⟨fun _ _ _ _ _ h _ => h, fun _ _ _ _ _ _ h => h⟩ (fun w' _ => (readYes_yes w').mono fun e w'' ⟨h1, h2⟩ => ⟨_, _, h1, .inr ⟨_, _, rfl⟩, h2, rfl, rfl⟩)
  have cy := fun w => yes_any (.iface 4 (.bool true)) (.inr ⟨_, _, rfl⟩) w
  simp only [asT, asB, if_true, decide_true] at cy
  have he : ∀ (args : Array Value) (w : World), (callFunc 35 args).run Tryz.prog w = .ok (.enter 35 args) w := Tryz.call35
  have ct := fun w => try_wr 35 #[] he w _ _ fun W _ => awakeF_any W
  clear h0 h1 h2 h3 h4 h5
  go_enter Tryz.func9, Tryz.ntmps9
  go_wp2_with fail
  refine cr.mono ?_
  rintro e w1 ⟨v, er, rfl, _, k1, rfl, rfl⟩
  clear cr
  go_wp2_with fail
  have k2 : Below w.heap.size w (w1.alloc (.cells #[.iface 4 (.bool true)] 30)) := k1.alloc k1.size _
  refine (cy _).mono ?_
  rintro e w2 ⟨rfl, k3⟩
  have k4 := k2.trans (k3.mono k2.size)
  clear k1 k2 k3 cy
  go_wp2_with fail
  refine (ct _).mono ?_
  rintro e w3 ⟨b, rfl, hi, _, k5⟩
  have k6 := k4.trans (k5.mono k4.size)
  have c1 := hi.at (i := 0) rfl
  have c2 := hi.at (i := 1) rfl
  clear k4 k5 ct hi he
  go_wp2_with fail
  go_ret
  exact ⟨rfl, k6⟩
end Va
end Go.Proofs.YtapmpdljapbpeaaGreatDoor

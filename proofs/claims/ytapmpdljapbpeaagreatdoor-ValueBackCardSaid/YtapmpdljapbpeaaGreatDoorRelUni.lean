/-
SameAtoms, SameClauses, SameProvides. What the six ways of reading tell, in one form.
-/
import Derived.Test.YtapmpdljapbpeaaGreatDoorRelLists
import Derived.Laws.StructEq
import Derived.Deep.QuietTactic
import Derived.BigQuiet
import Derived.Test.YtapmpdljapbpeaaGreatDoorRelParse
import Derived.Test.YtapmpdljapbpeaaGreatDoorRelYRead
namespace Go.Proofs.YtapmpdljapbpeaaGreatDoor
open Go.RowKit
set_option linter.unusedSimpArgs false
set_option linter.unusedVariables false
namespace Rl
open Ver (Bs li li_len li_drop S S_self S_of S_size S_li below_drewN empty_is empty_no MaxLen Signs)
end Rl
end Go.Proofs.YtapmpdljapbpeaaGreatDoor
namespace Go.Proofs.YtapmpdljapbpeaaGreatDoor
open Go.RowKit
set_option linter.unusedSimpArgs false
set_option linter.unusedVariables false
namespace Rl
open Ver (Bs li li_len li_drop S S_self S_of S_size S_li below_drewN empty_is empty_no MaxLen Signs)
def erO {α : Type} : Except Int (List α) → Int
  | .error e => e
  | .ok _ => 0
def xsO {α : Type} : Except Int (List α) → List α
  | .error _ => []
  | .ok xs => xs
theorem items_len {α : Type} {rd : Bs → Except Int (α × Bs)} {c : UInt8} : ∀ k l xs r, items rd c k l = .ok (xs, r) → xs.length ≤ k
  | 0, l, xs, r, h => by cases h
  | k + 1, l, xs, r, h => by
    unfold items at h
    cases h1 : rd l with
    | error e => rw [h1] at h; cases h
    | ok p =>
      obtain ⟨x, l1⟩ := p
      rw [h1] at h
      simp only at h
      cases h2 : tk c l1 with
      | none => rw [h2] at h; cases h; simp
      | some l2 =>
        rw [h2] at h
        simp only at h
        cases h3 : items rd c k l2 with
        | error e => rw [h3] at h; cases h
        | ok q =>
          obtain ⟨ys, r3⟩ := q
          rw [h3] at h
          cases h
          have := items_len k l2 ys _ h3
          simp; omega
theorem items_all {α : Type} {rd : Bs → Except Int (α × Bs)} {c : UInt8} (P : α → Prop) (hP : ∀ l x r, rd l = .ok (x, r) → P x) : ∀ k l xs r, items rd c k l = .ok (xs, r) → ∀ x ∈ xs, P x
  | 0, l, xs, r, h => by cases h
  | k + 1, l, xs, r, h => by
    unfold items at h
    cases h1 : rd l with
    | error e => rw [h1] at h; cases h
    | ok p =>
      obtain ⟨x, l1⟩ := p
      have hx := hP l x l1 h1
      rw [h1] at h
      simp only at h
      cases h2 : tk c l1 with
      | none =>
        rw [h2] at h
        cases h
        intro y hy
        rw [List.mem_singleton.1 hy]; exact hx
      | some l2 =>
        rw [h2] at h
        simp only at h
        cases h3 : items rd c k l2 with
        | error e => rw [h3] at h; cases h
        | ok q =>
          obtain ⟨ys, r3⟩ := q
          rw [h3] at h
          cases h
          intro y hy
          rcases List.mem_cons.1 hy with rfl | hy
          · exact hx
          · exact items_all P hP k l2 ys _ h3 y hy
theorem whole_ok {α : Type} {rd : Bs → Except Int (α × Bs)} {s : Bs} {xs : List α} (h : whole rd s = .ok xs) : xs = [] ∨ ∃ r, items rd 44 12 (skip s) = .ok (xs, r) := by
  unfold whole at h
  by_cases h0 : skip s = []
  · rw [if_pos h0] at h; cases h; exact .inl rfl
  · rw [if_neg h0] at h
    cases h1 : items rd 44 12 (skip s) with
    | error e => rw [h1] at h; cases h
    | ok q =>
      obtain ⟨ys, r⟩ := q
      rw [h1] at h
      simp only at h
      split at h
      · cases h; exact .inr ⟨r, rfl⟩
      · cases h
theorem whole_len {α : Type} {rd : Bs → Except Int (α × Bs)} {s : Bs} {xs : List α} (h : whole rd s = .ok xs) : xs.length ≤ 12 := by
  rcases whole_ok h with rfl | ⟨r, h1⟩
  · simp
  · exact items_len 12 _ _ _ h1
theorem whole_clen {s : Bs} {xs : List (List At)} (h : whole rdC s = .ok xs) : ∀ c ∈ xs, c.length ≤ 6 := by
  rcases whole_ok h with rfl | ⟨r, h1⟩
  · intro c hc; cases hc
  · exact items_all (fun c : List At => c.length ≤ 6) (fun l x r h => items_len 6 l x r h) 12 _ _ _ h1
def UC (w : World) (o : Except Int (List (List At))) (e : Ending) (w' : World) : Prop := Below w.heap.size w w' ∧ ∃ v, e = .returned (.tuple #[v, .int .i64 (erO o)]) ∧ Clss w' v (xsO o)
def UA (w : World) (o : Except Int (List At)) (e : Ending) (w' : World) : Prop := Below w.heap.size w w' ∧ ∃ v, e = .returned (.tuple #[v, .int .i64 (erO o)]) ∧ Ats w' v (xsO o)
def UP (w : World) (o : Except Int (List Pv)) (e : Ending) (w' : World) : Prop := Below w.heap.size w w' ∧ ∃ v, e = .returned (.tuple #[v, .int .i64 (erO o)]) ∧ Pvs w' v (xsO o)
theorem UC.of {w w' : World} {o : Except Int (List (List At))} {e : Ending} (h : WholeC w o e w') (h1 : ∀ xs, o = .ok xs → xs.length ≤ 12 ∧ ∀ c ∈ xs, c.length ≤ 6) : UC w o e w' := by
  unfold WholeC at h
  cases o with
  | error er => exact ⟨h.1, _, h.2, Slc.none _ _ _ _⟩
  | ok xs =>
    obtain ⟨hb, v, vs, rfl, h2, h3⟩ := h
    obtain ⟨h4, h5⟩ := h1 xs rfl
    exact ⟨hb, v, rfl, own_clss h2 h3 (show xs.length ≤ _ by omega) fun c hc => by have := h5 c hc; omega⟩
theorem UA.of {w w' : World} {o : Except Int (List At)} {e : Ending} (h : WholeA w o e w') (h1 : ∀ xs, o = .ok xs → xs.length ≤ 12) : UA w o e w' := by
  unfold WholeA at h
  cases o with
  | error er => exact ⟨h.1, _, h.2, Slc.none _ _ _ _⟩
  | ok xs =>
    obtain ⟨hb, v, rfl, h2⟩ := h
    have := h1 xs rfl
    exact ⟨hb, v, rfl, own_ats h2 (show xs.length ≤ _ by omega)⟩
theorem UP.of {w w' : World} {o : Except Int (List Pv)} {e : Ending} (h : WholeP w o e w') (h1 : ∀ xs, o = .ok xs → xs.length ≤ 12) : UP w o e w' := by
  unfold WholeP at h
  cases o with
  | error er => exact ⟨h.1, _, h.2, Slc.none _ _ _ _⟩
  | ok xs =>
    obtain ⟨hb, v, rfl, h2⟩ := h
    have := h1 xs rfl
    exact ⟨hb, v, rfl, own_pvs h2 (show xs.length ≤ _ by omega)⟩
section
variable (s : ByteArray) (w : World) (hs : s.size ≤ 4611686018427387904)
include hs
theorem uParse (hv : Vars w) : Calls Tryz.prog 85 #[.string s] w fun e w' => UC w (whole rdC (li s)) e w' :=
  (Parse_any s w hs hv).mono fun e w' h => UC.of h fun xs hx => ⟨whole_len hx, whole_clen hx⟩
theorem uAtoms (hv : Vars w) : Calls Tryz.prog 86 #[.string s] w fun e w' => UA w (whole rdA (li s)) e w' :=
  (ParseAtoms_any s w hs hv).mono fun e w' h => UA.of h fun xs hx => whole_len hx
theorem uProvides (hv : Vars w) : Calls Tryz.prog 87 #[.string s] w fun e w' => UP w (whole rdP (li s)) e w' :=
  (ParseProvides_any s w hs hv).mono fun e w' h => UP.of h fun xs hx => whole_len hx
end
end Rl
end Go.Proofs.YtapmpdljapbpeaaGreatDoor

/-
Of which kind a field is, by its name; the reference's Sort.
-/
import Derived.Test.YtapmpdljapbpeaaGreatDoorValBase
namespace Go.Proofs.YtapmpdljapbpeaaGreatDoor
open Go.RowKit
set_option linter.unusedSimpArgs false
set_option linter.unusedVariables false
namespace Va
open Stz (sameS sameB)
def lw (s : ByteArray) : List UInt8 := s.data.toList.map Stz.low
theorem same_lw (s t : ByteArray) : sameS s t = (lw s == lw t) := rfl
theorem same_swap (s t : ByteArray) : sameS s t = sameS t s := by rw [same_lw, same_lw, Bool.eq_iff_iff, beq_iff_eq, beq_iff_eq]; exact eq_comm
theorem same_of {s t u v : ByteArray} (h1 : lw s = lw u) (h2 : lw t = lw v) : sameS s t = sameS u v := by rw [same_lw, same_lw, h1, h2]
/-- A name that is one of these is none of those. -/
theorem disj {fs gs : List ByteArray} (h : (fs.all fun c => !(gs.any (sameS · c))) = true) {name : ByteArray} (hn : fs.any (sameS · name) = true) : gs.any (sameS · name) = false := by
  obtain ⟨c, hc, h1⟩ := List.any_eq_true.1 hn
  have h2 := List.all_eq_true.1 h c hc
  simp only [Bool.not_eq_true'] at h2
  rw [same_lw, beq_iff_eq] at h1
  rw [← h2]
  congr 1
  funext f
  exact same_of rfl h1.symm
def ls2 : List ByteArray := [(⟨#[112, 114, 101, 45, 100, 101, 112, 101, 110, 100, 115]⟩ : ByteArray), (⟨#[100, 101, 112, 101, 110, 100, 115]⟩ : ByteArray), (⟨#[114, 101, 99, 111, 109, 109, 101, 110, 100, 115]⟩ : ByteArray)]
theorem lsP2 (name : ByteArray) : isP2 name = ls2.any (sameS name ·) := by
  have h : fs2.map lw = ls2.map lw := by decide +kernel
  unfold isP2
  have e : ∀ l : List ByteArray, (l.any (sameS · name)) = (l.map lw).any (· == lw name) := fun l => by rw [List.any_map]; rfl
  have e2 : ∀ l : List ByteArray, (l.any (sameS name ·)) = (l.map lw).any (· == lw name) := fun l => by
    rw [List.any_map]; congr 1; funext f; exact same_swap _ _
  rw [e, e2, h]
def ls3 : List ByteArray := [(⟨#[99, 111, 110, 102, 108, 105, 99, 116, 115]⟩ : ByteArray), (⟨#[98, 114, 101, 97, 107, 115]⟩ : ByteArray)]
theorem lsP3 (name : ByteArray) : isP3 name = ls3.any (sameS name ·) := by
  have h : fs3.map lw = ls3.map lw := by decide +kernel
  unfold isP3
  have e : ∀ l : List ByteArray, (l.any (sameS · name)) = (l.map lw).any (· == lw name) := fun l => by rw [List.any_map]; rfl
  have e2 : ∀ l : List ByteArray, (l.any (sameS name ·)) = (l.map lw).any (· == lw name) := fun l => by
    rw [List.any_map]; congr 1; funext f; exact same_swap _ _
  rw [e, e2, h]
def ls5 : List ByteArray := [(⟨#[101, 115, 115, 101, 110, 116, 105, 97, 108]⟩ : ByteArray), (⟨#[104, 111, 108, 100]⟩ : ByteArray), (⟨#[99, 111, 110, 102, 105, 103, 117, 114, 101, 100]⟩ : ByteArray)]
theorem lsP5 (name : ByteArray) : isP5 name = ls5.any (sameS name ·) := by
  have h : fs5.map lw = ls5.map lw := by decide +kernel
  unfold isP5
  have e : ∀ l : List ByteArray, (l.any (sameS · name)) = (l.map lw).any (· == lw name) := fun l => by rw [List.any_map]; rfl
  have e2 : ∀ l : List ByteArray, (l.any (sameS name ·)) = (l.map lw).any (· == lw name) := fun l => by
    rw [List.any_map]; congr 1; funext f; exact same_swap _ _
  rw [e, e2, h]
def ls4 : List ByteArray := [(⟨#[112, 114, 111, 118, 105, 100, 101, 115]⟩ : ByteArray)]
theorem lsP4 (name : ByteArray) : isP4 name = ls4.any (sameS name ·) := by
  have h : fs4.map lw = ls4.map lw := by decide +kernel
  unfold isP4
  have e : ∀ l : List ByteArray, (l.any (sameS · name)) = (l.map lw).any (· == lw name) := fun l => by rw [List.any_map]; rfl
  have e2 : ∀ l : List ByteArray, (l.any (sameS name ·)) = (l.map lw).any (· == lw name) := fun l => by
    rw [List.any_map]; congr 1; funext f; exact same_swap _ _
  rw [e, e2, h]
def ls6 : List ByteArray := [(⟨#[112, 114, 105, 111, 114, 105, 116, 121]⟩ : ByteArray)]
theorem lsP6 (name : ByteArray) : isP6 name = ls6.any (sameS name ·) := by
  have h : fs6.map lw = ls6.map lw := by decide +kernel
  unfold isP6
  have e : ∀ l : List ByteArray, (l.any (sameS · name)) = (l.map lw).any (· == lw name) := fun l => by rw [List.any_map]; rfl
  have e2 : ∀ l : List ByteArray, (l.any (sameS name ·)) = (l.map lw).any (· == lw name) := fun l => by
    rw [List.any_map]; congr 1; funext f; exact same_swap _ _
  rw [e, e2, h]
def ls0 : List ByteArray := [(⟨#[112, 97, 99, 107, 97, 103, 101]⟩ : ByteArray)]
theorem lsP0 (name : ByteArray) : isP0 name = ls0.any (sameS name ·) := by
  have h : fs0.map lw = ls0.map lw := by decide +kernel
  unfold isP0
  have e : ∀ l : List ByteArray, (l.any (sameS · name)) = (l.map lw).any (· == lw name) := fun l => by rw [List.any_map]; rfl
  have e2 : ∀ l : List ByteArray, (l.any (sameS name ·)) = (l.map lw).any (· == lw name) := fun l => by
    rw [List.any_map]; congr 1; funext f; exact same_swap _ _
  rw [e, e2, h]
def ls1 : List ByteArray := [(⟨#[118, 101, 114, 115, 105, 111, 110]⟩ : ByteArray)]
theorem lsP1 (name : ByteArray) : isP1 name = ls1.any (sameS name ·) := by
  have h : fs1.map lw = ls1.map lw := by decide +kernel
  unfold isP1
  have e : ∀ l : List ByteArray, (l.any (sameS · name)) = (l.map lw).any (· == lw name) := fun l => by rw [List.any_map]; rfl
  have e2 : ∀ l : List ByteArray, (l.any (sameS name ·)) = (l.map lw).any (· == lw name) := fun l => by
    rw [List.any_map]; congr 1; funext f; exact same_swap _ _
  rw [e, e2, h]
/-- Of which kind a field is, by its name. -/
def knd (name : ByteArray) : Nat := if isP0 name then 0 else if isP1 name then 1 else if isP2 name then 2 else if isP3 name then 3 else if isP4 name then 4 else if isP5 name then 5 else if isP6 name then 6 else 7
/-- What the reference calls it. -/
def srt (k : Nat) : ByteArray := if k = 2 then ⟨#[99, 108, 97, 117, 115, 101, 115]⟩ else if k = 3 then ⟨#[97, 116, 111, 109, 115]⟩ else if k = 5 then ⟨#[121, 101, 115]⟩ else if k = 4 then ⟨#[112, 114, 111, 118, 105, 100, 101, 115]⟩ else if k = 6 then ⟨#[99, 111, 117, 110, 116]⟩ else ⟨#[116, 101, 120, 116]⟩
theorem dj01 {name : ByteArray} (h : isP0 name = true) : isP1 name = false := disj (fs := fs0) (gs := fs1) (by decide +kernel) h
theorem dj02 {name : ByteArray} (h : isP0 name = true) : isP2 name = false := disj (fs := fs0) (gs := fs2) (by decide +kernel) h
theorem dj03 {name : ByteArray} (h : isP0 name = true) : isP3 name = false := disj (fs := fs0) (gs := fs3) (by decide +kernel) h
theorem dj04 {name : ByteArray} (h : isP0 name = true) : isP4 name = false := disj (fs := fs0) (gs := fs4) (by decide +kernel) h
theorem dj05 {name : ByteArray} (h : isP0 name = true) : isP5 name = false := disj (fs := fs0) (gs := fs5) (by decide +kernel) h
theorem dj06 {name : ByteArray} (h : isP0 name = true) : isP6 name = false := disj (fs := fs0) (gs := fs6) (by decide +kernel) h
theorem dj10 {name : ByteArray} (h : isP1 name = true) : isP0 name = false := disj (fs := fs1) (gs := fs0) (by decide +kernel) h
theorem dj12 {name : ByteArray} (h : isP1 name = true) : isP2 name = false := disj (fs := fs1) (gs := fs2) (by decide +kernel) h
theorem dj13 {name : ByteArray} (h : isP1 name = true) : isP3 name = false := disj (fs := fs1) (gs := fs3) (by decide +kernel) h
theorem dj14 {name : ByteArray} (h : isP1 name = true) : isP4 name = false := disj (fs := fs1) (gs := fs4) (by decide +kernel) h
theorem dj15 {name : ByteArray} (h : isP1 name = true) : isP5 name = false := disj (fs := fs1) (gs := fs5) (by decide +kernel) h
theorem dj16 {name : ByteArray} (h : isP1 name = true) : isP6 name = false := disj (fs := fs1) (gs := fs6) (by decide +kernel) h
theorem dj20 {name : ByteArray} (h : isP2 name = true) : isP0 name = false := disj (fs := fs2) (gs := fs0) (by decide +kernel) h
theorem dj21 {name : ByteArray} (h : isP2 name = true) : isP1 name = false := disj (fs := fs2) (gs := fs1) (by decide +kernel) h
theorem dj23 {name : ByteArray} (h : isP2 name = true) : isP3 name = false := disj (fs := fs2) (gs := fs3) (by decide +kernel) h
theorem dj24 {name : ByteArray} (h : isP2 name = true) : isP4 name = false := disj (fs := fs2) (gs := fs4) (by decide +kernel) h
theorem dj25 {name : ByteArray} (h : isP2 name = true) : isP5 name = false := disj (fs := fs2) (gs := fs5) (by decide +kernel) h
theorem dj26 {name : ByteArray} (h : isP2 name = true) : isP6 name = false := disj (fs := fs2) (gs := fs6) (by decide +kernel) h
theorem dj30 {name : ByteArray} (h : isP3 name = true) : isP0 name = false := disj (fs := fs3) (gs := fs0) (by decide +kernel) h
theorem dj31 {name : ByteArray} (h : isP3 name = true) : isP1 name = false := disj (fs := fs3) (gs := fs1) (by decide +kernel) h
theorem dj32 {name : ByteArray} (h : isP3 name = true) : isP2 name = false := disj (fs := fs3) (gs := fs2) (by decide +kernel) h
theorem dj34 {name : ByteArray} (h : isP3 name = true) : isP4 name = false := disj (fs := fs3) (gs := fs4) (by decide +kernel) h
theorem dj35 {name : ByteArray} (h : isP3 name = true) : isP5 name = false := disj (fs := fs3) (gs := fs5) (by decide +kernel) h
theorem dj36 {name : ByteArray} (h : isP3 name = true) : isP6 name = false := disj (fs := fs3) (gs := fs6) (by decide +kernel) h
theorem dj40 {name : ByteArray} (h : isP4 name = true) : isP0 name = false := disj (fs := fs4) (gs := fs0) (by decide +kernel) h
theorem dj41 {name : ByteArray} (h : isP4 name = true) : isP1 name = false := disj (fs := fs4) (gs := fs1) (by decide +kernel) h
theorem dj42 {name : ByteArray} (h : isP4 name = true) : isP2 name = false := disj (fs := fs4) (gs := fs2) (by decide +kernel) h
theorem dj43 {name : ByteArray} (h : isP4 name = true) : isP3 name = false := disj (fs := fs4) (gs := fs3) (by decide +kernel) h
theorem dj45 {name : ByteArray} (h : isP4 name = true) : isP5 name = false := disj (fs := fs4) (gs := fs5) (by decide +kernel) h
theorem dj46 {name : ByteArray} (h : isP4 name = true) : isP6 name = false := disj (fs := fs4) (gs := fs6) (by decide +kernel) h
theorem dj50 {name : ByteArray} (h : isP5 name = true) : isP0 name = false := disj (fs := fs5) (gs := fs0) (by decide +kernel) h
theorem dj51 {name : ByteArray} (h : isP5 name = true) : isP1 name = false := disj (fs := fs5) (gs := fs1) (by decide +kernel) h
theorem dj52 {name : ByteArray} (h : isP5 name = true) : isP2 name = false := disj (fs := fs5) (gs := fs2) (by decide +kernel) h
theorem dj53 {name : ByteArray} (h : isP5 name = true) : isP3 name = false := disj (fs := fs5) (gs := fs3) (by decide +kernel) h
theorem dj54 {name : ByteArray} (h : isP5 name = true) : isP4 name = false := disj (fs := fs5) (gs := fs4) (by decide +kernel) h
theorem dj56 {name : ByteArray} (h : isP5 name = true) : isP6 name = false := disj (fs := fs5) (gs := fs6) (by decide +kernel) h
theorem dj60 {name : ByteArray} (h : isP6 name = true) : isP0 name = false := disj (fs := fs6) (gs := fs0) (by decide +kernel) h
theorem dj61 {name : ByteArray} (h : isP6 name = true) : isP1 name = false := disj (fs := fs6) (gs := fs1) (by decide +kernel) h
theorem dj62 {name : ByteArray} (h : isP6 name = true) : isP2 name = false := disj (fs := fs6) (gs := fs2) (by decide +kernel) h
theorem dj63 {name : ByteArray} (h : isP6 name = true) : isP3 name = false := disj (fs := fs6) (gs := fs3) (by decide +kernel) h
theorem dj64 {name : ByteArray} (h : isP6 name = true) : isP4 name = false := disj (fs := fs6) (gs := fs4) (by decide +kernel) h
theorem dj65 {name : ByteArray} (h : isP6 name = true) : isP5 name = false := disj (fs := fs6) (gs := fs5) (by decide +kernel) h
theorem knd_cases (name : ByteArray) : (knd name = 0 ∧ isP0 name = true ∧ isP1 name = false ∧ isP2 name = false ∧ isP3 name = false ∧ isP4 name = false ∧ isP5 name = false ∧ isP6 name = false) ∨ (knd name = 1 ∧ isP0 name = false ∧ isP1 name = true ∧ isP2 name = false ∧ isP3 name = false ∧ isP4 name = false ∧ isP5 name = false ∧ isP6 name = false) ∨ (knd name = 2 ∧ isP0 name = false ∧ isP1 name = false ∧ isP2 name = true ∧ isP3 name = false ∧ isP4 name = false ∧ isP5 name = false ∧ isP6 name = false) ∨ (knd name = 3 ∧ isP0 name = false ∧ isP1 name = false ∧ isP2 name = false ∧ isP3 name = true ∧ isP4 name = false ∧ isP5 name = false ∧ isP6 name = false) ∨ (knd name = 4 ∧ isP0 name = false ∧ isP1 name = false ∧ isP2 name = false ∧ isP3 name = false ∧ isP4 name = true ∧ isP5 name = false ∧ isP6 name = false) ∨ (knd name = 5 ∧ isP0 name = false ∧ isP1 name = false ∧ isP2 name = false ∧ isP3 name = false ∧ isP4 name = false ∧ isP5 name = true ∧ isP6 name = false) ∨ (knd name = 6 ∧ isP0 name = false ∧ isP1 name = false ∧ isP2 name = false ∧ isP3 name = false ∧ isP4 name = false ∧ isP5 name = false ∧ isP6 name = true) ∨ (knd name = 7 ∧ isP0 name = false ∧ isP1 name = false ∧ isP2 name = false ∧ isP3 name = false ∧ isP4 name = false ∧ isP5 name = false ∧ isP6 name = false) := by
  unfold knd
  by_cases h0 : isP0 name = true
  · exact .inl ⟨by rw [if_pos h0], h0, dj01 h0, dj02 h0, dj03 h0, dj04 h0, dj05 h0, dj06 h0⟩
  by_cases h1 : isP1 name = true
  · exact .inr (.inl ⟨by rw [if_neg h0]; rw [if_pos h1], dj10 h1, h1, dj12 h1, dj13 h1, dj14 h1, dj15 h1, dj16 h1⟩)
  by_cases h2 : isP2 name = true
  · exact .inr (.inr (.inl ⟨by rw [if_neg h0]; rw [if_neg h1]; rw [if_pos h2], dj20 h2, dj21 h2, h2, dj23 h2, dj24 h2, dj25 h2, dj26 h2⟩))
  by_cases h3 : isP3 name = true
  · exact .inr (.inr (.inr (.inl ⟨by rw [if_neg h0]; rw [if_neg h1]; rw [if_neg h2]; rw [if_pos h3], dj30 h3, dj31 h3, dj32 h3, h3, dj34 h3, dj35 h3, dj36 h3⟩)))
  by_cases h4 : isP4 name = true
  · exact .inr (.inr (.inr (.inr (.inl ⟨by rw [if_neg h0]; rw [if_neg h1]; rw [if_neg h2]; rw [if_neg h3]; rw [if_pos h4], dj40 h4, dj41 h4, dj42 h4, dj43 h4, h4, dj45 h4, dj46 h4⟩))))
  by_cases h5 : isP5 name = true
  · exact .inr (.inr (.inr (.inr (.inr (.inl ⟨by rw [if_neg h0]; rw [if_neg h1]; rw [if_neg h2]; rw [if_neg h3]; rw [if_neg h4]; rw [if_pos h5], dj50 h5, dj51 h5, dj52 h5, dj53 h5, dj54 h5, h5, dj56 h5⟩)))))
  by_cases h6 : isP6 name = true
  · exact .inr (.inr (.inr (.inr (.inr (.inr (.inl ⟨by rw [if_neg h0]; rw [if_neg h1]; rw [if_neg h2]; rw [if_neg h3]; rw [if_neg h4]; rw [if_neg h5]; rw [if_pos h6], dj60 h6, dj61 h6, dj62 h6, dj63 h6, dj64 h6, dj65 h6, h6⟩))))))
  exact .inr (.inr (.inr (.inr (.inr (.inr (.inr (⟨by rw [if_neg h0]; rw [if_neg h1]; rw [if_neg h2]; rw [if_neg h3]; rw [if_neg h4]; rw [if_neg h5]; rw [if_neg h6], Bool.eq_false_iff.2 h0, Bool.eq_false_iff.2 h1, Bool.eq_false_iff.2 h2, Bool.eq_false_iff.2 h3, Bool.eq_false_iff.2 h4, Bool.eq_false_iff.2 h5, Bool.eq_false_iff.2 h6⟩)))))))
set_option maxRecDepth 100000 in
set_option maxHeartbeats 4000000 in
theorem sort_if (name : ByteArray) (hs : name.size ≤ 9223372036854775807) (w : World) :
    Calls Tryz.prog 64 #[.string name] w fun e w' => e = .returned (.string (if isP2 name then (⟨#[99, 108, 97, 117, 115, 101, 115]⟩ : ByteArray) else if isP3 name then ⟨#[97, 116, 111, 109, 115]⟩ else if isP5 name then ⟨#[121, 101, 115]⟩ else if isP4 name then ⟨#[112, 114, 111, 118, 105, 100, 101, 115]⟩ else if isP6 name then ⟨#[99, 111, 117, 110, 116]⟩ else ⟨#[116, 101, 120, 116]⟩)) ∧ ∃ n, w' = w.drewN n := by
  rw [lsP2, lsP3, lsP5, lsP4, lsP6]
  simp only [ls2, ls3, ls5, ls4, ls6, List.any_cons, List.any_nil, Bool.or_false]
  have x20 : ∀ w : World, (Instr.index 111 (.agg #[.string ⟨#[112, 114, 101, 45, 100, 101, 112, 101, 110, 100, 115]⟩, .string ⟨#[100, 101, 112, 101, 110, 100, 115]⟩, .string ⟨#[114, 101, 99, 111, 109, 109, 101, 110, 100, 115]⟩]) (.int .i64 0)).run Tryz.prog w = .ok (.string ⟨#[112, 114, 101, 45, 100, 101, 112, 101, 110, 100, 115]⟩) w := fun w => by kernel_rfl
  have x21 : ∀ w : World, (Instr.index 111 (.agg #[.string ⟨#[112, 114, 101, 45, 100, 101, 112, 101, 110, 100, 115]⟩, .string ⟨#[100, 101, 112, 101, 110, 100, 115]⟩, .string ⟨#[114, 101, 99, 111, 109, 109, 101, 110, 100, 115]⟩]) (.int .i64 1)).run Tryz.prog w = .ok (.string ⟨#[100, 101, 112, 101, 110, 100, 115]⟩) w := fun w => by kernel_rfl
  have x22 : ∀ w : World, (Instr.index 111 (.agg #[.string ⟨#[112, 114, 101, 45, 100, 101, 112, 101, 110, 100, 115]⟩, .string ⟨#[100, 101, 112, 101, 110, 100, 115]⟩, .string ⟨#[114, 101, 99, 111, 109, 109, 101, 110, 100, 115]⟩]) (.int .i64 2)).run Tryz.prog w = .ok (.string ⟨#[114, 101, 99, 111, 109, 109, 101, 110, 100, 115]⟩) w := fun w => by kernel_rfl
  have x30 : ∀ w : World, (Instr.index 112 (.agg #[.string ⟨#[99, 111, 110, 102, 108, 105, 99, 116, 115]⟩, .string ⟨#[98, 114, 101, 97, 107, 115]⟩]) (.int .i64 0)).run Tryz.prog w = .ok (.string ⟨#[99, 111, 110, 102, 108, 105, 99, 116, 115]⟩) w := fun w => by kernel_rfl
  have x31 : ∀ w : World, (Instr.index 112 (.agg #[.string ⟨#[99, 111, 110, 102, 108, 105, 99, 116, 115]⟩, .string ⟨#[98, 114, 101, 97, 107, 115]⟩]) (.int .i64 1)).run Tryz.prog w = .ok (.string ⟨#[98, 114, 101, 97, 107, 115]⟩) w := fun w => by kernel_rfl
  have x50 : ∀ w : World, (Instr.index 111 (.agg #[.string ⟨#[101, 115, 115, 101, 110, 116, 105, 97, 108]⟩, .string ⟨#[104, 111, 108, 100]⟩, .string ⟨#[99, 111, 110, 102, 105, 103, 117, 114, 101, 100]⟩]) (.int .i64 0)).run Tryz.prog w = .ok (.string ⟨#[101, 115, 115, 101, 110, 116, 105, 97, 108]⟩) w := fun w => by kernel_rfl
  have x51 : ∀ w : World, (Instr.index 111 (.agg #[.string ⟨#[101, 115, 115, 101, 110, 116, 105, 97, 108]⟩, .string ⟨#[104, 111, 108, 100]⟩, .string ⟨#[99, 111, 110, 102, 105, 103, 117, 114, 101, 100]⟩]) (.int .i64 1)).run Tryz.prog w = .ok (.string ⟨#[104, 111, 108, 100]⟩) w := fun w => by kernel_rfl
  have x52 : ∀ w : World, (Instr.index 111 (.agg #[.string ⟨#[101, 115, 115, 101, 110, 116, 105, 97, 108]⟩, .string ⟨#[104, 111, 108, 100]⟩, .string ⟨#[99, 111, 110, 102, 105, 103, 117, 114, 101, 100]⟩]) (.int .i64 2)).run Tryz.prog w = .ok (.string ⟨#[99, 111, 110, 102, 105, 103, 117, 114, 101, 100]⟩) w := fun w => by kernel_rfl
  have c20 := fun w => Stz.ysame_any name ⟨#[112, 114, 101, 45, 100, 101, 112, 101, 110, 100, 115]⟩ w hs
  have c21 := fun w => Stz.ysame_any name ⟨#[100, 101, 112, 101, 110, 100, 115]⟩ w hs
  have c22 := fun w => Stz.ysame_any name ⟨#[114, 101, 99, 111, 109, 109, 101, 110, 100, 115]⟩ w hs
  have c30 := fun w => Stz.ysame_any name ⟨#[99, 111, 110, 102, 108, 105, 99, 116, 115]⟩ w hs
  have c31 := fun w => Stz.ysame_any name ⟨#[98, 114, 101, 97, 107, 115]⟩ w hs
  have c50 := fun w => Stz.ysame_any name ⟨#[101, 115, 115, 101, 110, 116, 105, 97, 108]⟩ w hs
  have c51 := fun w => Stz.ysame_any name ⟨#[104, 111, 108, 100]⟩ w hs
  have c52 := fun w => Stz.ysame_any name ⟨#[99, 111, 110, 102, 105, 103, 117, 114, 101, 100]⟩ w hs
  have c40 := fun w => Stz.ysame_any name ⟨#[112, 114, 111, 118, 105, 100, 101, 115]⟩ w hs
  have c60 := fun w => Stz.ysame_any name ⟨#[112, 114, 105, 111, 114, 105, 116, 121]⟩ w hs
  generalize sameS name ⟨#[112, 114, 101, 45, 100, 101, 112, 101, 110, 100, 115]⟩ = q20 at *
  generalize sameS name ⟨#[100, 101, 112, 101, 110, 100, 115]⟩ = q21 at *
  generalize sameS name ⟨#[114, 101, 99, 111, 109, 109, 101, 110, 100, 115]⟩ = q22 at *
  generalize sameS name ⟨#[99, 111, 110, 102, 108, 105, 99, 116, 115]⟩ = q30 at *
  generalize sameS name ⟨#[98, 114, 101, 97, 107, 115]⟩ = q31 at *
  generalize sameS name ⟨#[101, 115, 115, 101, 110, 116, 105, 97, 108]⟩ = q50 at *
  generalize sameS name ⟨#[104, 111, 108, 100]⟩ = q51 at *
  generalize sameS name ⟨#[99, 111, 110, 102, 105, 103, 117, 114, 101, 100]⟩ = q52 at *
  generalize sameS name ⟨#[112, 114, 111, 118, 105, 100, 101, 115]⟩ = q40 at *
  generalize sameS name ⟨#[112, 114, 105, 111, 114, 105, 116, 121]⟩ = q60 at *
  obtain ⟨G, hG⟩ : ∃ G, (if q20 || (q21 || q22) then (⟨#[99, 108, 97, 117, 115, 101, 115]⟩ : ByteArray) else if q30 || q31 then ⟨#[97, 116, 111, 109, 115]⟩ else if q50 || (q51 || q52) then ⟨#[121, 101, 115]⟩ else if q40 then ⟨#[112, 114, 111, 118, 105, 100, 101, 115]⟩ else if q60 then ⟨#[99, 111, 117, 110, 116]⟩ else ⟨#[116, 101, 120, 116]⟩) = G := ⟨_, rfl⟩
  have HG := Lib.hid hG
  rw [hG]
  clear hG
  go_enter Tryz.func64, Tryz.ntmps64
  go_wp2_with fail
  go_loopg [10] 3 (fun gf s wx => ∃ k : Nat, ((k = 0 ∧ s = .int .i64 0) ∨ (k = 1 ∧ s = .int .i64 1) ∨ (k = 2 ∧ s = .int .i64 2) ∨ (k = 3 ∧ s = .int .i64 3)) ∧ (∃ m, wx = w.drewN m) ∧ (0 < k → q20 = false) ∧ (1 < k → q21 = false) ∧ (2 < k → q22 = false) ∧ k ≤ 3 ∧ 3 ≤ k + gf)
  case atStart => exact ⟨0, .inl ⟨rfl, rfl⟩, ⟨0, rfl⟩, fun h => absurd h (by omega), fun h => absurd h (by omega), fun h => absurd h (by omega), by omega, by omega⟩
  case round =>
    obtain ⟨k, hks, ⟨m, rfl⟩, f0, f1, f2, hk, hfu⟩ := hrel
    rcases hks with ⟨rfl, rfl⟩ | ⟨rfl, rfl⟩ | ⟨rfl, rfl⟩ | ⟨rfl, rfl⟩
    · obtain ⟨g', rfl⟩ : ∃ g', gk = g' + 1 := ⟨gk - 1, by omega⟩
      clear f0 f1 f2
      cases hq : q20
      · rw [hq] at c20
        go_wp2_with fail
        refine (c20 _).mono ?_
        rintro e w2 ⟨rfl, m2, rfl⟩
        rw [World.drewN_drewN]
        go_wp2_with fail
        go_roundg g'
        case measure => omega
        case rel => exact ⟨1, .inr (.inl ⟨rfl, by go_num⟩), ⟨_, rfl⟩, fun _ => hq, fun h => absurd h (by omega), fun h => absurd h (by omega), by omega, by omega⟩
      · rw [hq] at c20
        go_wp2_with fail
        refine (c20 _).mono ?_
        rintro e w2 ⟨rfl, m2, rfl⟩
        rw [World.drewN_drewN]
        go_wp2_with fail
        go_ret
        exact ⟨by rw [← HG.out]; simp [hq], _, rfl⟩
    · obtain ⟨g', rfl⟩ : ∃ g', gk = g' + 1 := ⟨gk - 1, by omega⟩
      have t0 := f0 (by omega)
      clear f0 f1 f2
      cases hq : q21
      · rw [hq] at c21
        go_wp2_with fail
        refine (c21 _).mono ?_
        rintro e w2 ⟨rfl, m2, rfl⟩
        rw [World.drewN_drewN]
        go_wp2_with fail
        go_roundg g'
        case measure => omega
        case rel => exact ⟨2, .inr (.inr (.inl ⟨rfl, by go_num⟩)), ⟨_, rfl⟩, fun _ => t0, fun _ => hq, fun h => absurd h (by omega), by omega, by omega⟩
      · rw [hq] at c21
        go_wp2_with fail
        refine (c21 _).mono ?_
        rintro e w2 ⟨rfl, m2, rfl⟩
        rw [World.drewN_drewN]
        go_wp2_with fail
        go_ret
        exact ⟨by rw [← HG.out]; simp [hq], _, rfl⟩
    · obtain ⟨g', rfl⟩ : ∃ g', gk = g' + 1 := ⟨gk - 1, by omega⟩
      have t0 := f0 (by omega)
      have t1 := f1 (by omega)
      clear f0 f1 f2
      cases hq : q22
      · rw [hq] at c22
        go_wp2_with fail
        refine (c22 _).mono ?_
        rintro e w2 ⟨rfl, m2, rfl⟩
        rw [World.drewN_drewN]
        go_wp2_with fail
        go_roundg g'
        case measure => omega
        case rel => exact ⟨3, .inr (.inr (.inr (⟨rfl, by go_num⟩))), ⟨_, rfl⟩, fun _ => t0, fun _ => t1, fun _ => hq, by omega, by omega⟩
      · rw [hq] at c22
        go_wp2_with fail
        refine (c22 _).mono ?_
        rintro e w2 ⟨rfl, m2, rfl⟩
        rw [World.drewN_drewN]
        go_wp2_with fail
        go_ret
        exact ⟨by rw [← HG.out]; simp [hq], _, rfl⟩
    · have z20 := f0 (by omega)
      have z21 := f1 (by omega)
      have z22 := f2 (by omega)
      clear f0 f1 f2
      go_wp2_with fail
      go_loopg [18] 2 (fun gf s wx => ∃ k : Nat, ((k = 0 ∧ s = .int .i64 0) ∨ (k = 1 ∧ s = .int .i64 1) ∨ (k = 2 ∧ s = .int .i64 2)) ∧ (∃ m, wx = w.drewN m) ∧ (0 < k → q30 = false) ∧ (1 < k → q31 = false) ∧ k ≤ 2 ∧ 2 ≤ k + gf)
      case atStart => exact ⟨0, .inl ⟨rfl, rfl⟩, ⟨_, rfl⟩, fun h => absurd h (by omega), fun h => absurd h (by omega), by omega, by omega⟩
      case round =>
        obtain ⟨k, hks, ⟨m, rfl⟩, f0, f1, hk, hfu⟩ := hrel
        rcases hks with ⟨rfl, rfl⟩ | ⟨rfl, rfl⟩ | ⟨rfl, rfl⟩
        · obtain ⟨g', rfl⟩ : ∃ g', gk = g' + 1 := ⟨gk - 1, by omega⟩
          clear f0 f1
          cases hq : q30
          · rw [hq] at c30
            go_wp2_with fail
            refine (c30 _).mono ?_
            rintro e w2 ⟨rfl, m2, rfl⟩
            rw [World.drewN_drewN]
            go_wp2_with fail
            go_roundg g'
            case measure => omega
            case rel => exact ⟨1, .inr (.inl ⟨rfl, by go_num⟩), ⟨_, rfl⟩, fun _ => hq, fun h => absurd h (by omega), by omega, by omega⟩
          · rw [hq] at c30
            go_wp2_with fail
            refine (c30 _).mono ?_
            rintro e w2 ⟨rfl, m2, rfl⟩
            rw [World.drewN_drewN]
            go_wp2_with fail
            go_ret
            exact ⟨by rw [← HG.out]; simp [hq, z20, z21, z22], _, rfl⟩
        · obtain ⟨g', rfl⟩ : ∃ g', gk = g' + 1 := ⟨gk - 1, by omega⟩
          have t0 := f0 (by omega)
          clear f0 f1
          cases hq : q31
          · rw [hq] at c31
            go_wp2_with fail
            refine (c31 _).mono ?_
            rintro e w2 ⟨rfl, m2, rfl⟩
            rw [World.drewN_drewN]
            go_wp2_with fail
            go_roundg g'
            case measure => omega
            case rel => exact ⟨2, .inr (.inr (⟨rfl, by go_num⟩)), ⟨_, rfl⟩, fun _ => t0, fun _ => hq, by omega, by omega⟩
          · rw [hq] at c31
            go_wp2_with fail
            refine (c31 _).mono ?_
            rintro e w2 ⟨rfl, m2, rfl⟩
            rw [World.drewN_drewN]
            go_wp2_with fail
            go_ret
            exact ⟨by rw [← HG.out]; simp [hq, z20, z21, z22], _, rfl⟩
        · have z30 := f0 (by omega)
          have z31 := f1 (by omega)
          clear f0 f1
          go_wp2_with fail
          go_loopg [26] 3 (fun gf s wx => ∃ k : Nat, ((k = 0 ∧ s = .int .i64 0) ∨ (k = 1 ∧ s = .int .i64 1) ∨ (k = 2 ∧ s = .int .i64 2) ∨ (k = 3 ∧ s = .int .i64 3)) ∧ (∃ m, wx = w.drewN m) ∧ (0 < k → q50 = false) ∧ (1 < k → q51 = false) ∧ (2 < k → q52 = false) ∧ k ≤ 3 ∧ 3 ≤ k + gf)
          case atStart => exact ⟨0, .inl ⟨rfl, rfl⟩, ⟨_, rfl⟩, fun h => absurd h (by omega), fun h => absurd h (by omega), fun h => absurd h (by omega), by omega, by omega⟩
          case round =>
            obtain ⟨k, hks, ⟨m, rfl⟩, f0, f1, f2, hk, hfu⟩ := hrel
            rcases hks with ⟨rfl, rfl⟩ | ⟨rfl, rfl⟩ | ⟨rfl, rfl⟩ | ⟨rfl, rfl⟩
            · obtain ⟨g', rfl⟩ : ∃ g', gk = g' + 1 := ⟨gk - 1, by omega⟩
              clear f0 f1 f2
              cases hq : q50
              · rw [hq] at c50
                go_wp2_with fail
                refine (c50 _).mono ?_
                rintro e w2 ⟨rfl, m2, rfl⟩
                rw [World.drewN_drewN]
                go_wp2_with fail
                go_roundg g'
                case measure => omega
                case rel => exact ⟨1, .inr (.inl ⟨rfl, by go_num⟩), ⟨_, rfl⟩, fun _ => hq, fun h => absurd h (by omega), fun h => absurd h (by omega), by omega, by omega⟩
              · rw [hq] at c50
                go_wp2_with fail
                refine (c50 _).mono ?_
                rintro e w2 ⟨rfl, m2, rfl⟩
                rw [World.drewN_drewN]
                go_wp2_with fail
                go_ret
                exact ⟨by rw [← HG.out]; simp [hq, z20, z21, z22, z30, z31], _, rfl⟩
            · obtain ⟨g', rfl⟩ : ∃ g', gk = g' + 1 := ⟨gk - 1, by omega⟩
              have t0 := f0 (by omega)
              clear f0 f1 f2
              cases hq : q51
              · rw [hq] at c51
                go_wp2_with fail
                refine (c51 _).mono ?_
                rintro e w2 ⟨rfl, m2, rfl⟩
                rw [World.drewN_drewN]
                go_wp2_with fail
                go_roundg g'
                case measure => omega
                case rel => exact ⟨2, .inr (.inr (.inl ⟨rfl, by go_num⟩)), ⟨_, rfl⟩, fun _ => t0, fun _ => hq, fun h => absurd h (by omega), by omega, by omega⟩
              · rw [hq] at c51
                go_wp2_with fail
                refine (c51 _).mono ?_
                rintro e w2 ⟨rfl, m2, rfl⟩
                rw [World.drewN_drewN]
                go_wp2_with fail
                go_ret
                exact ⟨by rw [← HG.out]; simp [hq, z20, z21, z22, z30, z31], _, rfl⟩
            · obtain ⟨g', rfl⟩ : ∃ g', gk = g' + 1 := ⟨gk - 1, by omega⟩
              have t0 := f0 (by omega)
              have t1 := f1 (by omega)
              clear f0 f1 f2
              cases hq : q52
              · rw [hq] at c52
                go_wp2_with fail
                refine (c52 _).mono ?_
                rintro e w2 ⟨rfl, m2, rfl⟩
                rw [World.drewN_drewN]
                go_wp2_with fail
                go_roundg g'
                case measure => omega
                case rel => exact ⟨3, .inr (.inr (.inr (⟨rfl, by go_num⟩))), ⟨_, rfl⟩, fun _ => t0, fun _ => t1, fun _ => hq, by omega, by omega⟩
              · rw [hq] at c52
                go_wp2_with fail
                refine (c52 _).mono ?_
                rintro e w2 ⟨rfl, m2, rfl⟩
                rw [World.drewN_drewN]
                go_wp2_with fail
                go_ret
                exact ⟨by rw [← HG.out]; simp [hq, z20, z21, z22, z30, z31], _, rfl⟩
            · have z50 := f0 (by omega)
              have z51 := f1 (by omega)
              have z52 := f2 (by omega)
              clear f0 f1 f2
              go_wp2_with fail
              refine (c40 _).mono ?_
              rintro e w3 ⟨rfl, m3, rfl⟩
              rw [World.drewN_drewN]
              cases hq4 : q40
              ·
                go_wp2_with fail
                refine (c60 _).mono ?_
                rintro e w3 ⟨rfl, m3, rfl⟩
                rw [World.drewN_drewN]
                cases hq6 : q60
                ·
                  go_wp2_with fail
                  go_ret
                  exact ⟨by rw [← HG.out]; simp [z20, z21, z22, z30, z31, z50, z51, z52, hq4, hq6], _, rfl⟩
                ·
                  go_wp2_with fail
                  go_ret
                  exact ⟨by rw [← HG.out]; simp [z20, z21, z22, z30, z31, z50, z51, z52, hq4, hq6], _, rfl⟩
              ·
                go_wp2_with fail
                go_ret
                exact ⟨by rw [← HG.out]; simp [z20, z21, z22, z30, z31, z50, z51, z52, hq4], _, rfl⟩
end Va
end Go.Proofs.YtapmpdljapbpeaaGreatDoor

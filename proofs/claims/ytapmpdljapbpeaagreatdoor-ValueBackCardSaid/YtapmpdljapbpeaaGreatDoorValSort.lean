/-
Of which kind a field is, by its name; the reference's Sort.
-/
import Derived.Test.YtapmpdljapbpeaaGreatDoorValBase
namespace Go.Proofs.YtapmpdljapbpeaaGreatDoor
open Go.RowKit
set_option linter.unusedSimpArgs false
set_option linter.unusedVariables false
namespace Va
open Stz (sameS sameB)
def lw (s : ByteArray) : List UInt8 := s.data.toList.map Stz.low
theorem same_lw (s t : ByteArray) : sameS s t = (lw s == lw t) := rfl
theorem same_of {s t u v : ByteArray} (h1 : lw s = lw u) (h2 : lw t = lw v) : sameS s t = sameS u v := by rw [same_lw, same_lw, h1, h2]
/-- A name that is one of these is none of those. -/
theorem disj {fs gs : List ByteArray} (h : (fs.all fun c => !(gs.any (sameS · c))) = true) {name : ByteArray} (hn : fs.any (sameS · name) = true) : gs.any (sameS · name) = false := by
  obtain ⟨c, hc, h1⟩ := List.any_eq_true.1 hn
  have h2 := List.all_eq_true.1 h c hc
  simp only [Bool.not_eq_true'] at h2
  rw [same_lw, beq_iff_eq] at h1
  rw [← h2]
  congr 1
  funext f
  exact same_of rfl h1.symm
/-- Of which kind a field is, by its name. -/
def knd (name : ByteArray) : Nat := if isP0 name then 0 else if isP1 name then 1 else if isP2 name then 2 else if isP3 name then 3 else if isP4 name then 4 else if isP5 name then 5 else if isP6 name then 6 else 7
theorem dj01 {name : ByteArray} (h : isP0 name = true) : isP1 name = false := disj (fs := fs0) (gs := fs1) (by decide +kernel) h
theorem dj02 {name : ByteArray} (h : isP0 name = true) : isP2 name = false := disj (fs := fs0) (gs := fs2) (by decide +kernel) h
theorem dj03 {name : ByteArray} (h : isP0 name = true) : isP3 name = false := disj (fs := fs0) (gs := fs3) (by decide +kernel) h
theorem dj04 {name : ByteArray} (h : isP0 name = true) : isP4 name = false := disj (fs := fs0) (gs := fs4) (by decide +kernel) h
theorem dj05 {name : ByteArray} (h : isP0 name = true) : isP5 name = false := disj (fs := fs0) (gs := fs5) (by decide +kernel) h
theorem dj06 {name : ByteArray} (h : isP0 name = true) : isP6 name = false := disj (fs := fs0) (gs := fs6) (by decide +kernel) h
theorem dj10 {name : ByteArray} (h : isP1 name = true) : isP0 name = false := disj (fs := fs1) (gs := fs0) (by decide +kernel) h
theorem dj12 {name : ByteArray} (h : isP1 name = true) : isP2 name = false := disj (fs := fs1) (gs := fs2) (by decide +kernel) h
theorem dj13 {name : ByteArray} (h : isP1 name = true) : isP3 name = false := disj (fs := fs1) (gs := fs3) (by decide +kernel) h
theorem dj14 {name : ByteArray} (h : isP1 name = true) : isP4 name = false := disj (fs := fs1) (gs := fs4) (by decide +kernel) h
theorem dj15 {name : ByteArray} (h : isP1 name = true) : isP5 name = false := disj (fs := fs1) (gs := fs5) (by decide +kernel) h
theorem dj16 {name : ByteArray} (h : isP1 name = true) : isP6 name = false := disj (fs := fs1) (gs := fs6) (by decide +kernel) h
theorem dj20 {name : ByteArray} (h : isP2 name = true) : isP0 name = false := disj (fs := fs2) (gs := fs0) (by decide +kernel) h
theorem dj21 {name : ByteArray} (h : isP2 name = true) : isP1 name = false := disj (fs := fs2) (gs := fs1) (by decide +kernel) h
theorem dj23 {name : ByteArray} (h : isP2 name = true) : isP3 name = false := disj (fs := fs2) (gs := fs3) (by decide +kernel) h
theorem dj24 {name : ByteArray} (h : isP2 name = true) : isP4 name = false := disj (fs := fs2) (gs := fs4) (by decide +kernel) h
theorem dj25 {name : ByteArray} (h : isP2 name = true) : isP5 name = false := disj (fs := fs2) (gs := fs5) (by decide +kernel) h
theorem dj26 {name : ByteArray} (h : isP2 name = true) : isP6 name = false := disj (fs := fs2) (gs := fs6) (by decide +kernel) h
theorem dj30 {name : ByteArray} (h : isP3 name = true) : isP0 name = false := disj (fs := fs3) (gs := fs0) (by decide +kernel) h
theorem dj31 {name : ByteArray} (h : isP3 name = true) : isP1 name = false := disj (fs := fs3) (gs := fs1) (by decide +kernel) h
theorem dj32 {name : ByteArray} (h : isP3 name = true) : isP2 name = false := disj (fs := fs3) (gs := fs2) (by decide +kernel) h
theorem dj34 {name : ByteArray} (h : isP3 name = true) : isP4 name = false := disj (fs := fs3) (gs := fs4) (by decide +kernel) h
theorem dj35 {name : ByteArray} (h : isP3 name = true) : isP5 name = false := disj (fs := fs3) (gs := fs5) (by decide +kernel) h
theorem dj36 {name : ByteArray} (h : isP3 name = true) : isP6 name = false := disj (fs := fs3) (gs := fs6) (by decide +kernel) h
theorem dj40 {name : ByteArray} (h : isP4 name = true) : isP0 name = false := disj (fs := fs4) (gs := fs0) (by decide +kernel) h
theorem dj41 {name : ByteArray} (h : isP4 name = true) : isP1 name = false := disj (fs := fs4) (gs := fs1) (by decide +kernel) h
theorem dj42 {name : ByteArray} (h : isP4 name = true) : isP2 name = false := disj (fs := fs4) (gs := fs2) (by decide +kernel) h
theorem dj43 {name : ByteArray} (h : isP4 name = true) : isP3 name = false := disj (fs := fs4) (gs := fs3) (by decide +kernel) h
theorem dj45 {name : ByteArray} (h : isP4 name = true) : isP5 name = false := disj (fs := fs4) (gs := fs5) (by decide +kernel) h
theorem dj46 {name : ByteArray} (h : isP4 name = true) : isP6 name = false := disj (fs := fs4) (gs := fs6) (by decide +kernel) h
theorem dj50 {name : ByteArray} (h : isP5 name = true) : isP0 name = false := disj (fs := fs5) (gs := fs0) (by decide +kernel) h
theorem dj51 {name : ByteArray} (h : isP5 name = true) : isP1 name = false := disj (fs := fs5) (gs := fs1) (by decide +kernel) h
theorem dj52 {name : ByteArray} (h : isP5 name = true) : isP2 name = false := disj (fs := fs5) (gs := fs2) (by decide +kernel) h
theorem dj53 {name : ByteArray} (h : isP5 name = true) : isP3 name = false := disj (fs := fs5) (gs := fs3) (by decide +kernel) h
theorem dj54 {name : ByteArray} (h : isP5 name = true) : isP4 name = false := disj (fs := fs5) (gs := fs4) (by decide +kernel) h
theorem dj56 {name : ByteArray} (h : isP5 name = true) : isP6 name = false := disj (fs := fs5) (gs := fs6) (by decide +kernel) h
theorem dj60 {name : ByteArray} (h : isP6 name = true) : isP0 name = false := disj (fs := fs6) (gs := fs0) (by decide +kernel) h
theorem dj61 {name : ByteArray} (h : isP6 name = true) : isP1 name = false := disj (fs := fs6) (gs := fs1) (by decide +kernel) h
theorem dj62 {name : ByteArray} (h : isP6 name = true) : isP2 name = false := disj (fs := fs6) (gs := fs2) (by decide +kernel) h
theorem dj63 {name : ByteArray} (h : isP6 name = true) : isP3 name = false := disj (fs := fs6) (gs := fs3) (by decide +kernel) h
theorem dj64 {name : ByteArray} (h : isP6 name = true) : isP4 name = false := disj (fs := fs6) (gs := fs4) (by decide +kernel) h
theorem dj65 {name : ByteArray} (h : isP6 name = true) : isP5 name = false := disj (fs := fs6) (gs := fs5) (by decide +kernel) h
theorem knd_cases (name : ByteArray) : (knd name = 0 ∧ isP0 name = true ∧ isP1 name = false ∧ isP2 name = false ∧ isP3 name = false ∧ isP4 name = false ∧ isP5 name = false ∧ isP6 name = false) ∨ (knd name = 1 ∧ isP0 name = false ∧ isP1 name = true ∧ isP2 name = false ∧ isP3 name = false ∧ isP4 name = false ∧ isP5 name = false ∧ isP6 name = false) ∨ (knd name = 2 ∧ isP0 name = false ∧ isP1 name = false ∧ isP2 name = true ∧ isP3 name = false ∧ isP4 name = false ∧ isP5 name = false ∧ isP6 name = false) ∨ (knd name = 3 ∧ isP0 name = false ∧ isP1 name = false ∧ isP2 name = false ∧ isP3 name = true ∧ isP4 name = false ∧ isP5 name = false ∧ isP6 name = false) ∨ (knd name = 4 ∧ isP0 name = false ∧ isP1 name = false ∧ isP2 name = false ∧ isP3 name = false ∧ isP4 name = true ∧ isP5 name = false ∧ isP6 name = false) ∨ (knd name = 5 ∧ isP0 name = false ∧ isP1 name = false ∧ isP2 name = false ∧ isP3 name = false ∧ isP4 name = false ∧ isP5 name = true ∧ isP6 name = false) ∨ (knd name = 6 ∧ isP0 name = false ∧ isP1 name = false ∧ isP2 name = false ∧ isP3 name = false ∧ isP4 name = false ∧ isP5 name = false ∧ isP6 name = true) ∨ (knd name = 7 ∧ isP0 name = false ∧ isP1 name = false ∧ isP2 name = false ∧ isP3 name = false ∧ isP4 name = false ∧ isP5 name = false ∧ isP6 name = false) := by
  unfold knd
  by_cases h0 : isP0 name = true
  · exact .inl ⟨by rw [if_pos h0], h0, dj01 h0, dj02 h0, dj03 h0, dj04 h0, dj05 h0, dj06 h0⟩
  by_cases h1 : isP1 name = true
  · exact .inr (.inl ⟨by rw [if_neg h0]; rw [if_pos h1], dj10 h1, h1, dj12 h1, dj13 h1, dj14 h1, dj15 h1, dj16 h1⟩)
  by_cases h2 : isP2 name = true
  · exact .inr (.inr (.inl ⟨by rw [if_neg h0]; rw [if_neg h1]; rw [if_pos h2], dj20 h2, dj21 h2, h2, dj23 h2, dj24 h2, dj25 h2, dj26 h2⟩))
  by_cases h3 : isP3 name = true
  · exact .inr (.inr (.inr (.inl ⟨by rw [if_neg h0]; rw [if_neg h1]; rw [if_neg h2]; rw [if_pos h3], dj30 h3, dj31 h3, dj32 h3, h3, dj34 h3, dj35 h3, dj36 h3⟩)))
  by_cases h4 : isP4 name = true
  · exact .inr (.inr (.inr (.inr (.inl ⟨by rw [if_neg h0]; rw [if_neg h1]; rw [if_neg h2]; rw [if_neg h3]; rw [if_pos h4], dj40 h4, dj41 h4, dj42 h4, dj43 h4, h4, dj45 h4, dj46 h4⟩))))
  by_cases h5 : isP5 name = true
  · exact .inr (.inr (.inr (.inr (.inr (.inl ⟨by rw [if_neg h0]; rw [if_neg h1]; rw [if_neg h2]; rw [if_neg h3]; rw [if_neg h4]; rw [if_pos h5], dj50 h5, dj51 h5, dj52 h5, dj53 h5, dj54 h5, h5, dj56 h5⟩)))))
  by_cases h6 : isP6 name = true
  · exact .inr (.inr (.inr (.inr (.inr (.inr (.inl ⟨by rw [if_neg h0]; rw [if_neg h1]; rw [if_neg h2]; rw [if_neg h3]; rw [if_neg h4]; rw [if_neg h5]; rw [if_pos h6], dj60 h6, dj61 h6, dj62 h6, dj63 h6, dj64 h6, dj65 h6, h6⟩))))))
  exact .inr (.inr (.inr (.inr (.inr (.inr (.inr (⟨by rw [if_neg h0]; rw [if_neg h1]; rw [if_neg h2]; rw [if_neg h3]; rw [if_neg h4]; rw [if_neg h5]; rw [if_neg h6], Bool.eq_false_iff.2 h0, Bool.eq_false_iff.2 h1, Bool.eq_false_iff.2 h2, Bool.eq_false_iff.2 h3, Bool.eq_false_iff.2 h4, Bool.eq_false_iff.2 h5, Bool.eq_false_iff.2 h6⟩)))))))
end Va
end Go.Proofs.YtapmpdljapbpeaaGreatDoor

/-
Slices of strings that are read alone; the contract of the reference's SameTexts; append of one string.
-/
import Derived.Test.YtgolnfgkoolpoaaDoorTextAwake
import Derived.Test.YtgolnfgkoolpoaaDoorOwn
import Derived.Deep.RegionHeld3
import Derived.BigQuiet
namespace Go.Proofs.YtgolnfgkoolpoaaDoor
open Go.RowKit
set_option linter.unusedVariables false
set_option linter.unusedSimpArgs false
namespace Txt
/-- A slice that reads as these texts. -/
def Texts (w : World) (v : Value) (ls : List ByteArray) : Prop :=
  ls.length ≤ 4611686018427387904 ∧ ∃ a cap, v = .slice a ls.length cap ∧ ls.length ≤ cap ∧ (0 < ls.length → ∃ b off, a = some ⟨b, off, none⟩ ∧ ∀ i, i < ls.length → w.cell? ⟨b, off + i, none⟩ = some (.string (ls.getD i ByteArray.empty)))
theorem Texts.below {w w' : World} {v ls} (h : Texts w v ls) (hb : Below w.heap.size w w') : Texts w' v ls := by
  obtain ⟨h0, a, cap, h1, hc, h2⟩ := h
  exact ⟨h0, a, cap, h1, hc, fun hl => by
    obtain ⟨b, off, h3, h4⟩ := h2 hl
    exact ⟨b, off, h3, fun i hi => by rw [hb.cell (lt_cell (h4 i hi))]; exact h4 i hi⟩⟩
theorem Texts.none (w : World) : Texts w (.slice none 0 0) [] := ⟨by simp, _, _, rfl, Nat.le_refl _, fun h => absurd h (by simp)⟩
theorem Texts.empty (w : World) (a : Option Addr) (c : Nat) : Texts w (.slice a 0 c) [] := ⟨by simp, _, _, rfl, by simp, fun h => absurd h (by simp)⟩
theorem Texts.owned {w : World} {B : Nat} {v : Value} {ls : List ByteArray} (h : w.ownsRow B 9 1 v ls.length (ls.map Value.string)) (hl : ls.length ≤ 4611686018427387904) : Texts w v ls := by
  refine ⟨hl, ?_⟩
  rcases id h.2 with ⟨rfl, h0⟩ | ⟨g, cap, cur, rfl, _, hh, hle, hcap, hsz, htake⟩
  · have : ls = [] := List.length_eq_zero_iff.1 h0
    subst this
    exact ⟨Option.none, 0, rfl, Nat.le_refl _, fun h => absurd h (by simp)⟩
  · refine ⟨_, _, rfl, hle, fun _ => ⟨g, 0, rfl, fun i hi => ?_⟩⟩
    have := h.cells (g := g) rfl i (.string (ls.getD i ByteArray.empty)) (by simp [hi])
    rw [Nat.zero_add]
    have e : (⟨g, 0, Option.none⟩ : Addr).add i = ⟨g, i, Option.none⟩ := by cases i <;> simp [Addr.add]
    rw [e] at this
    exact this
theorem drewN_below (w : World) (n : Nat) : Below w.heap.size w (w.drewN n) := ⟨rfl, rfl, rfl, Nat.le_refl _, fun _ _ => rfl⟩
theorem str_beq (x y : ByteArray) : (x.toList == y.toList) = decide (x = y) := by
  rw [Bool.eq_iff_iff]
  simp only [beq_iff_eq, decide_eq_true_eq]
  rw [Lib.toList_data, Lib.toList_data]
  constructor
  · intro h
    exact ByteArray.ext (Array.ext' h)
  · rintro rfl; rfl
theorem infoText : (Tryd.prog.info? 9).map (fun i => (i.zero, i.size, i.bytes)) = some (some (.string ByteArray.empty), 1, 16) := by kernel_rfl
/-- append(l, text), for the walk. -/
theorem append_text {w : World} {ops : Array Oper} {rest : List Oper} {o : Oper} {a : Act} {Q : Exit → Act → World → Prop} (hgd : o.guard = none) (s x : Operand)
    (ho : o.op = .call { callee := .builtin .append, args := #[s, x], argTypes := #[40, 40] })
    (B : Nat) (v : Value) (ls : List ByteArray) (hv : a.eval s = v) (hown : w.ownsRow B 9 1 v ls.length (ls.map Value.string)) (y : Addr) (c : Nat) (hx : a.eval x = .slice (some y) 1 c) (t : ByteArray) (hcell : w.cell? (y.add 0) = some (.string t))
    (hn : ls.length + 1 ≤ 8796093022208) (hB : B ≤ w.heap.size)
    (h : ∀ v' w', w'.ownsRow B 9 1 v' (ls ++ [t]).length ((ls ++ [t]).map Value.string) → w.grownBy w' v.ownBlock → wpList Tryd.prog ops Q rest (a.put o.dst v') w') : wpList Tryd.prog ops Q (o :: rest) a w := by
  obtain ⟨i0, hi, hz0, hz1, hz2⟩ := info_parts infoText
  have hsrc : Src Tryd.prog 1 40 (.slice (some y) 1 c) 1 [.string t] w := by
    refine Src.ofSlice w Tryd.underlying40 y 1 c [.string t] rfl (fun j u hj => ?_) (fun u hu => by rw [List.mem_singleton.1 hu]; rfl)
    have : j = 0 := by have := (List.getElem?_eq_some_iff.1 hj).1; simp at this; omega
    subst this
    simp at hj
    rw [← hj]; exact hcell
  refine Own.wpList_append_src hgd s x 40 40 ho B 9 i0 _ 1 16 Tryd.underlying40 hi hz0 hz1 hz2 rfl v ls.length _ hv hown _ 1 [.string t] hx hsrc (by simp only [maxLen]; omega) (by omega) hB fun v' w' h1 h2 => ?_
  exact h v' w' (by simpa using h1) h2
end Txt
end Go.Proofs.YtgolnfgkoolpoaaDoor

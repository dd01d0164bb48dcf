/-
What came in: literals, clauses, a model.
-/
import Derived.Test.YtlpahomaokopoaaCnfKit
import Derived.Deep.Grids
import Derived.Deep.Slices
import Derived.Deep.Fields
import Derived.ChangeSame
import Derived.OpenShut
import Derived.ChangeOld
namespace Go.Proofs.Ytlpahomaokopoaa
open Go.RowKit Go.ChangeShapes Go.WideShapes Go.Deep
set_option linter.unusedVariables false
/-- A slice of integers that came in. -/
def IsRow (k : IntKind) (w : World) (a : Option Addr) (len cap : Nat) (zs : List Int) : Prop :=
  (a = none ∧ len = 0 ∧ cap = 0 ∧ zs = []) ∨
  ∃ x, a = some x ∧ len ≤ cap ∧ cap ≤ maxLen ∧ zs.length = cap ∧ (∀ i, i < zs.length → w.cell? (x.add i) = some (.int k (zs.getD i 0))) ∧ ∀ n ∈ zs, (Lit.int k n).wf = true
namespace Cn
theorem spot {w : World} {x : Addr} {v : Value} (h : w.cell? (x.add 0) = some v) : ∃ b off, x = ⟨b, off, none⟩ := by
  obtain ⟨b, off, part⟩ := x
  have hp : part = none := by
    simpa [Addr.add] using World.cell?_spot h
  subst hp
  exact ⟨b, off, rfl⟩
theorem lit_of {w : World} {a : Option Addr} {len cap : Nat} {zs : List Int} (h : IsRow .i64 w a len cap zs) : LitV w (.slice a len cap) (zs.take len) ∧ (zs.take len).length = len := by
  rcases h with ⟨rfl, rfl, rfl, rfl⟩ | ⟨x, rfl, hl, hm, hz, hc, hw⟩
  · exact ⟨LitV.nil w, rfl⟩
  · unfold maxLen at hm
    have hlen : (zs.take len).length = len := by rw [List.length_take]; omega
    refine ⟨⟨fun z hz' => ?_, some x, cap, by rw [hlen], by rw [hlen]; exact hl, by omega, by simp, fun h0 => ?_⟩, hlen⟩
    · have := hw z (List.mem_of_mem_take hz')
      exact bounds_i64 this
    · rw [hlen] at h0
      obtain ⟨b, off, rfl⟩ := spot (hc 0 (by omega))
      refine ⟨b, off, rfl, fun i y hy => ?_⟩
      have hi : i < zs.length := by
        have := (List.getElem?_eq_some_iff.1 hy).1
        rw [List.length_take] at this
        omega
      have := hc i hi
      rw [Addr.add_mid] at this
      rw [this]
      rw [List.getElem?_take] at hy
      split at hy
      · rw [List.getD_eq_getElem?_getD, hy]; rfl
      · cases hy
/-- Clauses that are read. -/
def LitVs (w : World) (v : Value) (ls : List (List Int)) : Prop := ∃ a cap, v = .slice a ls.length cap ∧ ls.length ≤ 9223372036854775807 ∧
  (0 < ls.length → ∃ b off, a = some ⟨b, off, none⟩ ∧ ∀ i c, ls[i]? = some c → ∃ u, w.cell? ⟨b, off + i, none⟩ = some u ∧ LitV w u c)
theorem LitVs.below {w w' : World} {v : Value} {ls : List (List Int)} (h : LitVs w v ls) (hb : Below w.heap.size w w') : LitVs w' v ls := by
  obtain ⟨a, cap, h1, h2, h3⟩ := h
  refine ⟨a, cap, h1, h2, fun hl => ?_⟩
  obtain ⟨b, off, e, hc⟩ := h3 hl
  refine ⟨b, off, e, fun i c hi => ?_⟩
  obtain ⟨u, h4, h5⟩ := hc i c hi
  exact ⟨u, cell_on h4 hb, h5.below hb⟩
theorem LitVs.shape {w : World} {v : Value} {ls : List (List Int)} (h : LitVs w v ls) : ∃ a cap, v = .slice a ls.length cap := by
  obtain ⟨a, cap, h1, _⟩ := h
  exact ⟨a, cap, h1⟩
section
variable {H : Type} {enc : TypeId × Value → H} {w : World} {base : Nat}
theorem open_lits {n : Nat} {v : Value} {y : DataW H × List MemPlace} (h : DataW.trod enc Try.prog w base (fun _ => true) true n 22 [v] = some y) : ∃ c, LitV w v c := by
  rcases open_ints Try.underlying22 Try.underlying45 (by kernel_rfl) h with ⟨hcs, _⟩ | ⟨x, l, c, zs, hcs, _, hl, hm, hz, _, hcell, hwz⟩
  · obtain rfl : v = .slice none 0 0 := by simpa using hcs
    exact ⟨[], LitV.nil w⟩
  · obtain rfl : v = .slice (some x) l c := by simpa using hcs
    exact ⟨_, (lit_of (.inr ⟨x, rfl, hl, hm, by simpa using hz, hcell, hwz⟩)).1⟩
theorem lits_of {v : Value} {d : DataW H} {p : List MemPlace} (k : DataW.Trod enc Try.prog w 0 (fun _ => true) true 28 v d p) (o : Value.okWide Try.prog w .any base 28 v) : ∃ ls, LitVs w v ls := by
  obtain ⟨a, len, cap, rfl⟩ := okWide_slice Try.underlying28 o
  obtain ⟨fuel, hf⟩ := k
  rcases open_slice1 Try.underlying28 (by kernel_rfl) hf with ⟨hcs, _⟩ | ⟨x, l, c, m, n, V, D, Pl, hcs, _, hl, hm, hmm, _, hi⟩
  · simp [Value.cells] at hcs
    obtain ⟨rfl, rfl, rfl⟩ := hcs
    exact ⟨[], none, 0, rfl, by simp, by simp⟩
  · simp [Value.cells] at hcs
    obtain ⟨rfl, rfl, rfl⟩ := hcs
    have hmc : m = cap := by simpa using hmm
    have hall : ∀ i, i < len → ∃ r, LitV w (V i) r := fun i hil => open_lits (hi i (by omega)).2
    unfold maxLen at hm
    refine ⟨(List.range len).map fun i => if h : i < len then (hall i h).choose else [], some x, cap, by simp, by simp; omega, fun h0 => ?_⟩
    have h0' : 0 < len := by simpa using h0
    obtain ⟨b, off, rfl⟩ := spot (hi 0 (by omega)).1
    refine ⟨b, off, rfl, fun i r hir => ?_⟩
    have hil' : i < len := by
      have := (List.getElem?_eq_some_iff.1 hir).1
      simpa using this
    have hcell := (hi i (by omega)).1
    rw [Addr.add_mid] at hcell
    refine ⟨V i, hcell, ?_⟩
    simp [hil'] at hir
    rw [← hir]
    exact (hall i hil').choose_spec
theorem bools_of {v : Value} {d : DataW H} {p : List MemPlace} (k : DataW.Trod enc Try.prog w 0 (fun _ => true) true 29 v d p) (o : Value.okWide Try.prog w .any base 29 v) : ∃ m, BoolV w v m := by
  obtain ⟨a, len, cap, rfl⟩ := okWide_slice Try.underlying29 o
  obtain ⟨fuel, hf⟩ := k
  rcases open_bools Try.underlying29 Try.underlying4 (by kernel_rfl) hf with ⟨hcs, _⟩ | ⟨x, l, c, B, hcs, _, hl, hm, _, hcell⟩
  · simp [Value.cells] at hcs
    obtain ⟨rfl, rfl, rfl⟩ := hcs
    exact ⟨[], BoolV.nil w⟩
  · simp [Value.cells] at hcs
    obtain ⟨rfl, rfl, rfl⟩ := hcs
    unfold maxLen at hm
    refine ⟨(List.range len).map B, some x, cap, by simp, by simpa using hl, by omega, fun h0 => ?_⟩
    have h0' : 0 < len := by simpa using h0
    obtain ⟨b, off, rfl⟩ := spot (hcell 0 (by omega))
    refine ⟨b, off, rfl, fun i y hy => ?_⟩
    have hil : i < len := by
      have := (List.getElem?_eq_some_iff.1 hy).1
      simpa using this
    have h1 := hcell i (by omega)
    rw [Addr.add_mid] at h1
    rw [h1]
    simp [hil] at hy
    rw [hy]
end
end Cn
end Go.Proofs.Ytlpahomaokopoaa

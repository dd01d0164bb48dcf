/-
Stanzas that came in.
-/
import Derived.Test.YtgolnfgkoolpoaaDoorStzPrint
import Derived.Deep.SlicePairs
import Derived.SliceStrings
import Derived.SizedLaws
namespace Go.Proofs.YtgolnfgkoolpoaaDoor
open Go.RowKit Go.ChangeShapes Go.WideShapes Go.Deep
set_option linter.unusedSimpArgs false
set_option linter.unusedVariables false
namespace Stz
section
variable {H : Type} {enc : TypeId × Value → H} {w : World}
theorem all_mem {P : Program} {e : TypeId} : ∀ {l : List (DataW H)} {d : DataW H}, d ∈ l → ∀ n ∈ d.weights P e, n ∈ DataW.weightsAll P e l
  | d0 :: r, d, hd, n, hn => by
    simp only [DataW.weightsAll, List.mem_append]
    rcases List.mem_cons.1 hd with rfl | h
    · exact .inl hn
    · exact .inr (all_mem h n hn)
/-- No weight of d is more than may come in. -/
def Wt (t : TypeId) (d : DataW H) : Prop := ∀ n ∈ d.weights Tryd.prog t, n ≤ reachBytes
theorem Wt.elem {t e : TypeId} {elems spare : List (DataW H)} (h : Wt t (.slice elems spare)) (hu : Tryd.prog.underlying t = some (.slice e)) {d : DataW H} (hd : d ∈ elems) : Wt e d := fun n hn => h n (by
  simp only [DataW.weights, hu, List.mem_cons, List.mem_append]
  exact .inr (.inl (all_mem hd n hn)))
theorem Wt.row {t e : TypeId} {elems spare : List (DataW H)} (h : Wt t (.slice elems spare)) (hu : Tryd.prog.underlying t = some (.slice e)) : (elems.length + spare.length) * Tryd.prog.bytesOf e ≤ reachBytes := h _ (by
  simp only [DataW.weights, hu, List.mem_cons]
  exact .inl trivial)
theorem spot {a : Addr} {u : Value} (h : w.cell? a = some u) : ∃ b off, a = ⟨b, off, none⟩ := by
  obtain ⟨b, off, part⟩ := a
  have hp : part = none := World.cell?_spot h
  subst hp
  exact ⟨b, off, rfl⟩
theorem texts_of {n : Nat} {v : Value} {d : DataW H} {ps : List MemPlace} (h : DataW.trod enc Tryd.prog w 0 (fun _ => true) true n 40 [v] = some (d, ps)) (hw : Wt 40 d) :
    ∃ ls : List Bs, Txt.Texts w v (ls.map S) ∧ ∀ x ∈ ls, x.length ≤ 140737488351232 := by
  rcases open_strings Tryd.underlying40 Tryd.underlying9 (by kernel_rfl) h with ⟨hcs, _⟩ | ⟨a, len, cap, ss, hcs, _, hl, hm, hss, hx, hcell, _⟩
  · obtain rfl : v = .slice none 0 0 := by simpa using hcs
    exact ⟨[], ⟨by simp, none, 0, rfl, Nat.le_refl _, fun h => absurd h (by simp)⟩, by simp⟩
  · obtain rfl : v = .slice (some a) len cap := by simpa using hcs
    simp only [Prod.mk.injEq] at hx
    obtain ⟨rfl, _⟩ := hx
    simp only [if_true] at hss
    have hrow := hw.row Tryd.underlying40
    have hb : Tryd.prog.bytesOf 9 = 16 := by kernel_rfl
    have hlen : (ss.take len).length = len := by rw [List.length_take]; omega
    rw [hb] at hrow
    unfold strs at hrow
    rw [List.length_map, List.length_map, hlen] at hrow
    unfold reachBytes at hrow
    have hmap : (((ss.take len).map fun t : ByteArray => t.data.toList)).map S = ss.take len := by
      rw [List.map_map]
      conv => rhs; rw [← List.map_id (ss.take len)]
      refine List.map_congr_left fun t _ => S_self t
    refine ⟨(ss.take len).map fun t : ByteArray => t.data.toList, ?_, ?_⟩
    · rw [hmap]
      refine ⟨by rw [hlen]; omega, some a, cap, by rw [hlen], by rw [hlen]; exact hl, fun h0 => ?_⟩
      rw [hlen] at h0
      obtain ⟨b, off, rfl⟩ : ∃ b off, a = ⟨b, off, none⟩ := by
        have := hcell 0 (by omega)
        rw [show a.add 0 = a by cases a; rfl] at this
        exact spot this
      refine ⟨b, off, rfl, fun i hi => ?_⟩
      rw [hlen] at hi
      have := hcell i (by omega)
      rw [Addr.add_mid] at this
      rw [this]
      simp [List.getD, hi]
    · intro x hx
      obtain ⟨t, ht, rfl⟩ := List.mem_map.1 hx
      have h1 := hw.elem Tryd.underlying40 (d := .lit (.string t.data.toList)) (List.mem_map.2 ⟨t, ht, rfl⟩)
      have := h1 t.data.toList.length (by simp [DataW.weights])
      unfold reachBytes at this
      exact this
theorem string_of {n : Nat} {v : Value} {d : DataW H} {ps : List MemPlace} (h : DataW.trod enc Tryd.prog w 0 (fun _ => true) true n 9 [v] = some (d, ps)) (hw : Wt 9 d) :
    ∃ x : Bs, v = .string (S x) ∧ x.length ≤ 140737488351232 := by
  obtain ⟨s', hv, hx, _⟩ := DataW.trod_string Tryd.underlying9 h
  obtain rfl : v = .string s' := by simpa using hv
  simp only [Prod.mk.injEq] at hx
  obtain ⟨rfl, _⟩ := hx
  refine ⟨s'.data.toList, by rw [S_self], ?_⟩
  have := hw s'.data.toList.length (by simp [DataW.weights])
  unfold reachBytes at this
  exact this
theorem Wt.part0 {t : TypeId} {f0 f1 : Field} {d0 d1 : DataW H} (h : Wt t (.agg [d0, d1])) (hu : Tryd.prog.underlying t = some (.struct #[f0, f1])) : Wt f0.type d0 := fun n hn => h n (by
  simp [DataW.weights, hu, DataW.weightsEach, hn])
theorem Wt.part1 {t : TypeId} {f0 f1 : Field} {d0 d1 : DataW H} (h : Wt t (.agg [d0, d1])) (hu : Tryd.prog.underlying t = some (.struct #[f0, f1])) : Wt f1.type d1 := fun n hn => h n (by
  simp [DataW.weights, hu, DataW.weightsEach, hn])
theorem mul_bound {x y b : Nat} (h : (x + y) * b ≤ reachBytes) (hb : 8 ≤ b) : x ≤ 1152921504606846976 := by
  unfold reachBytes at h
  have : x * 8 ≤ (x + y) * b := Nat.mul_le_mul (by omega) hb
  omega
theorem flds_of {n : Nat} {v : Value} {d : DataW H} {ps : List MemPlace} (h : DataW.trod enc Tryd.prog w 0 (fun _ => true) true n 35 [v] = some (d, ps)) (hw : Wt 35 d) :
    ∃ fs : List Fld, Flds w v fs ∧ ∀ f ∈ fs, Szd f := by
  rcases open_slice_pairs Tryd.underlying35 Tryd.underlying42 (by kernel_rfl) rfl rfl (by kernel_rfl) (by kernel_rfl) h with ⟨hcs, _⟩ | ⟨a, len, cap, m, n', V0, V1, D0, D1, P0, P1, hcs, _, hl, hm, hmm, hx, hat⟩
  · obtain rfl : v = .slice none 0 0 := by simpa using hcs
    exact ⟨[], Flds.none w, by simp⟩
  · obtain rfl : v = .slice (some a) len cap := by simpa using hcs
    simp only [Prod.mk.injEq] at hx
    obtain ⟨rfl, _⟩ := hx
    simp only [if_true] at hmm
    subst hmm
    have hrow := hw.row Tryd.underlying35
    rw [List.length_map, List.length_range] at hrow
    have hlen := mul_bound hrow (by decide +kernel)
    have hall : ∀ i, i < len → ∃ f : Fld, w.cell? (a.add (i * 2)) = some (.string (S f.1)) ∧ (∃ u, w.cell? (a.add (i * 2 + 1)) = some u ∧ Txt.Texts w u (f.2.map S)) ∧ Szd f := fun i hi => by
      obtain ⟨c0, c1, t0, t1⟩ := hat i (by omega)
      have he : Wt 42 (.agg [D0 i, D1 i]) := hw.elem Tryd.underlying35 (List.mem_map.2 ⟨i, by simpa using hi, rfl⟩)
      obtain ⟨x, hx, hxl⟩ := string_of t0 (he.part0 Tryd.underlying42)
      obtain ⟨ls, ht, hls⟩ := texts_of t1 (he.part1 Tryd.underlying42)
      exact ⟨(x, ls), by rw [c0, hx], ⟨_, c1, ht⟩, hxl, hls⟩
    refine ⟨(List.range len).map fun i => if h : i < len then (hall i h).choose else ([], []), ⟨by simp; exact hlen, some a, m, by simp, by simp; exact hl, fun h0 => ?_⟩, ?_⟩
    · have h0' : 0 < len := by simpa using h0
      obtain ⟨b, off, rfl⟩ : ∃ b off, a = ⟨b, off, none⟩ := by
        obtain ⟨_, this, _⟩ := hall 0 h0'
        rw [show a.add (0 * 2) = a by cases a; rfl] at this
        exact spot this
      refine ⟨b, off, rfl, fun i hil => ?_⟩
      have hil' : i < len := by simpa using hil
      have e : ((List.range len).map fun i => if h : i < len then (hall i h).choose else ([], [])).getD i ([], []) = (hall i hil').choose := by
        simp [hil']
      rw [e]
      have hsp := (hall i hil').choose_spec
      generalize (hall i hil').choose = f at hsp ⊢
      obtain ⟨h1, h2, _⟩ := hsp
      rw [Addr.add_mid] at h1 h2
      refine ⟨by rw [Nat.mul_comm]; exact h1, ?_⟩
      rw [Nat.mul_comm 2 i]
      exact h2
    · intro f hf
      obtain ⟨i, hi, rfl⟩ := List.mem_map.1 hf
      have hi' : i < len := by simpa using hi
      simp only [hi', dite_true]
      exact (hall i hi').choose_spec.2.2
theorem int_of {n : Nat} {v : Value} {y : DataW H × List MemPlace} (h : DataW.trod enc Tryd.prog w 0 (fun _ => true) true n 3 [v] = some y) : ∃ k : Int, v = .int .i64 k := by
  obtain ⟨k, hv, _⟩ := DataW.trod_int Tryd.underlying3 h
  exact ⟨k, by simpa using hv⟩
theorem stzs_of {n : Nat} {v : Value} {d : DataW H} {ps : List MemPlace} (h : DataW.trod enc Tryd.prog w 0 (fun _ => true) true n 23 [v] = some (d, ps)) (hw : Wt 23 d) :
    ∃ l : List Sz, Stzs w v l ∧ ∀ s ∈ l, ∀ f ∈ s.2, Szd f := by
  rcases open_slice_pairs Tryd.underlying23 Tryd.underlying37 (by kernel_rfl) rfl rfl (by kernel_rfl) (by kernel_rfl) h with ⟨hcs, _⟩ | ⟨a, len, cap, m, n', V0, V1, D0, D1, P0, P1, hcs, _, hl, hm, hmm, hx, hat⟩
  · obtain rfl : v = .slice none 0 0 := by simpa using hcs
    exact ⟨[], Stzs.none w, by simp⟩
  · obtain rfl : v = .slice (some a) len cap := by simpa using hcs
    simp only [Prod.mk.injEq] at hx
    obtain ⟨rfl, _⟩ := hx
    simp only [if_true] at hmm
    subst hmm
    have hrow := hw.row Tryd.underlying23
    rw [List.length_map, List.length_range] at hrow
    have hlen := mul_bound hrow (by decide +kernel)
    have hall : ∀ i, i < len → ∃ s : Sz, w.cell? (a.add (i * 2)) = some (.int .i64 s.1) ∧ (∃ u, w.cell? (a.add (i * 2 + 1)) = some u ∧ Flds w u s.2) ∧ ∀ f ∈ s.2, Szd f := fun i hi => by
      obtain ⟨c0, c1, t0, t1⟩ := hat i (by omega)
      have he : Wt 37 (.agg [D0 i, D1 i]) := hw.elem Tryd.underlying23 (List.mem_map.2 ⟨i, by simpa using hi, rfl⟩)
      obtain ⟨x, hx⟩ := int_of t0
      obtain ⟨fs, ht, hfs⟩ := flds_of t1 (he.part1 Tryd.underlying37)
      exact ⟨(x, fs), by rw [c0, hx], ⟨_, c1, ht⟩, hfs⟩
    refine ⟨(List.range len).map fun i => if h : i < len then (hall i h).choose else (0, []), ⟨by simp; exact hlen, some a, m, by simp, by simp; exact hl, fun h0 => ?_⟩, ?_⟩
    · have h0' : 0 < len := by simpa using h0
      obtain ⟨b, off, rfl⟩ : ∃ b off, a = ⟨b, off, none⟩ := by
        obtain ⟨_, this, _⟩ := hall 0 h0'
        rw [show a.add (0 * 2) = a by cases a; rfl] at this
        exact spot this
      refine ⟨b, off, rfl, fun i hil => ?_⟩
      have hil' : i < len := by simpa using hil
      have e : ((List.range len).map fun i => if h : i < len then (hall i h).choose else (0, [])).getD i (0, []) = (hall i hil').choose := by
        simp [hil']
      rw [e]
      have hsp := (hall i hil').choose_spec
      generalize (hall i hil').choose = f at hsp ⊢
      obtain ⟨h1, h2, _⟩ := hsp
      rw [Addr.add_mid] at h1 h2
      refine ⟨by rw [Nat.mul_comm]; exact h1, ?_⟩
      rw [Nat.mul_comm 2 i]
      exact h2
    · intro f hf
      obtain ⟨i, hi, rfl⟩ := List.mem_map.1 hf
      have hi' : i < len := by simpa using hi
      simp only [hi', dite_true]
      exact (hall i hi').choose_spec.2.2
end
theorem wt_of {H : Type} {t : TypeId} {ts : List TypeId} {d : DataW H} {ds : List (DataW H)} (h : (DataW.weightsEach Tryd.prog (t :: ts) (d :: ds)).all (· ≤ reachBytes) = true) : Wt t d := fun n hn => by
  have := List.all_eq_true.1 h _ (DataW.weights_mem_each (j := 0) rfl rfl n hn)
  simpa using this
end Stz
end Go.Proofs.YtgolnfgkoolpoaaDoor

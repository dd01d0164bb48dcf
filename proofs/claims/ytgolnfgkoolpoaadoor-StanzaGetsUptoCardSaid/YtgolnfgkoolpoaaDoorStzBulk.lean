/-
A stanza that came in by value, of small bulk.
-/
import Derived.Test.YtgolnfgkoolpoaaDoorRows
import Derived.Test.YtgolnfgkoolpoaaDoorStzArgs
import Derived.Lib.SmallJoins
namespace Go.Proofs.YtgolnfgkoolpoaaDoor
open Go.RowKit Go.ChangeShapes Go.WideShapes Go.Deep
open Go.Joins (open_agg2)
set_option linter.unusedSimpArgs false
set_option linter.unusedVariables false
namespace Stz
section
variable {H : Type} {enc : TypeId × Value → H} {w : World}
theorem bulk_pos (d : DataW H) : 1 ≤ Rows.uptoBulk d := by
  cases d with
  | lit l => cases l <;> simp [Rows.uptoBulk]
  | _ => simp [Rows.uptoBulk]
theorem bulk_mem : ∀ {l : List (DataW H)} {d : DataW H}, d ∈ l → Rows.uptoBulk d ≤ Rows.uptoBulkAll l
  | d0 :: r, d, hd => by
    simp only [Rows.uptoBulkAll]
    rcases List.mem_cons.1 hd with rfl | h
    · omega
    · have := bulk_mem h; omega
theorem bulk_len : ∀ l : List (DataW H), l.length ≤ Rows.uptoBulkAll l
  | [] => Nat.zero_le _
  | d :: r => by
    simp only [Rows.uptoBulkAll, List.length_cons]
    have := bulk_len r
    have := bulk_pos d
    omega
/-- Of small bulk. -/
def Bk (d : DataW H) : Prop := Rows.uptoBulk d ≤ 1048576
theorem Bk.elem {elems spare : List (DataW H)} (h : Bk (.slice elems spare)) {d : DataW H} (hd : d ∈ elems) : Bk d := by
  unfold Bk at *
  simp only [Rows.uptoBulk] at h
  have := bulk_mem hd
  omega
theorem Bk.row {elems spare : List (DataW H)} (h : Bk (.slice elems spare)) : elems.length ≤ 1048576 := by
  unfold Bk at h
  simp only [Rows.uptoBulk] at h
  have := bulk_len elems
  omega
theorem Bk.part0 {d0 d1 : DataW H} (h : Bk (.agg [d0, d1])) : Bk d0 := by
  unfold Bk at *
  simp only [Rows.uptoBulk, Rows.uptoBulkAll] at h
  omega
theorem Bk.part1 {d0 d1 : DataW H} (h : Bk (.agg [d0, d1])) : Bk d1 := by
  unfold Bk at *
  simp only [Rows.uptoBulk, Rows.uptoBulkAll] at h
  omega
theorem texts_b {n : Nat} {v : Value} {d : DataW H} {ps : List MemPlace} (h : DataW.trod enc Tryd.prog w 0 (fun _ => true) true n 40 [v] = some (d, ps)) (hw : Bk d) :
    ∃ ls : List Bs, Txt.Texts w v (ls.map S) ∧ ls.length ≤ 1048576 ∧ ∀ x ∈ ls, x.length ≤ 1048576 := by
  rcases open_strings Tryd.underlying40 Tryd.underlying9 (by kernel_rfl) h with ⟨hcs, _⟩ | ⟨a, len, cap, ss, hcs, _, hl, hm, hss, hx, hcell, _⟩
  · obtain rfl : v = .slice none 0 0 := by simpa using hcs
    exact ⟨[], ⟨by simp, none, 0, rfl, Nat.le_refl _, fun h => absurd h (by simp)⟩, by simp, by simp⟩
  · obtain rfl : v = .slice (some a) len cap := by simpa using hcs
    simp only [Prod.mk.injEq] at hx
    obtain ⟨rfl, _⟩ := hx
    simp only [if_true] at hss
    have hrow := hw.row
    have hlen : (ss.take len).length = len := by rw [List.length_take]; omega
    unfold strs at hrow
    rw [List.length_map, hlen] at hrow
    have hmap : (((ss.take len).map fun t : ByteArray => t.data.toList)).map S = ss.take len := by
      rw [List.map_map]
      conv => rhs; rw [← List.map_id (ss.take len)]
      refine List.map_congr_left fun t _ => S_self t
    refine ⟨(ss.take len).map fun t : ByteArray => t.data.toList, ?_, by rw [List.length_map, hlen]; exact hrow, ?_⟩
    · rw [hmap]
      refine ⟨by rw [hlen]; omega, some a, cap, by rw [hlen], by rw [hlen]; exact hl, fun h0 => ?_⟩
      rw [hlen] at h0
      obtain ⟨b, off, rfl⟩ : ∃ b off, a = ⟨b, off, none⟩ := by
        have := hcell 0 (by omega)
        rw [show a.add 0 = a by cases a; rfl] at this
        exact spot this
      refine ⟨b, off, rfl, fun i hi => ?_⟩
      rw [hlen] at hi
      have := hcell i (by omega)
      rw [Addr.add_mid] at this
      rw [this]
      simp [List.getD, hi]
    · intro x hx
      obtain ⟨t, ht, rfl⟩ := List.mem_map.1 hx
      have h1 : Bk (.lit (.string t.data.toList) : DataW H) := hw.elem (List.mem_map.2 ⟨t, ht, rfl⟩)
      unfold Bk at h1
      simp only [Rows.uptoBulk] at h1
      omega
theorem string_b {n : Nat} {v : Value} {d : DataW H} {ps : List MemPlace} (h : DataW.trod enc Tryd.prog w 0 (fun _ => true) true n 9 [v] = some (d, ps)) (hw : Bk d) :
    ∃ x : Bs, v = .string (S x) ∧ x.length ≤ 1048576 := by
  obtain ⟨s', hv, hx, _⟩ := DataW.trod_string Tryd.underlying9 h
  obtain rfl : v = .string s' := by simpa using hv
  simp only [Prod.mk.injEq] at hx
  obtain ⟨rfl, _⟩ := hx
  refine ⟨s'.data.toList, by rw [S_self], ?_⟩
  unfold Bk at hw
  simp only [Rows.uptoBulk] at hw
  omega
/-- A field of small bulk. -/
def Fb (f : Fld) : Prop := f.1.length ≤ 1048576 ∧ f.2.length ≤ 1048576 ∧ ∀ x ∈ f.2, x.length ≤ 1048576
theorem flds_b {n : Nat} {v : Value} {d : DataW H} {ps : List MemPlace} (h : DataW.trod enc Tryd.prog w 0 (fun _ => true) true n 35 [v] = some (d, ps)) (hw : Bk d) :
    ∃ fs : List Fld, Flds w v fs ∧ ∀ f ∈ fs, Fb f := by
  rcases open_slice_pairs Tryd.underlying35 Tryd.underlying42 (by kernel_rfl) rfl rfl (by kernel_rfl) (by kernel_rfl) h with ⟨hcs, _⟩ | ⟨a, len, cap, m, n', V0, V1, D0, D1, P0, P1, hcs, _, hl, hm, hmm, hx, hat⟩
  · obtain rfl : v = .slice none 0 0 := by simpa using hcs
    exact ⟨[], Flds.none w, by simp⟩
  · obtain rfl : v = .slice (some a) len cap := by simpa using hcs
    simp only [Prod.mk.injEq] at hx
    obtain ⟨rfl, _⟩ := hx
    simp only [if_true] at hmm
    subst hmm
    have hlen := hw.row
    rw [List.length_map, List.length_range] at hlen
    have hall : ∀ i, i < len → ∃ f : Fld, w.cell? (a.add (i * 2)) = some (.string (S f.1)) ∧ (∃ u, w.cell? (a.add (i * 2 + 1)) = some u ∧ Txt.Texts w u (f.2.map S)) ∧ Fb f := fun i hi => by
      obtain ⟨c0, c1, t0, t1⟩ := hat i (by omega)
      have he : Bk (.agg [D0 i, D1 i]) := hw.elem (List.mem_map.2 ⟨i, by simpa using hi, rfl⟩)
      obtain ⟨x, hx, hxl⟩ := string_b t0 he.part0
      obtain ⟨ls, ht, hll, hls⟩ := texts_b t1 he.part1
      exact ⟨(x, ls), by rw [c0, hx], ⟨_, c1, ht⟩, hxl, hll, hls⟩
    refine ⟨(List.range len).map fun i => if h : i < len then (hall i h).choose else ([], []), ⟨by simp; omega, some a, m, by simp, by simp; exact hl, fun h0 => ?_⟩, ?_⟩
    · have h0' : 0 < len := by simpa using h0
      obtain ⟨b, off, rfl⟩ : ∃ b off, a = ⟨b, off, none⟩ := by
        obtain ⟨_, this, _⟩ := hall 0 h0'
        rw [show a.add (0 * 2) = a by cases a; rfl] at this
        exact spot this
      refine ⟨b, off, rfl, fun i hil => ?_⟩
      have hil' : i < len := by simpa using hil
      have e : ((List.range len).map fun i => if h : i < len then (hall i h).choose else ([], [])).getD i ([], []) = (hall i hil').choose := by
        simp [hil']
      rw [e]
      have hsp := (hall i hil').choose_spec
      generalize (hall i hil').choose = f at hsp ⊢
      obtain ⟨h1, h2, _⟩ := hsp
      rw [Addr.add_mid] at h1 h2
      refine ⟨by rw [Nat.mul_comm]; exact h1, ?_⟩
      rw [Nat.mul_comm 2 i]
      exact h2
    · intro f hf
      obtain ⟨i, hi, rfl⟩ := List.mem_map.1 hf
      have hi' : i < len := by simpa using hi
      simp only [hi', dite_true]
      exact (hall i hi').choose_spec.2.2
set_option maxRecDepth 100000 in
/-- The stanza itself. -/
theorem stz_b {r : Reach} {b0 : Nat} {v : Value} {d : DataW H} {p : List MemPlace} (hv : Value.okWide Tryd.prog w r b0 37 v) (h : DataW.Trod enc Tryd.prog w 0 (fun _ => true) true 37 v d p) (hw : Bk d) :
    ∃ (line : Int) (fv : Value) (fs : List Fld), v = .agg #[.int .i64 line, fv] ∧ Flds w fv fs ∧ ∀ f ∈ fs, Fb f := by
  obtain ⟨v0, v1, y0, y1, n, rfl, rfl, _, h0, h1⟩ := open_agg2 Tryd.underlying37 (by kernel_rfl) (by kernel_rfl) hv h
  obtain ⟨d1, p1⟩ := y1
  obtain ⟨line, rfl⟩ := int_of h0
  obtain ⟨fs, hF, hB⟩ := flds_b h1 hw.part1
  exact ⟨line, v1, fs, rfl, hF, hB⟩
end
end Stz
end Go.Proofs.YtgolnfgkoolpoaaDoor

/-
Fields and stanzas in memory: read alone; and as rows of a call's own while they are read from lines.
-/
import Derived.Test.YtgolnfgkoolpoaaDoorStzTrim
import Derived.Test.YtgolnfgkoolpoaaDoorBlk
import Derived.Test.YtgolnfgkoolpoaaDoorOwn
namespace Go.Proofs.YtgolnfgkoolpoaaDoor
open Go.RowKit
set_option linter.unusedSimpArgs false
set_option linter.unusedVariables false
namespace Stz
/-- A list of bytes as a string. -/
def S (l : Bs) : ByteArray := ⟨l.toArray⟩
theorem S_data (l : Bs) : (S l).data.toList = l := by simp [S]
theorem S_of {t : ByteArray} {l : Bs} (h : t.data.toList = l) : t = S l := by
  subst h
  apply ByteArray.ext
  simp [S]
theorem S_self (t : ByteArray) : S t.data.toList = t := (S_of rfl).symm
theorem S_size (l : Bs) : (S l).size = l.length := by rw [← Txt.len_list, S_data]
theorem S_inj {a c : Bs} (h : S a = S c) : a = c := by rw [← S_data a, h, S_data]
theorem S_map_inj {a c : List Bs} (h : a.map S = c.map S) : a = c := by
  have := congrArg (List.map fun t : ByteArray => t.data.toList) h
  simpa [List.map_map, Function.comp_def, S_data] using this
/-! ### read alone -/
def FldAt (w : World) (k o : Nat) (f : Fld) : Prop := w.cell? ⟨k, o, none⟩ = some (.string (S f.1)) ∧ ∃ u, w.cell? ⟨k, o + 1, none⟩ = some u ∧ Txt.Texts w u (f.2.map S)
/-- A slice that reads as these fields. -/
def Flds (w : World) (v : Value) (fs : List Fld) : Prop :=
  fs.length ≤ 1152921504606846976 ∧ ∃ a cap, v = .slice a fs.length cap ∧ fs.length ≤ cap ∧ (0 < fs.length → ∃ k off, a = some ⟨k, off, none⟩ ∧ ∀ i, i < fs.length → FldAt w k (off + 2 * i) (fs.getD i ([], [])))
def SzAt (w : World) (k o : Nat) (s : Sz) : Prop := w.cell? ⟨k, o, none⟩ = some (.int .i64 s.1) ∧ ∃ u, w.cell? ⟨k, o + 1, none⟩ = some u ∧ Flds w u s.2
/-- A slice that reads as these stanzas. -/
def Stzs (w : World) (v : Value) (l : List Sz) : Prop :=
  l.length ≤ 1152921504606846976 ∧ ∃ a cap, v = .slice a l.length cap ∧ l.length ≤ cap ∧ (0 < l.length → ∃ k off, a = some ⟨k, off, none⟩ ∧ ∀ i, i < l.length → SzAt w k (off + 2 * i) (l.getD i (0, [])))
theorem FldAt.below {w w' : World} {k o : Nat} {f : Fld} (h : FldAt w k o f) (hb : Below w.heap.size w w') : FldAt w' k o f := by
  obtain ⟨h1, u, h2, h3⟩ := h
  exact ⟨by rw [hb.cell (Txt.lt_cell h1)]; exact h1, u, by rw [hb.cell (Txt.lt_cell h2)]; exact h2, h3.below hb⟩
theorem Flds.below {w w' : World} {v : Value} {fs : List Fld} (h : Flds w v fs) (hb : Below w.heap.size w w') : Flds w' v fs := by
  obtain ⟨h0, a, cap, h1, h2, h3⟩ := h
  refine ⟨h0, a, cap, h1, h2, fun hl => ?_⟩
  obtain ⟨k, off, h4, h5⟩ := h3 hl
  exact ⟨k, off, h4, fun i hi => (h5 i hi).below hb⟩
theorem SzAt.below {w w' : World} {k o : Nat} {s : Sz} (h : SzAt w k o s) (hb : Below w.heap.size w w') : SzAt w' k o s := by
  obtain ⟨h1, u, h2, h3⟩ := h
  exact ⟨by rw [hb.cell (Txt.lt_cell h1)]; exact h1, u, by rw [hb.cell (Txt.lt_cell h2)]; exact h2, h3.below hb⟩
theorem Stzs.below {w w' : World} {v : Value} {l : List Sz} (h : Stzs w v l) (hb : Below w.heap.size w w') : Stzs w' v l := by
  obtain ⟨h0, a, cap, h1, h2, h3⟩ := h
  refine ⟨h0, a, cap, h1, h2, fun hl => ?_⟩
  obtain ⟨k, off, h4, h5⟩ := h3 hl
  exact ⟨k, off, h4, fun i hi => (h5 i hi).below hb⟩
theorem Flds.none (w : World) : Flds w (.slice none 0 0) [] := ⟨by simp, _, _, rfl, Nat.le_refl _, fun h => absurd h (by simp)⟩
theorem Stzs.none (w : World) : Stzs w (.slice none 0 0) [] := ⟨by simp, _, _, rfl, Nat.le_refl _, fun h => absurd h (by simp)⟩
/-! ### rows of a call's own -/
section
variable {w w' : World}
theorem own_lt {B : Nat} {e : TypeId} {sz : Nat} {v : Value} {n : Nat} {xs : List Value} (h : w.ownsRow B e sz v n xs) {k : Nat} (hk : v.ownBlock = some k) : B ≤ k ∧ k < w.heap.size := by
  rcases h.2 with ⟨rfl, _⟩ | ⟨g, cap, cur, rfl, hg, hh, _⟩
  · cases hk
  · simp only [Value.ownBlock, Option.some.injEq] at hk
    subst hk
    exact ⟨hg, (Array.getElem?_eq_some_iff.1 hh).1⟩
theorem own_ne {B B' : Nat} {e e' : TypeId} {sz sz' : Nat} {v v' : Value} {n n' : Nat} {xs xs' : List Value} (h : w.ownsRow B e sz v n xs) (h' : w.ownsRow B' e' sz' v' n' xs') (he : e ≠ e') : ∀ k, v.ownBlock = some k → v'.ownBlock ≠ some k := by
  intro k hk hk'
  rcases h.2 with ⟨rfl, _⟩ | ⟨g, cap, cur, rfl, hg, hh, _⟩
  · cases hk
  rcases h'.2 with ⟨rfl, _⟩ | ⟨g', cap', cur', rfl, hg', hh', _⟩
  · cases hk'
  simp only [Value.ownBlock, Option.some.injEq] at hk hk'
  subst hk
  subst hk'
  rw [hh] at hh'
  cases hh'
  exact he rfl
theorem own_mono {B B' : Nat} {e : TypeId} {sz : Nat} {v : Value} {n : Nat} {xs : List Value} (h : w.ownsRow B e sz v n xs) (hB : B' ≤ B) : w.ownsRow B' e sz v n xs := by
  refine ⟨h.1, ?_⟩
  rcases h.2 with h2 | ⟨g, cap, cur, h2, hg, r⟩
  · exact .inl h2
  · exact .inr ⟨g, cap, cur, h2, Nat.le_trans hB hg, r⟩
/-- One cell of a row of one's own is written. -/
theorem own_set {B : Nat} {e : TypeId} {sz : Nat} {g cap n : Nat} {xs : List Value} (h : w.ownsRow B e sz (.slice (some ⟨g, 0, none⟩) n cap) n xs) {i : Nat} (hi : i < xs.length) (u : Value) :
    (w.setCell ⟨g, i, none⟩ u).ownsRow B e sz (.slice (some ⟨g, 0, none⟩) n cap) n (xs.set i u) := by
  obtain ⟨h1, h2⟩ := h
  rcases h2 with ⟨h2, _⟩ | ⟨g', cap', cur, h2, hg, hh, hn, hc, hs, ht⟩
  · cases h2
  · simp only [Value.slice.injEq, Option.some.injEq, Addr.mk.injEq, and_true, true_and] at h2
    obtain ⟨rfl, rfl⟩ := h2
    refine ⟨by simpa using h1, .inr ⟨g, cap, cur.setIfInBounds i u, rfl, hg, ?_, hn, hc, by simpa using hs, ?_⟩⟩
    · exact (Blk.Is.set (w := w) (b := g) (T := e) (cs := cur) hh i u)
    · rw [Array.toList_setIfInBounds, List.take_set, ht]
theorem own_cell {B : Nat} {e : TypeId} {sz : Nat} {g cap n : Nat} {xs : List Value} (h : w.ownsRow B e sz (.slice (some ⟨g, 0, none⟩) n cap) n xs) {i : Nat} {u : Value} (hi : xs[i]? = some u) : w.cell? ⟨g, i, none⟩ = some u := by
  have := h.cells (g := g) rfl i u hi
  have e : (⟨g, 0, none⟩ : Addr).add i = ⟨g, i, none⟩ := by cases i <;> simp [Addr.add]
  rw [e] at this
  exact this
theorem own_free {B : Nat} {e : TypeId} {sz : Nat} {g cap n : Nat} {xs : List Value} (h : w.ownsRow B e sz (.slice (some ⟨g, 0, none⟩) n cap) n xs) (i : Nat) : w.frozen? ⟨g, i, none⟩ = false := by
  obtain ⟨h1, h2⟩ := h
  rcases h2 with ⟨h2, _⟩ | ⟨g', cap', cur, h2, hg, hh, _⟩
  · cases h2
  · simp only [Value.slice.injEq, Option.some.injEq, Addr.mk.injEq, and_true, true_and] at h2
    obtain ⟨rfl, rfl⟩ := h2
    exact (Blk.Is.free (w := w) (b := g) (T := e) (cs := cur) hh i)
theorem own_slice {B : Nat} {e : TypeId} {sz : Nat} {v : Value} {n : Nat} {xs : List Value} (h : w.ownsRow B e sz v n xs) (hn : 0 < n) : ∃ g cap, v = .slice (some ⟨g, 0, none⟩) n cap ∧ n ≤ cap := by
  rcases h.2 with ⟨_, h0⟩ | ⟨g, cap, cur, rfl, _, _, hc, _⟩
  · omega
  · exact ⟨g, cap, rfl, hc⟩
theorem own_shape {B : Nat} {e : TypeId} {sz : Nat} {v : Value} {n : Nat} {xs : List Value} (h : w.ownsRow B e sz v n xs) : ∃ a cap, v = .slice a n cap ∧ n ≤ cap := by
  rcases h.2 with ⟨rfl, rfl⟩ | ⟨g, cap, cur, rfl, _, _, hc, _⟩
  · exact ⟨none, 0, rfl, Nat.le_refl _⟩
  · exact ⟨_, cap, rfl, hc⟩
end
/-- A row of texts of the call's own, in a block ahead of N. -/
def TextsIn (w : World) (B N : Nat) (u : Value) (ls : List Bs) : Prop := w.ownsRow B 9 1 u ls.length ((ls.map S).map Value.string) ∧ ∀ k, u.ownBlock = some k → k < N
/-- Fields' cells: each name, and each row of texts. -/
def FldCells (w : World) (B N : Nat) (fs : List Fld) (ys : List Value) : Prop := ∀ i, i < fs.length → ys[2 * i]? = some (.string (S (fs.getD i ([], [])).1)) ∧ ∃ u, ys[2 * i + 1]? = some u ∧ TextsIn w B N u (fs.getD i ([], [])).2
/-- A row of fields of the call's own, in a block ahead of M, their texts ahead of N. -/
def FldsIn (w : World) (B M N : Nat) (v : Value) (fs : List Fld) : Prop := ∃ ys, w.ownsRow B 42 2 v fs.length ys ∧ (∀ k, v.ownBlock = some k → k < M) ∧ FldCells w B N fs ys
def SzCells (w : World) (B M N : Nat) (l : List Sz) (xs : List Value) : Prop := ∀ i, i < l.length → xs[2 * i]? = some (.int .i64 (l.getD i (0, [])).1) ∧ ∃ v, xs[2 * i + 1]? = some v ∧ FldsIn w B M N v (l.getD i (0, [])).2
/-- The last stanza's last field, while it is open. -/
def LastIn (w : World) (B N : Nat) (o : Nat) (ys : List Value) : Option Fld → Prop
  | none => True
  | some f => ys[o]? = some (.string (S f.1)) ∧ ∃ u, ys[o + 1]? = some u ∧ w.ownsRow (max B N) 9 1 u f.2.length ((f.2.map S).map Value.string)
def cnt {α : Type} : Option α → Nat
  | none => 0
  | some _ => 1
/-- The last stanza, while it is open: its line, its fields ahead of the last one, that one. -/
def OpenIn (w : World) (B M N : Nat) (o : Nat) (xs : List Value) : Option (Int × List Fld × Option Fld) → Prop
  | none => True
  | some (n, fs, last) => xs[o]? = some (.int .i64 n) ∧ ∃ v ys, xs[o + 1]? = some v ∧ w.ownsRow (max B M) 42 2 v (fs.length + cnt last) ys ∧ FldCells w B N fs ys ∧ LastIn w B N (2 * fs.length) ys last
/-- Stanzas while they are read: those that are ended, and the one that is not. -/
def Mem (w : World) (B : Nat) (sv : Value) (done : List Sz) (cur : Option (Int × List Fld × Option Fld)) : Prop :=
  ∃ M N xs, B ≤ w.heap.size ∧ M ≤ w.heap.size ∧ N ≤ w.heap.size ∧ w.ownsRow B 37 2 sv (done.length + cnt cur) xs ∧ SzCells w B M N done xs ∧ OpenIn w B M N (2 * done.length) xs cur
theorem mem_start (w : World) (B : Nat) (hB : B ≤ w.heap.size) : Mem w B (.slice none 0 0) [] none :=
  ⟨0, 0, [], hB, by omega, by omega, World.ownsRow_nil w B _ 2, fun i hi => absurd hi (by simp), trivial⟩
/-! ### what a change leaves -/
theorem TextsIn.chg {S' : Nat → Prop} {w w' : World} {B N : Nat} {u : Value} {ls : List Bs} (h : TextsIn w B N u ls) (hc : Blk.Chg S' w w') (hn : ∀ k, u.ownBlock = some k → ¬ S' k) : TextsIn w' B N u ls := ⟨hc.owns h.1 hn, h.2⟩
theorem TextsIn.mono {w : World} {B N N' : Nat} {u : Value} {ls : List Bs} (h : TextsIn w B N u ls) (hN : N ≤ N') : TextsIn w B N' u ls := ⟨h.1, fun k hk => Nat.lt_of_lt_of_le (h.2 k hk) hN⟩
theorem FldCells.mono {w : World} {B N N' : Nat} {fs : List Fld} {ys : List Value} (h : FldCells w B N fs ys) (hN : N ≤ N') : FldCells w B N' fs ys := fun i hi => by
  obtain ⟨h1, u, h2, h3⟩ := h i hi
  exact ⟨h1, u, h2, h3.mono hN⟩
theorem FldsIn.mono {w : World} {B M N M' N' : Nat} {v : Value} {fs : List Fld} (h : FldsIn w B M N v fs) (hM : M ≤ M') (hN : N ≤ N') : FldsIn w B M' N' v fs := by
  obtain ⟨ys, h1, h2, h3⟩ := h
  exact ⟨ys, h1, fun k hk => Nat.lt_of_lt_of_le (h2 k hk) hM, h3.mono hN⟩
theorem SzCells.mono {w : World} {B M N M' N' : Nat} {l : List Sz} {xs : List Value} (h : SzCells w B M N l xs) (hM : M ≤ M') (hN : N ≤ N') : SzCells w B M' N' l xs := fun i hi => by
  obtain ⟨h1, v, h2, h3⟩ := h i hi
  exact ⟨h1, v, h2, h3.mono hM hN⟩
/-- A change that leaves rows of texts ahead of N. -/
theorem FldCells.chg {S' : Nat → Prop} {w w' : World} {B N : Nat} {fs : List Fld} {ys : List Value} (h : FldCells w B N fs ys) (hc : Blk.Chg S' w w') (hn : ∀ u n zs, w.ownsRow B 9 1 u n zs → ∀ k, u.ownBlock = some k → k < N → ¬ S' k) : FldCells w' B N fs ys := fun i hi => by
  obtain ⟨h1, u, h2, h3⟩ := h i hi
  exact ⟨h1, u, h2, h3.chg hc fun k hk => hn u _ _ h3.1 k hk (h3.2 k hk)⟩
theorem FldsIn.chg {S' : Nat → Prop} {w w' : World} {B M N : Nat} {v : Value} {fs : List Fld} (h : FldsIn w B M N v fs) (hc : Blk.Chg S' w w') (hn : ∀ u n zs, w.ownsRow B 9 1 u n zs → ∀ k, u.ownBlock = some k → k < N → ¬ S' k)
    (hm : ∀ u n zs, w.ownsRow B 42 2 u n zs → ∀ k, u.ownBlock = some k → k < M → ¬ S' k) : FldsIn w' B M N v fs := by
  obtain ⟨ys, h1, h2, h3⟩ := h
  exact ⟨ys, hc.owns h1 fun k hk => hm v _ _ h1 k hk (h2 k hk), h2, h3.chg hc hn⟩
theorem SzCells.chg {S' : Nat → Prop} {w w' : World} {B M N : Nat} {l : List Sz} {xs : List Value} (h : SzCells w B M N l xs) (hc : Blk.Chg S' w w') (hn : ∀ u n zs, w.ownsRow B 9 1 u n zs → ∀ k, u.ownBlock = some k → k < N → ¬ S' k)
    (hm : ∀ u n zs, w.ownsRow B 42 2 u n zs → ∀ k, u.ownBlock = some k → k < M → ¬ S' k) : SzCells w' B M N l xs := fun i hi => by
  obtain ⟨h1, v, h2, h3⟩ := h i hi
  exact ⟨h1, v, h2, h3.chg hc hn hm⟩
/-- A change of blocks that are none of these rows. -/
theorem Mem.chg {S' : Nat → Prop} {w w' : World} {B : Nat} {sv : Value} {done : List Sz} {cur : Option (Int × List Fld × Option Fld)} (h : Mem w B sv done cur) (hc : Blk.Chg S' w w')
    (hn : ∀ e, e = 9 ∨ e = 42 ∨ e = 37 → ∀ C sz u n zs, w.ownsRow C e sz u n zs → B ≤ C → ∀ k, u.ownBlock = some k → ¬ S' k) : Mem w' B sv done cur := by
  obtain ⟨M, N, xs, h0, h1, h2, h3, h4, h5⟩ := h
  have hs := hc.size
  refine ⟨M, N, xs, by omega, by omega, by omega, hc.owns h3 (hn _ (.inr (.inr rfl)) _ _ _ _ _ h3 (Nat.le_refl _)), h4.chg hc (fun u n zs hu k hk _ => hn _ (.inl rfl) _ _ _ _ _ hu (Nat.le_refl _) k hk) (fun u n zs hu k hk _ => hn _ (.inr (.inl rfl)) _ _ _ _ _ hu (Nat.le_refl _) k hk), ?_⟩
  cases cur with
  | none => trivial
  | some p =>
    obtain ⟨n, fs, last⟩ := p
    obtain ⟨k1, v, ys, k2, k3, k4, k5⟩ := h5
    refine ⟨k1, v, ys, k2, hc.owns k3 (hn _ (.inr (.inl rfl)) _ _ _ _ _ k3 (Nat.le_max_left _ _)), k4.chg hc (fun u n zs hu k hk _ => hn _ (.inl rfl) _ _ _ _ _ hu (Nat.le_refl _) k hk), ?_⟩
    cases last with
    | none => trivial
    | some f =>
      obtain ⟨j1, u, j2, j3⟩ := k5
      exact ⟨j1, u, j2, hc.owns j3 (hn _ (.inl rfl) _ _ _ _ _ j3 (Nat.le_max_left _ _))⟩
theorem Mem.below {w w' : World} {B : Nat} {sv : Value} {done : List Sz} {cur : Option (Int × List Fld × Option Fld)} (h : Mem w B sv done cur) (hb : Below w.heap.size w w') : Mem w' B sv done cur :=
  h.chg (S' := fun k => w.heap.size ≤ k) (Blk.Chg.ofBelow hb fun k _ hk => hk) fun e _ C sz u n zs hu _ k hk => by
    have := own_lt hu hk
    omega
end Stz
end Go.Proofs.YtgolnfgkoolpoaaDoor

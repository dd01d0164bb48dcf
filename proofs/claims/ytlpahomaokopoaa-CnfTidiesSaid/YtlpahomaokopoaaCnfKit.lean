/-
Literals, clauses and sets of them in memory.
-/
import Derived.Test.YtlpahomaokopoaaProg
import Derived.Test.YtlpahomaokopoaaBlk
import Derived.Test.YtlpahomaokopoaaOwn
import Derived.Test.YtlpahomaokopoaaCnfDef
import Derived.IntWalk
import Derived.OpenShut
import Derived.Handy
import Derived.Shelf.Abstract
import Derived.Lib.Hide
import Derived.Deep.LoopGhost
import Derived.Deep.MidRow
import Derived.OrdersHeld
import Derived.BigQuiet
import Derived.Deep.RegionHeld3
import Derived.Deep.QuietTactic
import Derived.StillTailTactics
import Derived.Laws.MakeOwn
import Derived.Deep.RegionWith
import Derived.RegionTactic
namespace Go.Proofs.Ytlpahomaokopoaa
open Go.RowKit
set_option linter.unusedSimpArgs false
set_option linter.unusedVariables false
namespace Cn
section
variable {w w' : World}
theorem lt_cell {p : Addr} {v : Value} (h : w.cell? p = some v) : p.block < w.heap.size := Nat.lt_of_not_le fun hge => by
  unfold World.cell? at h
  simp only [Array.getElem?_eq_none hge] at h
  cases h
theorem cell_on {p : Addr} {v : Value} (h : w.cell? p = some v) (hb : Below w.heap.size w w') : w'.cell? p = some v := by rw [hb.cell (lt_cell h)]; exact h
theorem is_on {b : Nat} {T : TypeId} {cs : Array Value} (h : Blk.Is w b T cs) (hb : Below w.heap.size w w') : Blk.Is w' b T cs := (Blk.Chg.ofBelow' (S := fun _ => False) hb).is h (by simp)
/-! ### rows of one's own -/
theorem own_lt {B : Nat} {e : TypeId} {sz : Nat} {v : Value} {n : Nat} {xs : List Value} (h : w.ownsRow B e sz v n xs) {k : Nat} (hk : v.ownBlock = some k) : B ≤ k ∧ k < w.heap.size := by
  rcases h.2 with ⟨rfl, _⟩ | ⟨g, cap, cur, rfl, hg, hh, _⟩
  · cases hk
  · simp only [Value.ownBlock, Option.some.injEq] at hk
    subst hk
    exact ⟨hg, (Array.getElem?_eq_some_iff.1 hh).1⟩
theorem own_is {B : Nat} {e : TypeId} {sz : Nat} {v : Value} {n : Nat} {xs : List Value} (h : w.ownsRow B e sz v n xs) {k : Nat} (hk : v.ownBlock = some k) : ∃ cs, Blk.Is w k e cs := by
  rcases h.2 with ⟨rfl, _⟩ | ⟨g, cap, cur, rfl, hg, hh, _⟩
  · cases hk
  · simp only [Value.ownBlock, Option.some.injEq] at hk
    subst hk
    exact ⟨cur, hh⟩
theorem own_mono {B B' : Nat} {e : TypeId} {sz : Nat} {v : Value} {n : Nat} {xs : List Value} (h : w.ownsRow B e sz v n xs) (hB : B' ≤ B) : w.ownsRow B' e sz v n xs := by
  refine ⟨h.1, ?_⟩
  rcases h.2 with h2 | ⟨g, cap, cur, h2, hg, r⟩
  · exact .inl h2
  · exact .inr ⟨g, cap, cur, h2, Nat.le_trans hB hg, r⟩
/-- One cell of a row of one's own is written. -/
theorem own_set {B : Nat} {e : TypeId} {sz : Nat} {g cap n : Nat} {xs : List Value} (h : w.ownsRow B e sz (.slice (some ⟨g, 0, none⟩) n cap) n xs) {i : Nat} (hi : i < xs.length) (u : Value) :
    (w.setCell ⟨g, i, none⟩ u).ownsRow B e sz (.slice (some ⟨g, 0, none⟩) n cap) n (xs.set i u) := by
  obtain ⟨h1, h2⟩ := h
  rcases h2 with ⟨h2, _⟩ | ⟨g', cap', cur, h2, hg, hh, hn, hc, hs, ht⟩
  · cases h2
  · simp only [Value.slice.injEq, Option.some.injEq, Addr.mk.injEq, and_true, true_and] at h2
    obtain ⟨rfl, rfl⟩ := h2
    refine ⟨by simpa using h1, .inr ⟨g, cap, cur.setIfInBounds i u, rfl, hg, ?_, hn, hc, by simpa using hs, ?_⟩⟩
    · exact (Blk.Is.set (w := w) (b := g) (T := e) (cs := cur) hh i u)
    · rw [Array.toList_setIfInBounds, List.take_set, ht]
theorem own_cell {B : Nat} {e : TypeId} {sz : Nat} {g cap n : Nat} {xs : List Value} (h : w.ownsRow B e sz (.slice (some ⟨g, 0, none⟩) n cap) n xs) {i : Nat} {u : Value} (hi : xs[i]? = some u) : w.cell? ⟨g, i, none⟩ = some u := by
  have := h.cells (g := g) rfl i u hi
  have e : (⟨g, 0, none⟩ : Addr).add i = ⟨g, i, none⟩ := by cases i <;> simp [Addr.add]
  rw [e] at this
  exact this
theorem own_free {B : Nat} {e : TypeId} {sz : Nat} {g cap n : Nat} {xs : List Value} (h : w.ownsRow B e sz (.slice (some ⟨g, 0, none⟩) n cap) n xs) (i : Nat) : w.frozen? ⟨g, i, none⟩ = false := by
  obtain ⟨h1, h2⟩ := h
  rcases h2 with ⟨h2, _⟩ | ⟨g', cap', cur, h2, hg, hh, _⟩
  · cases h2
  · simp only [Value.slice.injEq, Option.some.injEq, Addr.mk.injEq, and_true, true_and] at h2
    obtain ⟨rfl, rfl⟩ := h2
    exact (Blk.Is.free (w := w) (b := g) (T := e) (cs := cur) hh i)
theorem own_slice {B : Nat} {e : TypeId} {sz : Nat} {v : Value} {n : Nat} {xs : List Value} (h : w.ownsRow B e sz v n xs) (hn : 0 < n) : ∃ g cap, v = .slice (some ⟨g, 0, none⟩) n cap ∧ n ≤ cap := by
  rcases h.2 with ⟨_, h0⟩ | ⟨g, cap, cur, rfl, _, _, hc, _⟩
  · omega
  · exact ⟨g, cap, rfl, hc⟩
theorem own_shape {B : Nat} {e : TypeId} {sz : Nat} {v : Value} {n : Nat} {xs : List Value} (h : w.ownsRow B e sz v n xs) : ∃ a cap, v = .slice a n cap ∧ n ≤ cap ∧ cap ≤ maxLen ∧ (a = none → cap = 0) := by
  rcases h.2 with ⟨rfl, rfl⟩ | ⟨g, cap, cur, rfl, _, _, hc, hm, _⟩
  · exact ⟨none, 0, rfl, Nat.le_refl _, Nat.zero_le _, fun _ => rfl⟩
  · exact ⟨_, cap, rfl, hc, hm, by simp⟩
end
/-! ### literals -/
def lcells (l : List Int) : List Value := l.map (Value.int .i64)
@[simp] theorem lcells_length (l : List Int) : (lcells l).length = l.length := by simp [lcells]
theorem lcells_one (l : List Int) : ∀ u ∈ lcells l, u.oneCell' = true := fun u hu => by
  obtain ⟨x, _, rfl⟩ := List.mem_map.1 hu; rfl
theorem lcells_get {l : List Int} {i : Nat} {x : Int} (h : l[i]? = some x) : (lcells l)[i]? = some (.int .i64 x) := by simp [lcells, h]
theorem lcells_of {l : List Int} {i : Nat} {u : Value} (h : (lcells l)[i]? = some u) : ∃ x, l[i]? = some x ∧ u = .int .i64 x := by
  unfold lcells at h
  rw [List.getElem?_map, Option.map_eq_some_iff] at h
  obtain ⟨x, h1, rfl⟩ := h
  exact ⟨x, h1, rfl⟩
/-- A slice of literals that is read. -/
def LitV (w : World) (v : Value) (l : List Int) : Prop := Lz l ∧ ∃ a cap, v = .slice a l.length cap ∧ l.length ≤ cap ∧ cap ≤ 9223372036854775807 ∧ (a = none → cap = 0) ∧
  (0 < l.length → ∃ b off, a = some ⟨b, off, none⟩ ∧ ∀ i x, l[i]? = some x → w.cell? ⟨b, off + i, none⟩ = some (.int .i64 x))
theorem LitV.below {w w' : World} {v : Value} {l : List Int} (h : LitV w v l) (hb : Below w.heap.size w w') : LitV w' v l := by
  obtain ⟨h0, a, cap, h1, h2, h3, h4, h5⟩ := h
  refine ⟨h0, a, cap, h1, h2, h3, h4, fun hl => ?_⟩
  obtain ⟨b, off, e, hc⟩ := h5 hl
  exact ⟨b, off, e, fun i x hx => cell_on (hc i x hx) hb⟩
theorem LitV.nil (w : World) : LitV w (.slice none 0 0) [] := ⟨fun x hx => by simp at hx, none, 0, rfl, Nat.le_refl _, by omega, fun _ => rfl, fun h => absurd h (by simp)⟩
theorem LitV.shape {w : World} {v : Value} {l : List Int} (h : LitV w v l) : ∃ a cap, v = .slice a l.length cap := by
  obtain ⟨_, a, cap, h1, _⟩ := h
  exact ⟨a, cap, h1⟩
theorem LitV.len {w : World} {v : Value} {l : List Int} (h : LitV w v l) : l.length ≤ 9223372036854775807 := by
  obtain ⟨_, a, cap, _, h2, h3, _⟩ := h
  omega
/-- A row of literals of one's own. -/
def Lt (w : World) (B : Nat) (v : Value) (l : List Int) : Prop := Lz l ∧ w.ownsRow B 45 1 v l.length (lcells l)
theorem Lt.lit {w : World} {B : Nat} {v : Value} {l : List Int} (h : Lt w B v l) : LitV w v l := by
  obtain ⟨a, cap, rfl, h1, h2, h3⟩ := own_shape h.2
  unfold maxLen at h2
  refine ⟨h.1, a, cap, rfl, h1, by omega, h3, fun hl => ?_⟩
  obtain ⟨g, c, e, _⟩ := own_slice h.2 hl
  simp only [Value.slice.injEq, true_and] at e
  obtain ⟨rfl, rfl⟩ := e
  exact ⟨g, 0, rfl, fun i x hx => by rw [Nat.zero_add]; exact own_cell h.2 (lcells_get hx)⟩
theorem Lt.chg {w w' : World} {S : Nat → Prop} {B : Nat} {v : Value} {l : List Int} (h : Lt w B v l) (hb : Blk.Chg S w w') (hn : ∀ k, v.ownBlock = some k → ¬ S k) : Lt w' B v l := ⟨h.1, hb.owns h.2 hn⟩
theorem Lt.below {w w' : World} {B : Nat} {v : Value} {l : List Int} (h : Lt w B v l) (hb : Below w.heap.size w w') : Lt w' B v l := h.chg (S := fun _ => False) (Blk.Chg.ofBelow' hb) (by simp)
theorem Lt.mono {w : World} {B B' : Nat} {v : Value} {l : List Int} (h : Lt w B v l) (hB : B' ≤ B) : Lt w B' v l := ⟨h.1, own_mono h.2 hB⟩
theorem Lt.nil (w : World) (B : Nat) : Lt w B (.slice none 0 0) [] := ⟨fun x hx => by simp at hx, World.ownsRow_nil _ _ _ _⟩
theorem Lt.is {w : World} {B : Nat} {v : Value} {l : List Int} (h : Lt w B v l) {k : Nat} (hk : v.ownBlock = some k) : ∃ cs, Blk.Is w k 45 cs := own_is h.2 hk
/-- A model that is read. -/
def BoolV (w : World) (v : Value) (m : List Bool) : Prop := ∃ a cap, v = .slice a m.length cap ∧ m.length ≤ cap ∧ cap ≤ 9223372036854775807 ∧
  (0 < m.length → ∃ b off, a = some ⟨b, off, none⟩ ∧ ∀ i x, m[i]? = some x → w.cell? ⟨b, off + i, none⟩ = some (.bool x))
theorem BoolV.below {w w' : World} {v : Value} {l : List Bool} (h : BoolV w v l) (hb : Below w.heap.size w w') : BoolV w' v l := by
  obtain ⟨a, cap, h1, h2, h3, h5⟩ := h
  refine ⟨a, cap, h1, h2, h3, fun hl => ?_⟩
  obtain ⟨b, off, e, hc⟩ := h5 hl
  exact ⟨b, off, e, fun i x hx => cell_on (hc i x hx) hb⟩
theorem BoolV.nil (w : World) : BoolV w (.slice none 0 0) [] := ⟨none, 0, rfl, Nat.le_refl _, by omega, fun h => absurd h (by simp)⟩
theorem BoolV.shape {w : World} {v : Value} {l : List Bool} (h : BoolV w v l) : ∃ a cap, v = .slice a l.length cap := by
  obtain ⟨a, cap, h1, _⟩ := h
  exact ⟨a, cap, h1⟩
/-! ### clauses -/
/-- A row of one's own of rows of one's own. -/
def Rows2 (w : World) (B : Nat) (v : Value) (L : List (List Int)) : Prop := ∃ hs : List Value, w.ownsRow B 22 1 v L.length hs ∧ ∀ i h, hs[i]? = some h → Lt w B h (L.getD i [])
theorem Rows2.chg {w w' : World} {S : Nat → Prop} {B : Nat} {v : Value} {L : List (List Int)} (h : Rows2 w B v L) (hb : Blk.Chg S w w') (hn : ∀ k, v.ownBlock = some k → ¬ S k) (hl : ∀ k cs, Blk.Is w k 45 cs → ¬ S k) : Rows2 w' B v L := by
  obtain ⟨hs, h1, h2⟩ := h
  refine ⟨hs, hb.owns h1 hn, fun i x hx => ?_⟩
  have := h2 i x hx
  exact this.chg hb fun k hk => by obtain ⟨cs, hc⟩ := this.is hk; exact hl k cs hc
theorem Rows2.below {w w' : World} {B : Nat} {v : Value} {L : List (List Int)} (h : Rows2 w B v L) (hb : Below w.heap.size w w') : Rows2 w' B v L := h.chg (S := fun _ => False) (Blk.Chg.ofBelow' hb) (by simp) (by simp)
theorem Rows2.mono {w : World} {B B' : Nat} {v : Value} {L : List (List Int)} (h : Rows2 w B v L) (hB : B' ≤ B) : Rows2 w B' v L := by
  obtain ⟨hs, h1, h2⟩ := h
  exact ⟨hs, own_mono h1 hB, fun i x hx => (h2 i x hx).mono hB⟩
theorem Rows2.nil (w : World) (B : Nat) : Rows2 w B (.slice none 0 0) [] := ⟨[], World.ownsRow_nil _ _ _ _, fun i h hx => by simp at hx⟩
theorem Rows2.is {w : World} {B : Nat} {v : Value} {L : List (List Int)} (h : Rows2 w B v L) {k : Nat} (hk : v.ownBlock = some k) : B ≤ k ∧ k < w.heap.size ∧ ∃ cs, Blk.Is w k 22 cs := by
  obtain ⟨hs, h1, _⟩ := h
  exact ⟨(own_lt h1 hk).1, (own_lt h1 hk).2, own_is h1 hk⟩
theorem Rows2.shape {w : World} {B : Nat} {v : Value} {L : List (List Int)} (h : Rows2 w B v L) : ∃ a cap, v = .slice a L.length cap ∧ L.length ≤ cap ∧ cap ≤ maxLen := by
  obtain ⟨hs, h1, _⟩ := h
  obtain ⟨a, cap, e, h2, h3, _⟩ := own_shape h1
  exact ⟨a, cap, e, h2, h3⟩
/-- The clause at a place. -/
theorem Rows2.at {w : World} {B : Nat} {v : Value} {L : List (List Int)} (h : Rows2 w B v L) {i : Nat} {c : List Int} (hi : L[i]? = some c) : ∃ g cap u, v = .slice (some ⟨g, 0, none⟩) L.length cap ∧ w.cell? ⟨g, i, none⟩ = some u ∧ Lt w B u c := by
  obtain ⟨hs, h1, h2⟩ := h
  have hlt : i < L.length := (List.getElem?_eq_some_iff.1 hi).1
  obtain ⟨g, cap, rfl, _⟩ := own_slice h1 (by omega)
  have hl : hs.length = L.length := by rw [h1.1, Nat.mul_one]
  obtain ⟨u, hu⟩ : ∃ u, hs[i]? = some u := ⟨hs[i]'(by omega), List.getElem?_eq_getElem _⟩
  have := h2 i u hu
  rw [show L.getD i [] = c by rw [List.getD_eq_getElem?_getD, hi]; rfl] at this
  exact ⟨g, cap, u, rfl, own_cell h1 hu, this⟩
/-- Each clause is short. -/
def Small (L : List (List Int)) : Prop := ∀ c ∈ L, c.length ≤ 1000
theorem small_adds {n : Nat} {L : List (List Int)} {c : List Int} (h : Small L) (hc : c.length ≤ 1000) : Small (adds n L c) := by
  unfold adds addL
  split
  · split
    · exact h
    · intro d hd
      rcases List.mem_append.1 hd with hd | hd
      · exact h d hd
      · have : d = tid c := by simpa using hd
        subst this
        exact Nat.le_trans tid_len hc
  · exact h
/-- A set: where its block is, what its row of clauses is, its variables, its clauses. T: its type. -/
structure SetP (T : TypeId) (w : World) (B p : Nat) (v : Value) (n : Nat) (L : List (List Int)) : Prop where
  is : Blk.Is w p T #[.int .i64 n, v]
  low : B ≤ p
  rows : Rows2 w B v L
  vars : n ≤ 200
  len : L.length ≤ 5000
  okay : Okay n L
  small : Small L
abbrev CSet := SetP 55
abbrev QSet := SetP 36
theorem SetP.chg {T : TypeId} {w w' : World} {S : Nat → Prop} {B p : Nat} {v : Value} {n : Nat} {L : List (List Int)} (h : SetP T w B p v n L) (hb : Blk.Chg S w w') (hp : ¬ S p) (hn : ∀ k, v.ownBlock = some k → ¬ S k) (hl : ∀ k cs, Blk.Is w k 45 cs → ¬ S k) : SetP T w' B p v n L :=
  ⟨hb.is h.is hp, h.low, h.rows.chg hb hn hl, h.vars, h.len, h.okay, h.small⟩
theorem SetP.below {T : TypeId} {w w' : World} {B p : Nat} {v : Value} {n : Nat} {L : List (List Int)} (h : SetP T w B p v n L) (hb : Below w.heap.size w w') : SetP T w' B p v n L := h.chg (S := fun _ => False) (Blk.Chg.ofBelow' hb) (by simp) (by simp) (by simp)
theorem SetP.mono {T : TypeId} {w : World} {B B' p : Nat} {v : Value} {n : Nat} {L : List (List Int)} (h : SetP T w B p v n L) (hB : B' ≤ B) : SetP T w B' p v n L :=
  ⟨h.is, Nat.le_trans hB h.low, h.rows.mono hB, h.vars, h.len, h.okay, h.small⟩
/-- What a call on the set at p with the row v may change. -/
def Mine (p : Nat) (v : Value) (k : Nat) : Prop := k = p ∨ v.ownBlock = some k
/-- No row of literals is among it. -/
theorem SetP.mineLit {T : TypeId} (hT : T ≠ 45) {w : World} {B p : Nat} {v : Value} {n : Nat} {L : List (List Int)} (h : SetP T w B p v n L) : ∀ k cs, Blk.Is w k 45 cs → ¬ Mine p v k := by
  rintro k cs hk (rfl | hv)
  · exact (h.is.ne hk hT) rfl
  · obtain ⟨_, _, ds, hd⟩ := h.rows.is hv
    exact (hd.ne hk (by decide)) rfl
theorem SetP.mineLow {T : TypeId} {w : World} {B p : Nat} {v : Value} {n : Nat} {L : List (List Int)} (h : SetP T w B p v n L) : ∀ k, Mine p v k → B ≤ k := by
  rintro k (rfl | hv)
  · exact h.low
  · exact (h.rows.is hv).1
theorem SetP.mineLt {T : TypeId} {w : World} {B p : Nat} {v : Value} {n : Nat} {L : List (List Int)} (h : SetP T w B p v n L) : ∀ k, Mine p v k → k < w.heap.size := by
  rintro k (rfl | hv)
  · exact h.is.lt
  · exact (h.rows.is hv).2.1
/-- Two rows that are not one. -/
def Apart (v u : Value) : Prop := ∀ k, v.ownBlock = some k → u.ownBlock ≠ some k
/-- Another set stays. -/
theorem SetP.other {T T' : TypeId} (hT' : T' ≠ 45) (hT2 : T ≠ 22) (hT3 : T' ≠ 22) {w w' : World} {B p p' : Nat} {v v' : Value} {n n' : Nat} {L L' : List (List Int)} (h : SetP T w B p v n L) (h' : SetP T' w B p' v' n' L') (hp : p ≠ p') (hv : Apart v v') (hc : Blk.Chg (Mine p' v') w w') : SetP T w' B p v n L := by
  refine h.chg hc ?_ ?_ (h'.mineLit hT')
  · rintro (rfl | h1)
    · exact hp rfl
    · obtain ⟨_, _, ds, hd⟩ := h'.rows.is h1
      exact (h.is.ne hd hT2) rfl
  · rintro k hk (rfl | h1)
    · obtain ⟨_, _, ds, hd⟩ := h.rows.is hk
      exact (h'.is.ne hd hT3) rfl
    · exact hv k hk h1
/-- The row as it is now: the same block, or a new one. -/
def Grow (w : World) (v v' : Value) : Prop := ∀ k, v'.ownBlock = some k → v.ownBlock = some k ∨ w.heap.size ≤ k
theorem Grow.refl (w : World) (v : Value) : Grow w v v := fun _ h => .inl h
theorem Grow.trans {w w' : World} {a b c : Value} (h : Grow w a b) (k : Grow w' b c) (hs : w.heap.size ≤ w'.heap.size) : Grow w a c := fun x hx => by
  rcases k x hx with h1 | h1
  · exact h x h1
  · exact .inr (by omega)
theorem Apart.symm {v u : Value} (h : Apart v u) : Apart u v := fun k hk hv => h k hv hk
theorem Apart.grow {w : World} {v u u' : Value} (h : Apart v u) (g : Grow w u u') (hl : ∀ k, v.ownBlock = some k → k < w.heap.size) : Apart v u' := fun k hk hu => by
  rcases g k hu with h1 | h1
  · exact h k hk h1
  · have := hl k hk; omega
theorem Apart.nil (u : Value) : Apart (.slice none 0 0) u := fun k hk => by simp [Value.ownBlock] at hk
theorem infoLit : (Try.prog.info? 45).map (fun i => (i.zero, i.size, i.bytes)) = some (some (.int .i64 0), 1, 8) := by kernel_rfl
theorem infoLits : (Try.prog.info? 22).map (fun i => (i.zero, i.size, i.bytes)) = some (some (.slice none 0 0), 1, 24) := by kernel_rfl
/-- A slice of literals as what is appended. -/
theorem LitV.src {w : World} {a : Option Addr} {cap N : Nat} {l : List Int} (h : LitV w (.slice a N cap) l) : Src Try.prog 1 22 (.slice a N cap) N (lcells l) w := by
  obtain ⟨h0, a', cap', e, h2, h3, h4, h5⟩ := h
  simp only [Value.slice.injEq] at e
  obtain ⟨rfl, rfl, rfl⟩ := e
  cases a with
  | none =>
    have hc := h4 rfl
    subst hc
    have : l = [] := List.eq_nil_of_length_eq_zero (by omega)
    subst this
    exact Src.ofNil w Try.underlying22 0
  | some x =>
    refine Src.ofSlice w Try.underlying22 x _ cap _ (by simp) (fun j u hj => ?_) (lcells_one l)
    obtain ⟨y, hy, rfl⟩ := lcells_of hj
    have hl : j < l.length := (List.getElem?_eq_some_iff.1 hy).1
    obtain ⟨b, off, ha, hcell⟩ := h5 (by omega)
    cases ha
    rw [Addr.add_mid]
    exact hcell j y hy
end Cn
end Go.Proofs.Ytlpahomaokopoaa

/-
Rows of rows of bytes that a call has made: its own row, whose places lead to rows that came in or that were made.
-/
import Derived.Test.YtjeidfknnophnaaRowsRef
import Derived.Test.YtjeidfknnophnaaWalRef
import Derived.Test.YtjeidfknnophnaaRefOps
namespace Go.Proofs.Ytjeidfknnophnaa
open Go.RowKit
set_option linter.unusedVariables false
namespace Wal

/-- A slice that leads to these bytes, which lie below B or in a block of bytes. -/
def El (w : World) (B : Nat) (x : Value) (r : List Int) : Prop :=
  ∃ ai ci, x = .slice ai r.length ci ∧ Row w ai r.length r ∧ r.length ≤ ci ∧ (ai = none → ci = 0) ∧ (0 < r.length → ∀ y, ai = some y → y.block < B ∨ ∃ cur, Blk.Is w y.block 5 cur)
/-- What may change without a row of bytes, or a row of such, being touched. -/
def Calm (S : Nat → Prop) (w : World) (B : Nat) : Prop := ∀ k, S k → B ≤ k ∧ (∀ cur, ¬ Blk.Is w k 5 cur) ∧ (∀ cur, ¬ Blk.Is w k 25 cur)
theorem calm_none (w : World) (B : Nat) : Calm (fun _ => False) w B := fun k h => h.elim
theorem El.chg {w w' : World} {B : Nat} {x : Value} {r : List Int} {S : Nat → Prop} (h : El w B x r) (hc : Blk.Chg S w w') (hS : Calm S w B) : El w' B x r := by
  obtain ⟨ai, ci, h1, h2, h3, h4, h5⟩ := h
  have hn : 0 < r.length → ∀ y, ai = some y → ¬ S y.block := fun h0 y hy hs => by
    rcases h5 h0 y hy with h | ⟨cur, hcur⟩
    · have := (hS _ hs).1; omega
    · exact (hS _ hs).2.1 cur hcur
  refine ⟨ai, ci, h1, h2.keep hc (fun h0 b off e => hn h0 _ e), h3, h4, fun h0 y hy => ?_⟩
  rcases h5 h0 y hy with h | ⟨cur, hcur⟩
  · exact .inl h
  · exact .inr ⟨cur, hc.is hcur (hn h0 y hy)⟩
theorem El.below {w w' : World} {B : Nat} {x : Value} {r : List Int} (h : El w B x r) (hb : Below w.heap.size w w') : El w' B x r :=
  h.chg (Blk.Chg.ofBelow' hb) (calm_none w B)
theorem El.ofMine {w : World} {B base : Nat} {x : Value} {r : List Int} (h : Mine w base x r) : El w B x r := by
  obtain ⟨a, cap, rfl, hle, hr⟩ := h.row
  refine ⟨a, cap, rfl, hr, hle, ?_, fun h0 y hy => .inr ?_⟩
  · rcases h.1.2 with ⟨h1, _⟩ | ⟨g, cap', cur, h1, _⟩ <;> simp only [Value.slice.injEq] at h1
    · exact fun _ => h1.2.2
    · intro h; rw [h1.1] at h; cases h
  · subst hy
    rcases h.1.2 with ⟨h1, _⟩ | ⟨g, cap', cur, h1, _, h3, _⟩ <;> simp only [Value.slice.injEq] at h1
    · exact absurd h1.1 (by simp)
    · have e := h1.1
      cases e
      exact ⟨cur, h3⟩
theorem El.one {w B x r} (h : El w B x r) : x.oneCell' = true := by obtain ⟨_, _, rfl, _⟩ := h; rfl

/-- The call's own row of rows. -/
def Recs (w : World) (B : Nat) (v : Value) (rs : List (List Int)) : Prop :=
  ∃ vals, w.ownsRow B 25 1 v rs.length vals ∧ ∀ i, i < rs.length → ∃ x, vals[i]? = some x ∧ El w B x (rs.getD i [])
theorem recs_nil (w : World) (B : Nat) : Recs w B (.slice none 0 0) [] := ⟨[], World.ownsRow_nil w B _ 1, fun i hi => absurd hi (by simp)⟩
theorem Recs.shape {w B v rs} (h : Recs w B v rs) : ∃ a cap, v = .slice a rs.length cap ∧ rs.length ≤ cap := by
  obtain ⟨vals, ho, _⟩ := h
  rcases ho.2 with ⟨h1, h2⟩ | ⟨g, cap, cur, h1, _, _, hn, _⟩
  · exact ⟨_, _, by rw [h1, h2], by rw [h2]; exact Nat.le_refl _⟩
  · exact ⟨_, _, h1, hn⟩
theorem Recs.block {w B v rs} (h : Recs w B v rs) {b : Nat} (hb : v.ownBlock = some b) : B ≤ b ∧ b < w.heap.size ∧ ∃ cur, Blk.Is w b 25 cur := by
  obtain ⟨vals, ho, _⟩ := h
  rcases ho.2 with ⟨rfl, _⟩ | ⟨g, cap, cur, rfl, hg, hh, _⟩
  · simp [Value.ownBlock] at hb
  · simp [Value.ownBlock] at hb; subst hb; exact ⟨hg, (show Blk.Is w g _ _ from hh).lt, cur, hh⟩
theorem Recs.chg {w w' : World} {B : Nat} {v : Value} {rs : List (List Int)} {S : Nat → Prop} (h : Recs w B v rs) (hc : Blk.Chg S w w') (hS : Calm S w B) : Recs w' B v rs := by
  have hbl := fun b hb => h.block (b := b) hb
  obtain ⟨vals, ho, hp⟩ := h
  refine ⟨vals, hc.owns ho (fun b hb hs => ?_), fun i hi => ?_⟩
  · obtain ⟨_, _, cur, hcur⟩ := hbl b hb
    exact (hS _ hs).2.2 cur hcur
  · obtain ⟨x, hx, he⟩ := hp i hi
    exact ⟨x, hx, he.chg hc hS⟩
theorem Recs.below {w w' : World} {B : Nat} {v : Value} {rs : List (List Int)} (h : Recs w B v rs) (hb : Below w.heap.size w w') : Recs w' B v rs := h.chg (Blk.Chg.ofBelow' hb) (calm_none w B)
theorem Recs.rows {w B v rs} (h : Recs w B v rs) : Rows w v rs := by
  obtain ⟨vals, ho, hp⟩ := h
  rcases id ho.2 with ⟨h1, h2⟩ | ⟨g, cap, cur, h1, hg, hh, hn, hcap, _⟩
  · have : rs = [] := List.eq_nil_of_length_eq_zero h2
    subst this
    exact ⟨by simp, none, 0, h1, fun h0 => absurd h0 (by simp)⟩
  · refine ⟨by unfold maxLen at hcap; omega, _, cap, h1, fun h0 => ⟨g, 0, rfl, fun i hi => ?_⟩⟩
    obtain ⟨x, hx, ai, ci, rfl, h2, h3, h4, _⟩ := hp i hi
    refine ⟨ai, ci, ?_, h2, h3, h4⟩
    subst h1
    rw [Nat.zero_add, ho.cellAt i (by omega)]; exact hx
theorem recs_below {B : Nat} {w u u' : World} {v : Value} {rs : List (List Int)} (h : Below B w u) (hr : Recs u B v rs) (hs : B ≤ u.heap.size) (hg : u.grownBy u' v.ownBlock) : Below B w u' :=
  h.grown hg hs fun k e => (hr.block e).1
theorem recs_calm {B : Nat} {u : World} {v : Value} {rs : List (List Int)} (hr : Recs u B v rs) : ∀ k, v.ownBlock = some k → B ≤ k ∧ (∀ cur, ¬ Blk.Is u k 5 cur) := fun k e => by
  obtain ⟨h1, _, cur, hc⟩ := hr.block e
  exact ⟨h1, fun cur' h => (Blk.Is.ne h hc (by decide)) rfl⟩
/-- A row of bytes stays where a row of rows grows. -/
theorem El.grown {u u' : World} {B : Nat} {v x : Value} {rs : List (List Int)} {r : List Int} (h : El u B x r) (hr : Recs u B v rs) (hg : u.grownBy u' v.ownBlock) : El u' B x r := by
  obtain ⟨ai, ci, h1, h2, h3, h4, h5⟩ := h
  have hc := (Blk.Chg.refl (fun b => v.ownBlock = some b) u).grown hg (fun k e _ => e)
  have hn : 0 < r.length → ∀ y, ai = some y → ¬ (v.ownBlock = some y.block) := fun h0 y hy e => by
    have hk := recs_calm hr _ e
    rcases h5 h0 y hy with h | ⟨cur, hcur⟩
    · omega
    · exact hk.2 cur hcur
  refine ⟨ai, ci, h1, h2.keep hc (fun h0 b off e => hn h0 _ e), h3, h4, fun h0 y hy => ?_⟩
  rcases h5 h0 y hy with h | ⟨cur, hcur⟩
  · exact .inl h
  · exact .inr ⟨cur, hc.is hcur (hn h0 y hy)⟩
theorem Recs.pushed {u u' : World} {B : Nat} {v v' x : Value} {rs : List (List Int)} {r : List Int} (h : Recs u B v rs) (he : El u B x r) (vals : List Value) (hv : ∀ i, i < rs.length → ∃ x, vals[i]? = some x ∧ El u B x (rs.getD i [])) (hl : vals.length = rs.length)
    (h1 : u'.ownsRow B 25 1 v' (rs.length + 1) (vals ++ [x])) (hg : u.grownBy u' v.ownBlock) : Recs u' B v' (rs ++ [r]) := by
  refine ⟨vals ++ [x], by simpa using h1, fun i hi => ?_⟩
  by_cases e : i < rs.length
  · obtain ⟨y, hy, hm⟩ := hv i e
    refine ⟨y, by rw [List.getElem?_append_left (by omega)]; exact hy, ?_⟩
    have : (rs ++ [r]).getD i [] = rs.getD i [] := by
      simp only [List.getD_eq_getElem?_getD]
      rw [List.getElem?_append_left e]
    rw [this]; exact hm.grown h hg
  · have hi' : i = rs.length := by simp at hi; omega
    subst hi'
    refine ⟨x, by rw [List.getElem?_append_right (by omega), hl, Nat.sub_self]; rfl, ?_⟩
    have : (rs ++ [r]).getD rs.length [] = r := by simp
    rw [this]; exact he.grown h hg
/-- append(rows, row): the row lies in a block of one. -/
theorem append_rec {w : World} {ops : Array Oper} {rest : List Oper} {o : Oper} {a : Act} {Q : Exit → Act → World → Prop} (hgd : o.guard = none) (s x : Operand)
    (ho : o.op = .call { callee := .builtin .append, args := #[s, x], argTypes := #[26, 26] })
    (B : Nat) (v : Value) (rs : List (List Int)) (hv : a.eval s = v) (ht : Recs w B v rs) (y : Addr) (c : Nat) (hx : a.eval x = .slice (some y) 1 c) (xv : Value) (r : List Int) (hcell : w.cell? (y.add 0) = some xv) (hm : El w B xv r)
    (hn : rs.length + 1 ≤ 1000000000) (hB : B ≤ w.heap.size)
    (h : ∀ v' w', Recs w' B v' (rs ++ [r]) → w.grownBy w' v.ownBlock → wpList Try.prog ops Q rest (a.put o.dst v') w') : wpList Try.prog ops Q (o :: rest) a w := by
  obtain ⟨i0, hi, hz0, hz1, hz2⟩ := info_parts Ref.infoBytes
  obtain ⟨vals, ho2, hp⟩ := id ht
  have hl : vals.length = rs.length := by rw [ho2.1, Nat.mul_one]
  have hsrc : Src Try.prog 1 26 (.slice (some y) 1 c) 1 [xv] w := by
    refine Src.ofSlice w Try.underlying26 y 1 c [xv] rfl (fun j u hj => ?_) (fun u hu => by rw [List.mem_singleton.1 hu]; exact hm.one)
    have : j = 0 := by have := (List.getElem?_eq_some_iff.1 hj).1; simp at this; omega
    subst this
    simp at hj
    rw [← hj]; exact hcell
  refine Own.wpList_append_src hgd s x 26 26 ho B 25 i0 _ 1 24 Try.underlying26 hi hz0 hz1 hz2 rfl v rs.length _ hv ho2 _ 1 [xv] hx hsrc (by simp only [maxLen]; omega) (by omega) hB fun v' w' h1 h2 => ?_
  exact h v' w' (ht.pushed hm vals hp hl h1 h2) h2
/-- append(rows, row), which also says where the new row lies. -/
theorem append_rec2 {w : World} {ops : Array Oper} {rest : List Oper} {o : Oper} {a : Act} {Q : Exit → Act → World → Prop} (hgd : o.guard = none) (s x : Operand)
    (ho : o.op = .call { callee := .builtin .append, args := #[s, x], argTypes := #[26, 26] })
    (B : Nat) (v : Value) (rs : List (List Int)) (hv : a.eval s = v) (ht : Recs w B v rs) (y : Addr) (c : Nat) (hx : a.eval x = .slice (some y) 1 c) (xv : Value) (r : List Int) (hcell : w.cell? (y.add 0) = some xv) (hm : El w B xv r)
    (hn : rs.length + 1 ≤ 1000000000) (hB : B ≤ w.heap.size)
    (h : ∀ v' w', Recs w' B v' (rs ++ [r]) → w.grownBy w' v.ownBlock → (∀ k, v'.ownBlock = some k → v.ownBlock = some k ∨ w.heap.size ≤ k) → wpList Try.prog ops Q rest (a.put o.dst v') w') : wpList Try.prog ops Q (o :: rest) a w := by
  obtain ⟨i0, hi, hz0, hz1, hz2⟩ := info_parts Ref.infoBytes
  obtain ⟨vals, ho2, hp⟩ := id ht
  have hl : vals.length = rs.length := by rw [ho2.1, Nat.mul_one]
  have hsrc : Src Try.prog 1 26 (.slice (some y) 1 c) 1 [xv] w := by
    refine Src.ofSlice w Try.underlying26 y 1 c [xv] rfl (fun j u hj => ?_) (fun u hu => by rw [List.mem_singleton.1 hu]; exact hm.one)
    have : j = 0 := by have := (List.getElem?_eq_some_iff.1 hj).1; simp at this; omega
    subst this
    simp at hj
    rw [← hj]; exact hcell
  refine wpList_plain hgd fun _ hK => ?_
  exact Own.wp_append_src s x 26 26 ho B 25 i0 _ 1 24 Try.underlying26 hi hz0 hz1 hz2 rfl v rs.length _ hv ho2 _ 1 [xv] hx hsrc (by simp only [maxLen]; omega) (by omega) hB fun v' w' h1 h2 h3 => hK _ _ (h v' w' (ht.pushed hm vals hp hl h1 h2) h2 h3)
/-- Rows that lie in blocks of bytes, in a row of its own from B on. -/
theorem recs_up {w : World} {v : Value} {rs : List (List Int)} (h : Recs w 0 v rs) {B : Nat} (hb : ∀ k, v.ownBlock = some k → B ≤ k) : Recs w B v rs := by
  obtain ⟨vals, ho, hp⟩ := h
  refine ⟨vals, ⟨ho.1, ?_⟩, fun i hi => ?_⟩
  · rcases ho.2 with h2 | ⟨g, cap, cur, rfl, hg, r⟩
    · exact .inl h2
    · exact .inr ⟨g, cap, cur, rfl, hb g rfl, r⟩
  · obtain ⟨x, hx, ai, ci, h1, h2, h3, h4, h5⟩ := hp i hi
    exact ⟨x, hx, ai, ci, h1, h2, h3, h4, fun hl y hy => .inr ((h5 hl y hy).resolve_left (by omega))⟩
end Wal
end Go.Proofs.Ytjeidfknnophnaa

/-
Two disks and their copies: what a row of rows copied anew is, and that each pair goes on by itself.
-/
import Derived.Test.YthjilmeaaghpaaaDiskScript
import Derived.Test.YthjilmeaaghpaaaRefNew
namespace Go.Proofs.Ythjilmeaaghpaaa
open Go.RowKit
set_option linter.unusedVariables false
namespace Ref
open Disk (Sec Secs St)

/-- append(nil, rows...), as one step of a region that draws its order. -/
theorem step_append_tbl {w : World} {ops : Array Oper} {o : Oper} {a : Act} {K : Act → World → Prop} {Q : Exit → Act → World → Prop} {E : Prop} (hgd : o.guard = none) (x : Operand)
    (ho : o.op = .call { callee := .builtin .append, args := #[.const (.slice none 0 0), x], argTypes := #[32, 32] })
    (B : Nat) (v : Value) (n : Nat) (l : List (List Int)) (hv : a.eval x = v) (ht : Tbl w B v n l) (hn : 0 < n) (hB : B ≤ w.heap.size)
    (h : ∀ a' c' w', Tbl w' B (.slice a' n c') n l → (∀ b, (Value.slice a' n c').ownBlock = some b → w.heap.size ≤ b) → Below w.heap.size w w' → K (a.put o.dst (.slice a' n c')) w') :
    if Region.wanted o (yielded ops a.tmps) = true then Oper.wp Try.prog o a w K Q else E := by
  have hw : Region.wanted o (yielded ops a.tmps) = true := by simp [Region.wanted, hgd]
  rw [if_pos hw]
  obtain ⟨i0, hi, hz0, hz1, hz2⟩ := info_parts infoBytes
  obtain ⟨vals, ho2, hp⟩ := ht.lies
  have hl : vals.length = n := by rw [ho2.1, Nat.mul_one]
  have hfew := ht.few
  obtain ⟨g, cap, _, _, rfl, _⟩ := ht.place 0 hn
  have hsrc : Src Try.prog 1 32 (.slice (some ⟨g, 0, none⟩) n cap) n vals w := by
    refine Src.ofSlice w Try.underlying32 ⟨g, 0, none⟩ n cap vals (by omega) (fun j u hj => ?_) (fun u hu => ?_)
    · have hjn : j < n := by have := (List.getElem?_eq_some_iff.1 hj).1; omega
      rw [Addr.add_mid, Nat.zero_add, ho2.cellAt j (by omega)]
      exact hj
    · obtain ⟨j, hj, e⟩ := List.getElem_of_mem hu
      obtain ⟨y, hy, hm⟩ := hp j (by omega)
      rw [List.getElem?_eq_getElem hj, e] at hy
      cases hy
      exact mine_one hm
  refine Own.wp_append_src (.const (.slice none 0 0)) x 32 32 ho B 28 i0 _ 1 24 Try.underlying32 hi hz0 hz1 hz2 rfl (.slice none 0 0) 0 [] rfl (World.ownsRow_nil w B _ 1) _ n vals hv hsrc (by simp only [maxLen]; omega) (by omega) hB fun v' w' h1 h2 h3 => ?_
  have hb : Below w.heap.size w w' := (Below.refl w.heap.size w).grown h2 (Nat.le_refl _) (fun k e => by cases e)
  rw [Nat.zero_add, List.nil_append] at h1
  have ht' : Tbl w' B v' n l := ⟨ht.secs, ht.few, vals, h1, fun i hi => by
    obtain ⟨y, hy, hm⟩ := hp i hi
    exact ⟨y, hy, hm.below hb⟩⟩
  obtain ⟨a', c', e, _⟩ := ht'.shape
  subst e
  exact h a' c' w' ht' (fun b e => (h3 b e).resolve_left (by intro k; cases k)) hb

/-- The reference's disk made anew of copied rows. -/
theorem At.boxed {u : World} {m : Rk} {s : St} (h : At u m s) {v1 v2 : Value} (t1 : Tbl u m.B v1 m.n s.now) (t2 : Tbl u m.B v2 m.n s.sure) (hap : ∀ b, v1.ownBlock = some b → v2.ownBlock = some b → False) :
    At (u.alloc (.cells #[v1, v2, .int .i64 s.calls, .int .i64 s.fuse, .bool s.off] 34)) ⟨m.B, u.heap.size, v1, v2, m.n⟩ s :=
  ⟨Blk.Is.new u _ _, t1.below ((Below.refl _ _).alloc (Nat.le_refl _) _), t2.below ((Below.refl _ _).alloc (Nat.le_refl _) _), by have := h.base; have := h.obj.lt; show m.B ≤ u.heap.size; omega, hap, h.fuse0, h.fuse1⟩
end Ref
namespace Pair
open Disk (Sec Secs St hasB Dk)
open Ref (Rk)

theorem At.lt {B w dk m sd sr} (h : At B w dk m sd sr) {b : Nat} (hb : Has dk m b) : b < w.heap.size := by
  obtain ⟨c1, n1, _⟩ := h.d.now.lies
  obtain ⟨c2, n2, _⟩ := h.d.sure.lies
  rcases hb with (rfl | rfl | rfl) | (rfl | hb | hb)
  · exact h.d.obj.lt
  · exact n1.lt
  · exact n2.lt
  · exact h.r.obj.lt
  · obtain ⟨_, c, k⟩ := Ref.tbl_block h.r.now hb; exact k.lt
  · obtain ⟨_, c, k⟩ := Ref.tbl_block h.r.sure hb; exact k.lt
theorem At.noBytes {B w dk m sd sr} (h : At B w dk m sd sr) : ∀ b cur, Blk.Is w b 5 cur → ¬ Has dk m b := fun b cur hc k =>
  k.elim (h.d.notBytes hc) (h.r.bytes b cur hc)
theorem At.far {B w w' dk m sd sr} {S : Nat → Prop} (h : At B w dk m sd sr) (hc : Blk.Chg S w w') (hn : ∀ b, Has dk m b → ¬ S b) (hu : ∀ b cur, Blk.Is w b 5 cur → ¬ S b) : At B w' dk m sd sr :=
  ⟨h.d.chg hc (fun k hk => hn k (.inl hk)), h.r.chg hc (fun k hk => hn k (.inr hk)) hu, h.like, h.df, h.rf⟩

/-- Two pairs; the second lies above the place S, the first below. -/
structure Two (B S : Nat) (u : World) (dk : Dk) (m : Rk) (dk2 : Dk) (m2 : Rk) (c : Nat) : Prop where
  p : ∃ sd sr, At B u dk m sd sr ∧ sd.calls ≤ c
  q : ∃ sd sr, At B u dk2 m2 sd sr ∧ sd.calls ≤ c
  lo : ∀ b, Has dk m b → b < S
  hi : ∀ b, Has dk2 m2 b → S ≤ b
  bs : B ≤ S
theorem Two.below {B S u u' dk m dk2 m2 c} (h : Two B S u dk m dk2 m2 c) (hb : Below u.heap.size u u') : Two B S u' dk m dk2 m2 c := by
  obtain ⟨⟨sd, sr, h1, h2⟩, ⟨sd2, sr2, h3, h4⟩, h5, h6, h7⟩ := h
  exact ⟨⟨sd, sr, h1.below hb, h2⟩, ⟨sd2, sr2, h3.below hb, h4⟩, h5, h6, h7⟩
theorem Two.first {B S u u' dk m dk2 m2 c} (h : Two B S u dk m dk2 m2 c) {sd sr} (h1 : At B u' dk m sd sr) (h2 : sd.calls ≤ c + 1) (hc : Blk.Chg (Has dk m) u u') : Two B S u' dk m dk2 m2 (c + 1) := by
  obtain ⟨⟨sd0, sr0, k1, k2⟩, ⟨sd2, sr2, h3, h4⟩, h5, h6, h7⟩ := h
  refine ⟨⟨sd, sr, h1, h2⟩, ⟨sd2, sr2, h3.far hc (fun b hb k => ?_) k1.noBytes, by omega⟩, h5, h6, h7⟩
  have := h5 b k
  have := h6 b hb
  omega
theorem Two.second {B S u u' dk m dk2 m2 c} (h : Two B S u dk m dk2 m2 c) {sd sr} (h1 : At B u' dk2 m2 sd sr) (h2 : sd.calls ≤ c + 1) (hc : Blk.Chg (Has dk2 m2) u u') : Two B S u' dk m dk2 m2 (c + 1) := by
  obtain ⟨⟨sd0, sr0, k1, k2⟩, ⟨sd2, sr2, h3, h4⟩, h5, h6, h7⟩ := h
  refine ⟨⟨sd0, sr0, k1.far hc (fun b hb k => ?_) h3.noBytes, by omega⟩, ⟨sd, sr, h1, h2⟩, h5, h6, h7⟩
  have := h5 b hb
  have := h6 b k
  omega
theorem chg_below {B : Nat} {u u' : World} {dk : Dk} {m : Rk} {sd sr : St} (h : At B u dk m sd sr) (hb : B ≤ u.heap.size) (hc : Blk.Chg (Has dk m) u u') : Below B u u' := hc.below (fun k hk => h.hasBase hk) hb

/-- The cells of an element of a script. -/
theorem elem {w u : World} {cl : Nat → Cl} {b off t len : Nat} (hu : Below w.heap.size w u)
    (hof : ∀ i, i < len → Ok w.heap.size w (cl i) ∧ b < w.heap.size ∧ ∀ j x, (cl i).cells[j]? = some x → w.cell? ⟨b, off + i * 5 + j, none⟩ = some x) (ht : t < len) :
    Ok w.heap.size u (cl t) ∧ u.cell? ⟨b, off + t * 5, none⟩ = some (.int .i64 (cl t).d) ∧ u.cell? ⟨b, off + t * 5 + 1, none⟩ = some (.int .i64 (cl t).i) ∧ u.cell? ⟨b, off + t * 5 + 2, none⟩ = some (.int .u8 (cl t).b) ∧
      u.cell? ⟨b, off + t * 5 + 3, none⟩ = some (.bool (cl t).sh) ∧ u.cell? ⟨b, off + t * 5 + 4, none⟩ = some (.slice (cl t).pa (cl t).pl (cl t).pc) := by
  obtain ⟨hok, hlt, hc⟩ := hof t ht
  refine ⟨hok.below hu, ?_, ?_, ?_, ?_, ?_⟩
  · rw [hu.cell (by exact hlt)]; exact hc 0 _ rfl
  · rw [hu.cell (by exact hlt)]; exact hc 1 _ rfl
  · rw [hu.cell (by exact hlt)]; exact hc 2 _ rfl
  · rw [hu.cell (by exact hlt)]; exact hc 3 _ rfl
  · rw [hu.cell (by exact hlt)]; exact hc 4 _ rfl
end Pair
end Go.Proofs.Ythjilmeaaghpaaa

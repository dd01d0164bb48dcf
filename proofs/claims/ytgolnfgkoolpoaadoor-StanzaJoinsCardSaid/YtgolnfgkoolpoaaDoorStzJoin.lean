/-
Stanzas that lie somewhere, appended onto a row of the call's own; two prints with an empty line between.
-/
import Derived.Test.YtgolnfgkoolpoaaDoorStzSized
import Derived.Test.YtgolnfgkoolpoaaDoorStzPrint
import Derived.Test.YtgolnfgkoolpoaaDoorStzAppend
namespace Go.Proofs.YtgolnfgkoolpoaaDoor
open Go.RowKit
set_option linter.unusedSimpArgs false
set_option linter.unusedVariables false
namespace Stz
/-- The cells of stanzas. -/
def SzCs (w : World) (l : List Sz) (xs : List Value) : Prop := xs.length = l.length * 2 ∧ ∀ i, i < l.length → xs[2 * i]? = some (.int .i64 (l.getD i (0, [])).1) ∧ ∃ u, xs[2 * i + 1]? = some u ∧ Flds w u (l.getD i (0, [])).2
theorem SzCs.nil (w : World) : SzCs w [] [] := ⟨rfl, fun i hi => absurd hi (by simp)⟩
theorem SzCs.below {w w' : World} {l : List Sz} {xs : List Value} (h : SzCs w l xs) (hb : Below w.heap.size w w') : SzCs w' l xs := ⟨h.1, fun i hi => by
  obtain ⟨h1, u, h2, h3⟩ := h.2 i hi
  exact ⟨h1, u, h2, h3.below hb⟩⟩
theorem SzCs.app {w : World} {l m : List Sz} {xs ys : List Value} (h : SzCs w l xs) (k : SzCs w m ys) : SzCs w (l ++ m) (xs ++ ys) := by
  refine ⟨by rw [List.length_append, h.1, k.1, List.length_append, Nat.add_mul], fun i hi => ?_⟩
  have hx := h.1
  rw [List.length_append] at hi
  by_cases hl : i < l.length
  · obtain ⟨h1, u, h2, h3⟩ := h.2 i hl
    have e : (l ++ m).getD i (0, []) = l.getD i (0, []) := by simp [List.getD, List.getElem?_append_left hl]
    rw [e, List.getElem?_append_left (by omega), List.getElem?_append_left (by omega)]
    exact ⟨h1, u, h2, h3⟩
  · obtain ⟨h1, u, h2, h3⟩ := k.2 (i - l.length) (by omega)
    have e : (l ++ m).getD i (0, []) = m.getD (i - l.length) (0, []) := by simp [List.getD, List.getElem?_append_right (show l.length ≤ i by omega)]
    rw [e, List.getElem?_append_right (by omega), List.getElem?_append_right (by omega), show 2 * i - xs.length = 2 * (i - l.length) by omega, show 2 * i + 1 - xs.length = 2 * (i - l.length) + 1 by omega]
    exact ⟨h1, u, h2, h3⟩
theorem flds_slice {w : World} {u : Value} {fs : List Fld} (h : Flds w u fs) : ∃ a n c, u = .slice a n c := by
  obtain ⟨_, a, c, h, _⟩ := h
  exact ⟨_, _, _, h⟩
/-- Stanzas as the source of an append. -/
theorem szs_src {w : World} {v : Value} {l : List Sz} (h : Stzs w v l) : ∃ xs, SzCs w l xs ∧ ∀ w', Below w.heap.size w w' → Src Tryd.prog 2 23 v l.length xs w' := by
  obtain ⟨h0, a, cap, rfl, hc, hr⟩ := id h
  by_cases hl : 0 < l.length
  · obtain ⟨k, off, rfl, hat⟩ := hr hl
    have hg : ∀ j, j < l.length * 2 → (((List.range (l.length * 2)).map fun j => (w.cell? ⟨k, off + j, none⟩).getD (.bool false))[j]?) = some ((w.cell? ⟨k, off + j, none⟩).getD (.bool false)) := fun j hj => by
      rw [List.getElem?_map, List.getElem?_range hj]; rfl
    have hcs : SzCs w l ((List.range (l.length * 2)).map fun j => (w.cell? ⟨k, off + j, none⟩).getD (.bool false)) := by
      refine ⟨by simp, fun i hi => ?_⟩
      obtain ⟨x0, u, x1, x2⟩ := hat i hi
      refine ⟨?_, u, ?_, x2⟩
      · rw [hg _ (by omega), x0]; rfl
      · rw [hg _ (by omega), show off + (2 * i + 1) = off + 2 * i + 1 by omega, x1]; rfl
    refine ⟨_, hcs, fun w' hb => Src.ofSlice w' Tryd.underlying23 ⟨k, off, none⟩ l.length cap _ (by simp) (fun j u hj => ?_) fun u hu => ?_⟩
    · have hjl := (List.getElem?_eq_some_iff.1 hj).1
      simp only [List.length_map, List.length_range] at hjl
      rw [hg j hjl] at hj
      have hs : ∃ q, w.cell? ⟨k, off + j, none⟩ = some q := by
        obtain ⟨x0, u, x1, x2⟩ := hat (j / 2) (by omega)
        rcases (by omega : j = 2 * (j / 2) ∨ j = 2 * (j / 2) + 1) with e | e
        · rw [e]; exact ⟨_, x0⟩
        · rw [e]; exact ⟨_, x1⟩
      obtain ⟨q, hq⟩ := hs
      rw [hq] at hj
      simp only [Option.getD_some, Option.some.injEq] at hj
      subst hj
      rw [Addr.add_mid, hb.cell (Txt.lt_cell hq)]
      exact hq
    · obtain ⟨j, hj⟩ := List.getElem?_of_mem hu
      have hjl := (List.getElem?_eq_some_iff.1 hj).1
      simp only [List.length_map, List.length_range] at hjl
      obtain ⟨x0, u', x1, x2⟩ := hcs.2 (j / 2) (by omega)
      rcases (by omega : j = 2 * (j / 2) ∨ j = 2 * (j / 2) + 1) with e | e
      · rw [e, x0] at hj
        cases hj; rfl
      · rw [e, x1] at hj
        cases hj
        obtain ⟨_, _, _, rfl⟩ := flds_slice x2
        rfl
  · have : l = [] := List.eq_nil_of_length_eq_zero (by omega)
    subst this
    refine ⟨[], SzCs.nil w, fun w' _ => ?_⟩
    cases a with
    | none => exact Src.ofNil w' Tryd.underlying23 cap
    | some x => exact Src.ofSlice w' Tryd.underlying23 x 0 cap [] rfl (fun j u hj => by simp at hj) (fun u hu => by cases hu)
/-- A row of the call's own reads as its stanzas. -/
theorem szs_own {w : World} {B : Nat} {v : Value} {l : List Sz} {xs : List Value} (h : w.ownsRow B 37 2 v l.length xs) (hc : SzCs w l xs) (hl : l.length ≤ 1152921504606846976) : Stzs w v l := by
  obtain ⟨a, cap, rfl, hcap⟩ := own_shape h
  refine ⟨hl, a, cap, rfl, hcap, fun h0 => ?_⟩
  obtain ⟨g, cap', e, _⟩ := own_slice h h0
  simp only [Value.slice.injEq] at e
  obtain ⟨rfl, _, rfl⟩ := e
  refine ⟨g, 0, rfl, fun i hi => ?_⟩
  obtain ⟨x0, u, x1, x2⟩ := hc.2 i hi
  rw [Nat.zero_add]
  exact ⟨own_cell h x0, u, own_cell h x1, x2⟩
/-- append(l, m...), of stanzas, for the walk. -/
theorem append_szs {w : World} {ops : Array Oper} {rest : List Oper} {o : Oper} {a : Act} {Q : Exit → Act → World → Prop} (hgd : o.guard = none) (s x : Operand)
    (ho : o.op = .call { callee := .builtin .append, args := #[s, x], argTypes := #[23, 23] })
    (B : Nat) (v : Value) (n : Nat) (xs : List Value) (hv : a.eval s = v) (hown : w.ownsRow B 37 2 v n xs) (u : Value) (m : Nat) (ys : List Value) (hx : a.eval x = u) (hs : Src Tryd.prog 2 23 u m ys w)
    (hn : n + m ≤ 70000) (hB : B ≤ w.heap.size)
    (h : ∀ v' w', w'.ownsRow B 37 2 v' (n + m) (xs ++ ys) → w.grownBy w' v.ownBlock → wpList Tryd.prog ops Q rest (a.put o.dst v') w') : wpList Tryd.prog ops Q (o :: rest) a w := by
  obtain ⟨i0, hi, hz0, hz1, hz2⟩ := info_parts infoStanza
  have hmul : (n + m) * 32 ≤ 70000 * 32 := Nat.mul_le_mul_right _ hn
  exact Own.wpList_append_src hgd s x 23 23 ho B 37 i0 _ 2 32 Tryd.underlying23 hi hz0 hz1 hz2 rfl v n xs hv hown u m ys hx hs (by simp only [maxLen]; omega) (by omega) hB h
/-- append(l, m...), of stanzas, where a guard says yes. -/
theorem append_szs_g {w : World} {ops : Array Oper} {rest : List Oper} {o : Oper} {a : Act} {Q : Exit → Act → World → Prop} (hw : Region.wanted o (yielded ops a.tmps) = true) (s x : Operand)
    (ho : o.op = .call { callee := .builtin .append, args := #[s, x], argTypes := #[23, 23] })
    (B : Nat) (v : Value) (n : Nat) (xs : List Value) (hv : a.eval s = v) (hown : w.ownsRow B 37 2 v n xs) (u : Value) (m : Nat) (ys : List Value) (hx : a.eval x = u) (hs : Src Tryd.prog 2 23 u m ys w)
    (hn : n + m ≤ 70000) (hB : B ≤ w.heap.size)
    (h : ∀ v' w', w'.ownsRow B 37 2 v' (n + m) (xs ++ ys) → w.grownBy w' v.ownBlock → wpList Tryd.prog ops Q rest (a.put o.dst v') w') : wpList Tryd.prog ops Q (o :: rest) a w := by
  obtain ⟨i0, hi, hz0, hz1, hz2⟩ := info_parts infoStanza
  have hmul : (n + m) * 32 ≤ 70000 * 32 := Nat.mul_le_mul_right _ hn
  refine BigFrame.wpList_want hw fun K hK => ?_
  exact Own.wp_append_src s x 23 23 ho B 37 i0 _ 2 32 Tryd.underlying23 hi hz0 hz1 hz2 rfl v n xs hv hown u m ys hx hs (by simp only [maxLen]; omega) (by omega) hB fun v' w' h1 h2 _ => hK _ _ (h v' w' h1 h2)
/-- P5.5: two prints with an empty line between. -/
theorem prints_join {a c : List Sz} (ha : listErr a = 0) (hc : listErr c = 0) (hl : a.length + c.length ≤ 200) (hs : (fl (allLines a)).length + (fl (allLines c)).length < 65536) : ∃ m, PR (S (fl (allLines a) ++ 10 :: fl (allLines c))) m 0 0 ∧ Like m (a ++ c) := by
  obtain ⟨m, hp, hk⟩ := parse_joins ha hc hl
  have e : fl (allLines a) ++ 10 :: fl (allLines c) = fl (allLines a ++ [] :: allLines c) := by rw [fl_app]; rfl
  rw [e]
  refine ⟨m, pr_lines (fun x hx => ?_) ?_ hp, hk⟩
  · rcases List.mem_append.1 hx with hx | hx
    · exact all_lines_ok a (list_each ha).2 x hx
    · rcases List.mem_cons.1 hx with rfl | hx
      · exact ⟨good_nil, by simp⟩
      · exact all_lines_ok c (list_each hc).2 x hx
  · rw [fl_app, List.length_append]
    show ¬ 65536 < _ + ((fl (allLines c)).length + 1)
    omega
end Stz
end Go.Proofs.YtgolnfgkoolpoaaDoor

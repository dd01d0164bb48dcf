/-
Clauses that lie somewhere, appended onto a row of the call's own. Not too many: light.
-/
import Derived.Test.YtapmpdljapbpeaaGreatDoorRelLists
import Derived.Test.YtapmpdljapbpeaaGreatDoorRelOwn
import Derived.Deep.AppendSrc
namespace Go.Proofs.YtapmpdljapbpeaaGreatDoor
open Go.RowKit
set_option linter.unusedSimpArgs false
set_option linter.unusedVariables false
namespace Rl
open Ver (Bs li li_len li_drop S S_self S_of S_size S_li below_drewN empty_is empty_no MaxLen Signs)
/-- The cells of clauses. -/
def ClCs (w : World) (l : List (List At)) (xs : List Value) : Prop := xs.length = l.length ∧ ∀ i, i < l.length → ∃ u, xs[i]? = some u ∧ Ats w u (l.getD i [])
theorem ClCs.nil (w : World) : ClCs w [] [] := ⟨rfl, fun i hi => absurd hi (by simp)⟩
theorem ClCs.below {w w' : World} {l : List (List At)} {xs : List Value} (h : ClCs w l xs) (hb : Below w.heap.size w w') : ClCs w' l xs := ⟨h.1, fun i hi => by
  obtain ⟨u, h2, h3⟩ := h.2 i hi
  exact ⟨u, h2, h3.below hb⟩⟩
theorem ClCs.app {w : World} {l m : List (List At)} {xs ys : List Value} (h : ClCs w l xs) (k : ClCs w m ys) : ClCs w (l ++ m) (xs ++ ys) := by
  refine ⟨by rw [List.length_append, h.1, k.1, List.length_append], fun i hi => ?_⟩
  have hx := h.1
  rw [List.length_append] at hi
  by_cases hl : i < l.length
  · obtain ⟨u, h2, h3⟩ := h.2 i hl
    have e : (l ++ m).getD i [] = l.getD i [] := by simp [List.getD, List.getElem?_append_left hl]
    rw [e, List.getElem?_append_left (by omega)]
    exact ⟨u, h2, h3⟩
  · obtain ⟨u, h2, h3⟩ := k.2 (i - l.length) (by omega)
    have e : (l ++ m).getD i [] = m.getD (i - l.length) [] := by simp [List.getD, List.getElem?_append_right (show l.length ≤ i by omega)]
    rw [e, List.getElem?_append_right (by omega), hx]
    exact ⟨u, h2, h3⟩
/-- Clauses as the source of an append. -/
theorem cls_src {w : World} {v : Value} {l : List (List At)} (h : Clss w v l) : ∃ xs, ClCs w l xs ∧ ∀ w', Below w.heap.size w w' → Src Tryz.prog 1 22 v l.length xs w' := by
  obtain ⟨h0, a, cap, rfl, hc, hr⟩ := id h
  by_cases hl : 0 < l.length
  · obtain ⟨k, off, rfl, hat⟩ := hr hl
    have hg : ∀ j, j < l.length → (((List.range l.length).map fun j => (w.cell? ⟨k, off + j, none⟩).getD (.bool false))[j]?) = some ((w.cell? ⟨k, off + j, none⟩).getD (.bool false)) := fun j hj => by
      rw [List.getElem?_map, List.getElem?_range hj]; rfl
    have hcs : ClCs w l ((List.range l.length).map fun j => (w.cell? ⟨k, off + j, none⟩).getD (.bool false)) := by
      refine ⟨by simp, fun i hi => ?_⟩
      obtain ⟨u, x1, x2⟩ := hat i hi
      rw [Nat.one_mul] at x1
      refine ⟨u, ?_, x2⟩
      rw [hg _ hi, x1]; rfl
    refine ⟨_, hcs, fun w' hb => Src.ofSlice w' Tryz.underlying22 ⟨k, off, none⟩ l.length cap _ (by simp) (fun j u hj => ?_) fun u hu => ?_⟩
    · have hjl := (List.getElem?_eq_some_iff.1 hj).1
      simp only [List.length_map, List.length_range] at hjl
      rw [hg j hjl] at hj
      obtain ⟨q, hq, _⟩ := hat j hjl
      rw [Nat.one_mul] at hq
      rw [hq] at hj
      simp only [Option.getD_some, Option.some.injEq] at hj
      subst hj
      rw [Addr.add_mid]
      exact cell_on hq hb
    · obtain ⟨j, hj⟩ := List.getElem?_of_mem hu
      have hjl := (List.getElem?_eq_some_iff.1 hj).1
      simp only [List.length_map, List.length_range] at hjl
      obtain ⟨u', x1, x2⟩ := hcs.2 j hjl
      rw [x1] at hj
      cases hj
      obtain ⟨_, _, rfl⟩ := x2.shape
      rfl
  · have : l = [] := List.eq_nil_of_length_eq_zero (by omega)
    subst this
    refine ⟨[], ClCs.nil w, fun w' _ => ?_⟩
    cases a with
    | none => exact Src.ofNil w' Tryz.underlying22 cap
    | some x => exact Src.ofSlice w' Tryz.underlying22 x 0 cap [] rfl (fun j u hj => by simp at hj) (fun u hu => by cases hu)
/-- A row of the call's own reads as its clauses. -/
theorem cls_own {w : World} {B : Nat} {v : Value} {l : List (List At)} {xs : List Value} (h : w.ownsRow B 67 1 v l.length xs) (hc : ClCs w l xs) (hl : l.length ≤ 1152921504606846976) : Clss w v l := by
  obtain ⟨a, cap, rfl, hcap⟩ := own_shape h
  refine ⟨hl, a, cap, rfl, hcap, fun h0 => ?_⟩
  obtain ⟨g, cap', e, _⟩ := own_slice h h0
  simp only [Value.slice.injEq, true_and] at e
  obtain ⟨rfl, rfl⟩ := e
  refine ⟨g, 0, rfl, fun i hi => ?_⟩
  obtain ⟨u, x1, x2⟩ := hc.2 i hi
  rw [Nat.zero_add, Nat.one_mul]
  exact ⟨u, own_cell h x1, x2⟩
/-- append(l, m...), of clauses, where a guard says yes. -/
theorem append_cls_g {w : World} {ops : Array Oper} {rest : List Oper} {o : Oper} {a : Act} {Q : Exit → Act → World → Prop} (hw : Region.wanted o (yielded ops a.tmps) = true) (s x : Operand)
    (ho : o.op = .call { callee := .builtin .append, args := #[s, x], argTypes := #[22, 22] })
    (B : Nat) (v : Value) (n : Nat) (xs : List Value) (hv : a.eval s = v) (hown : w.ownsRow B 67 1 v n xs) (u : Value) (m : Nat) (ys : List Value) (hx : a.eval x = u) (hs : Src Tryz.prog 1 22 u m ys w)
    (hn : n + m ≤ 70000) (hB : B ≤ w.heap.size)
    (h : ∀ v' w', w'.ownsRow B 67 1 v' (n + m) (xs ++ ys) → w.grownBy w' v.ownBlock → wpList Tryz.prog ops Q rest (a.put o.dst v') w') : wpList Tryz.prog ops Q (o :: rest) a w := by
  obtain ⟨i0, hi, hz0, hz1, hz2⟩ := info_parts infoC
  have hmul : (n + m) * 24 ≤ 70000 * 24 := Nat.mul_le_mul_right _ hn
  refine BigFrame.wpList_want hw fun K hK => ?_
  exact Own.wp_append_src s x 22 22 ho B 67 i0 _ 1 24 Tryz.underlying22 hi hz0 hz1 hz2 rfl v n xs hv hown u m ys hx hs (by simp only [maxLen]; omega) (by omega) hB fun v' w' h1 h2 _ => hK _ _ (h v' w' h1 h2)
end Rl
end Go.Proofs.YtapmpdljapbpeaaGreatDoor
namespace Go.Proofs.YtapmpdljapbpeaaGreatDoor
open Go.RowKit
set_option linter.unusedSimpArgs false
set_option linter.unusedVariables false
namespace Rl
open Ver (Bs li li_len li_drop S S_self S_of S_size S_li below_drewN empty_is empty_no MaxLen Signs)
def lightB (l : List (List At)) : Bool := decide (l.length ≤ 30) && l.all fun c => decide (c.length ≤ 30)
theorem light_many {l : List (List At)} (h : 30 < l.length) : lightB l = false := by
  unfold lightB
  rw [decide_eq_false (by omega)]
  rfl
theorem light_at {l : List (List At)} {i : Nat} (hi : i < l.length) (h : 30 < (l.getD i []).length) : lightB l = false := by
  unfold lightB
  rw [Bool.and_eq_false_iff]
  right
  rw [List.all_eq_false]
  exact ⟨l[i], List.getElem_mem hi, by rw [show l[i] = l.getD i [] by simp [List.getD, List.getElem?_eq_getElem hi]]; simp only [decide_eq_true_eq]; omega⟩
theorem light_yes {l : List (List At)} (hl : l.length ≤ 30) (h : ∀ i, i < l.length → (l.getD i []).length ≤ 30) : lightB l = true := by
  unfold lightB
  rw [decide_eq_true hl, Bool.true_and, List.all_eq_true]
  intro s hs
  obtain ⟨i, hi, rfl⟩ := List.mem_iff_getElem.1 hs
  have := h i hi
  simpa [List.getD, List.getElem?_eq_getElem hi] using this
theorem light_cnt {l : List (List At)} (h : lightB l = true) : l.length ≤ 30 ∧ ∀ c ∈ l, c.length ≤ 30 := by
  simp only [lightB, Bool.and_eq_true, decide_eq_true_eq, List.all_eq_true] at h
  exact h
end Rl
end Go.Proofs.YtapmpdljapbpeaaGreatDoor

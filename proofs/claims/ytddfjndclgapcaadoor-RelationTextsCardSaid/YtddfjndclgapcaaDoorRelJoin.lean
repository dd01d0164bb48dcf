/-
Clauses that lie somewhere, appended onto a row of the call's own. Not too many: light.
-/
import Derived.Test.YtddfjndclgapcaaDoorRelMem
import Derived.Test.YtddfjndclgapcaaDoorRelOwn
import Derived.Deep.AppendSrc
namespace Go.Proofs.YtddfjndclgapcaaDoor
open Go.RowKit
set_option linter.unusedSimpArgs false
set_option linter.unusedVariables false
namespace Rl
open Ver (Bs li li_len li_drop S S_self S_of S_size S_li below_drewN empty_is empty_no MaxLen Signs)
/-- The cells of clauses. -/
def ClCs (w : World) (l : List (List At)) (xs : List Value) : Prop := xs.length = l.length ∧ ∀ i, i < l.length → ∃ u, xs[i]? = some u ∧ Ats w u (l.getD i [])
theorem ClCs.nil (w : World) : ClCs w [] [] := ⟨rfl, fun i hi => absurd hi (by simp)⟩
theorem ClCs.below {w w' : World} {l : List (List At)} {xs : List Value} (h : ClCs w l xs) (hb : Below w.heap.size w w') : ClCs w' l xs := ⟨h.1, fun i hi => by
  obtain ⟨u, h2, h3⟩ := h.2 i hi
  exact ⟨u, h2, h3.below hb⟩⟩
theorem ClCs.app {w : World} {l m : List (List At)} {xs ys : List Value} (h : ClCs w l xs) (k : ClCs w m ys) : ClCs w (l ++ m) (xs ++ ys) := by
  refine ⟨by rw [List.length_append, h.1, k.1, List.length_append], fun i hi => ?_⟩
  have hx := h.1
  rw [List.length_append] at hi
  by_cases hl : i < l.length
  · obtain ⟨u, h2, h3⟩ := h.2 i hl
    have e : (l ++ m).getD i [] = l.getD i [] := by simp [List.getD, List.getElem?_append_left hl]
    rw [e, List.getElem?_append_left (by omega)]
    exact ⟨u, h2, h3⟩
  · obtain ⟨u, h2, h3⟩ := k.2 (i - l.length) (by omega)
    have e : (l ++ m).getD i [] = m.getD (i - l.length) [] := by simp [List.getD, List.getElem?_append_right (show l.length ≤ i by omega)]
    rw [e, List.getElem?_append_right (by omega), hx]
    exact ⟨u, h2, h3⟩
/-- Clauses as the source of an append. -/
theorem cls_src {w : World} {v : Value} {l : List (List At)} (h : Clss w v l) : ∃ xs, ClCs w l xs ∧ ∀ w', Below w.heap.size w w' → Src Tryd.prog 1 22 v l.length xs w' := by
  obtain ⟨h0, a, cap, rfl, hc, hr⟩ := id h
  by_cases hl : 0 < l.length
  · obtain ⟨k, off, rfl, hat⟩ := hr hl
    have hg : ∀ j, j < l.length → (((List.range l.length).map fun j => (w.cell? ⟨k, off + j, none⟩).getD (.bool false))[j]?) = some ((w.cell? ⟨k, off + j, none⟩).getD (.bool false)) := fun j hj => by
      rw [List.getElem?_map, List.getElem?_range hj]; rfl
    have hcs : ClCs w l ((List.range l.length).map fun j => (w.cell? ⟨k, off + j, none⟩).getD (.bool false)) := by
      refine ⟨by simp, fun i hi => ?_⟩
      obtain ⟨u, x1, x2⟩ := hat i hi
      rw [Nat.one_mul] at x1
      refine ⟨u, ?_, x2⟩
      rw [hg _ hi, x1]; rfl
    refine ⟨_, hcs, fun w' hb => Src.ofSlice w' Tryd.underlying22 ⟨k, off, none⟩ l.length cap _ (by simp) (fun j u hj => ?_) fun u hu => ?_⟩
    · have hjl := (List.getElem?_eq_some_iff.1 hj).1
      simp only [List.length_map, List.length_range] at hjl
      rw [hg j hjl] at hj
      obtain ⟨q, hq, _⟩ := hat j hjl
      rw [Nat.one_mul] at hq
      rw [hq] at hj
      simp only [Option.getD_some, Option.some.injEq] at hj
      subst hj
      rw [Addr.add_mid]
      exact cell_on hq hb
    · obtain ⟨j, hj⟩ := List.getElem?_of_mem hu
      have hjl := (List.getElem?_eq_some_iff.1 hj).1
      simp only [List.length_map, List.length_range] at hjl
      obtain ⟨u', x1, x2⟩ := hcs.2 j hjl
      rw [x1] at hj
      cases hj
      obtain ⟨_, _, rfl⟩ := x2.shape
      rfl
  · have : l = [] := List.eq_nil_of_length_eq_zero (by omega)
    subst this
    refine ⟨[], ClCs.nil w, fun w' _ => ?_⟩
    cases a with
    | none => exact Src.ofNil w' Tryd.underlying22 cap
    | some x => exact Src.ofSlice w' Tryd.underlying22 x 0 cap [] rfl (fun j u hj => by simp at hj) (fun u hu => by cases hu)
/-- A row of the call's own reads as its clauses. -/
theorem cls_own {w : World} {B : Nat} {v : Value} {l : List (List At)} {xs : List Value} (h : w.ownsRow B 39 1 v l.length xs) (hc : ClCs w l xs) (hl : l.length ≤ 1152921504606846976) : Clss w v l := by
  obtain ⟨a, cap, rfl, hcap⟩ := own_shape h
  refine ⟨hl, a, cap, rfl, hcap, fun h0 => ?_⟩
  obtain ⟨g, cap', e, _⟩ := own_slice h h0
  simp only [Value.slice.injEq, true_and] at e
  obtain ⟨rfl, rfl⟩ := e
  refine ⟨g, 0, rfl, fun i hi => ?_⟩
  obtain ⟨u, x1, x2⟩ := hc.2 i hi
  rw [Nat.zero_add, Nat.one_mul]
  exact ⟨u, own_cell h x1, x2⟩
/-- append(l, m...), of clauses, where a guard says yes. -/
theorem append_cls_g {w : World} {ops : Array Oper} {rest : List Oper} {o : Oper} {a : Act} {Q : Exit → Act → World → Prop} (hw : Region.wanted o (yielded ops a.tmps) = true) (s x : Operand)
    (ho : o.op = .call { callee := .builtin .append, args := #[s, x], argTypes := #[22, 22] })
    (B : Nat) (v : Value) (n : Nat) (xs : List Value) (hv : a.eval s = v) (hown : w.ownsRow B 39 1 v n xs) (u : Value) (m : Nat) (ys : List Value) (hx : a.eval x = u) (hs : Src Tryd.prog 1 22 u m ys w)
    (hn : n + m ≤ 70000) (hB : B ≤ w.heap.size)
    (h : ∀ v' w', w'.ownsRow B 39 1 v' (n + m) (xs ++ ys) → w.grownBy w' v.ownBlock → wpList Tryd.prog ops Q rest (a.put o.dst v') w') : wpList Tryd.prog ops Q (o :: rest) a w := by
  obtain ⟨i0, hi, hz0, hz1, hz2⟩ := info_parts infoC
  have hmul : (n + m) * 24 ≤ 70000 * 24 := Nat.mul_le_mul_right _ hn
  refine BigFrame.wpList_want hw fun K hK => ?_
  exact Own.wp_append_src s x 22 22 ho B 39 i0 _ 1 24 Tryd.underlying22 hi hz0 hz1 hz2 rfl v n xs hv hown u m ys hx hs (by simp only [maxLen]; omega) (by omega) hB fun v' w' h1 h2 _ => hK _ _ (h v' w' h1 h2)
end Rl
end Go.Proofs.YtddfjndclgapcaaDoor
namespace Go.Proofs.YtddfjndclgapcaaDoor
open Go.RowKit
set_option linter.unusedSimpArgs false
set_option linter.unusedVariables false
namespace Rl
open Ver (Bs li li_len li_drop S S_self S_of S_size S_li below_drewN empty_is empty_no MaxLen Signs)
def lightB (l : List (List At)) : Bool := decide (l.length ≤ 30) && l.all fun c => decide (c.length ≤ 30)
theorem light_many {l : List (List At)} (h : 30 < l.length) : lightB l = false := by
  unfold lightB
  rw [decide_eq_false (by omega)]
  rfl
theorem light_at {l : List (List At)} {i : Nat} (hi : i < l.length) (h : 30 < (l.getD i []).length) : lightB l = false := by
  unfold lightB
  rw [Bool.and_eq_false_iff]
  right
  rw [List.all_eq_false]
  exact ⟨l[i], List.getElem_mem hi, by rw [show l[i] = l.getD i [] by simp [List.getD, List.getElem?_eq_getElem hi]]; simp only [decide_eq_true_eq]; omega⟩
theorem light_yes {l : List (List At)} (hl : l.length ≤ 30) (h : ∀ i, i < l.length → (l.getD i []).length ≤ 30) : lightB l = true := by
  unfold lightB
  rw [decide_eq_true hl, Bool.true_and, List.all_eq_true]
  intro s hs
  obtain ⟨i, hi, rfl⟩ := List.mem_iff_getElem.1 hs
  have := h i hi
  simpa [List.getD, List.getElem?_eq_getElem hi] using this
theorem light_cnt {l : List (List At)} (h : lightB l = true) : l.length ≤ 30 ∧ ∀ c ∈ l, c.length ≤ 30 := by
  simp only [lightB, Bool.and_eq_true, decide_eq_true_eq, List.all_eq_true] at h
  exact h
set_option maxRecDepth 100000 in
set_option maxHeartbeats 4000000 in
theorem light_any (v : Value) (l : List (List At)) (w : World) (h : Clss w v l) :
    Calls Tryd.prog 20 #[v] w fun e w' => e = .returned (.bool (lightB l)) ∧ w' = w := by
  obtain ⟨hmx, a, cap, rfl, hcap, hread⟩ := id h
  have HR := Lib.hid hread
  obtain ⟨N, hN⟩ : ∃ N, l.length = N := ⟨_, rfl⟩
  have HN := Lib.hid hN
  rw [hN] at hcap hmx ⊢
  obtain ⟨G, hG⟩ : ∃ G, lightB l = G := ⟨_, rfl⟩
  have HG := Lib.hid hG
  rw [hG]
  clear hread hN hG h
  go_enter Tryd.func20, Tryd.ntmps20
  go_wp2_with fail
  go_loopw [7] (fun i u => ∃ k : Nat, k ≤ N ∧ k ≤ 30 ∧ i = .int .i64 k ∧ Hid (∀ j, j < k → (l.getD j []).length ≤ 30) ∧ u = w) (fun i _ => N - (intOf i).toNat)
  case atStart => exact ⟨0, by omega, by omega, rfl, Lib.hid (fun j hj => absurd hj (by omega)), rfl⟩
  case round =>
    obtain ⟨k, hk, hk30, rfl, HP, rfl⟩ := hrel
    by_cases hlt : k < N
    · have hkl : k < l.length := by rw [HN.out]; exact hlt
      obtain ⟨g, off, rfl, hat⟩ := HR.out (by omega)
      obtain ⟨u, x0, hc⟩ := hat k hkl
      obtain ⟨_, fa, fc, rfl, hfc, _⟩ := id hc
      have HC := Lib.hid hc
      obtain ⟨F, hF⟩ : ∃ F, (l.getD k []).length = F := ⟨_, rfl⟩
      have hF60 := hc.1
      have HF := Lib.hid hF
      have HKL := Lib.hid hkl
      rw [hF] at x0 hfc hF60
      rw [Nat.one_mul] at x0
      have k0 : (0 : Int) ≤ k := by omega
      have k1 : (k : Int) < N := by omega
      clear hat hc hF hkl
      by_cases h30 : 30 ≤ k
      · have h30' : (30 : Int) ≤ k := by omega
        go_wp2_with fail
        go_ret
        refine ⟨?_, rfl⟩
        rw [← HG.out, light_many (by rw [HN.out]; omega)]
        rfl
      · have h30' : ¬ (30 : Int) ≤ k := by omega
        by_cases h60 : 30 < F
        · have h60' : (30 : Int) < F := by omega
          go_wp2_with fail
          go_ret
          refine ⟨?_, rfl⟩
          rw [← HG.out, light_at HKL.out (by rw [HF.out]; exact h60)]
          rfl
        · have h60' : ¬ (30 : Int) < F := by omega
          go_wp2_with fail
          refine ⟨⟨k + 1, by omega, by omega, by go_num, Lib.hid (fun j hj => ?_), trivial⟩, by simp [intOf]; omega⟩
          by_cases hj' : j < k
          · exact HP.out j hj'
          · obtain rfl : j = k := by omega
            rw [HF.out]
            omega
    · obtain rfl : k = N := by omega
      have k1 : ¬ (k : Int) < k := by omega
      go_wp2_with fail
      go_ret
      refine ⟨?_, rfl⟩
      rw [← HG.out, light_yes (by rw [HN.out]; exact hk30) (fun i hi => HP.out i (by rw [← HN.out]; exact hi))]
      rfl
end Rl
end Go.Proofs.YtddfjndclgapcaaDoor

/-
CnfOne: at most one: the mathematics.
-/
import Derived.Test.YtlpahomaokopoaaCnfLaw6W
namespace Go.Proofs.Ytlpahomaokopoaa
open Go.RowKit
set_option linter.unusedSimpArgs false
set_option linter.unusedVariables false
namespace Cn
/-- Literals of unlike variables. -/
structure OneU (n : Nat) (m : List Bool) (u : List Int) (k : Nat) : Prop where
  mem : ∀ x ∈ u, x ≠ 0 ∧ x.natAbs ≤ n
  apart : u.Pairwise fun a b => a.natAbs ≠ b.natAbs
  count : u.countP (so m) = k
theorem OneU.nil (n : Nat) (m : List Bool) : OneU n m [] 0 := ⟨fun x hx => by simp at hx, List.Pairwise.nil, rfl⟩
theorem OneU.snoc {n : Nat} {m : List Bool} {u : List Int} {k : Nat} {x : Int} (h : OneU n m u k) (h0 : x ≠ 0) (hn : x.natAbs ≤ n) (hx : ∀ y ∈ u, x ≠ y ∧ x ≠ -y) : OneU n m (u ++ [x]) (k + if so m x = true then 1 else 0) := by
  refine ⟨fun z hz => ?_, ?_, ?_⟩
  · rcases List.mem_append.1 hz with h1 | h1
    · exact h.mem z h1
    · have : z = x := by simpa using h1
      rw [this]; exact ⟨h0, hn⟩
  · rw [List.pairwise_append]
    refine ⟨h.apart, by simp, fun a ha b hb => ?_⟩
    have : b = x := by simpa using hb
    subst this
    have := hx a ha
    omega
  · rw [List.countP_append, h.count]
    simp [List.countP_cons]
theorem one_bad {n : Nat} {m : List Bool} {u : List Int} {k : Nat} (h : OneU n m u k) : bad u = false := by
  rw [bad_no]
  intro x hx hn
  obtain ⟨i, hi, rfl⟩ := List.mem_iff_getElem.1 hx
  obtain ⟨j, hj, hji⟩ := List.mem_iff_getElem.1 hn
  have hp := h.apart
  rw [List.pairwise_iff_getElem] at hp
  have h0 := (h.mem _ hx).1
  rcases Nat.lt_trichotomy i j with h1 | h1 | h1
  · have := hp i j hi hj h1; rw [hji, Int.natAbs_neg] at this; omega
  · subst h1; omega
  · have := hp j i hj hi h1; rw [hji, Int.natAbs_neg] at this; omega
theorem one_mays {n : Nat} {m : List Bool} {u : List Int} {k : Nat} (h : OneU n m u k) : mays n u = true := mays_iff.2 h.mem
theorem one_takes {n : Nat} {m : List Bool} {u : List Int} {k : Nat} (h : OneU n m u k) : takes n [] u = true := by
  unfold takes
  rw [one_mays h]
  rfl
theorem any_count {m : List Bool} {u : List Int} : u.any (so m) = decide (1 ≤ u.countP (so m)) := by
  by_cases h : 1 ≤ u.countP (so m)
  · rw [decide_eq_true h]
    obtain ⟨x, h1, h2⟩ := List.countP_pos_iff.1 h
    exact List.any_eq_true.2 ⟨x, h1, h2⟩
  · rw [decide_eq_false h, List.any_eq_false]
    intro x hx hs
    exact h (List.countP_pos_iff.2 ⟨x, hx, hs⟩)
theorem one_a {n : Nat} {m : List Bool} {u : List Int} {k : Nat} (h : OneU n m u k) : holds m (adds n [] u) = decide (1 ≤ k) := by
  rw [adds_yes (one_takes h), holds_addL (takes_0 (one_takes h))]
  show (true && u.any (so m)) = _
  rw [Bool.true_and, any_count, h.count]
theorem one_b {n : Nat} {m : List Bool} {u : List Int} {k : Nat} (h : OneU n m u k) : takes n [] (u.reverse ++ u) = true ∧ holds m (adds n [] (u.reverse ++ u)) = decide (1 ≤ k) := by
  have hm : ∀ x, x ∈ u.reverse ++ u ↔ x ∈ u := fun x => by simp
  have ht : takes n [] (u.reverse ++ u) = true := by
    unfold takes
    rw [Bool.and_eq_true]
    exact ⟨rfl, mays_iff.2 fun x hx => h.mem x ((hm x).1 hx)⟩
  refine ⟨ht, ?_⟩
  rw [adds_yes ht, holds_addL (takes_0 ht), holdsC_same hm]
  show (true && u.any (so m)) = _
  rw [Bool.true_and, any_count, h.count]
/-- As long as there is room for all. -/
theorem addAll_holds {n : Nat} {m : List Bool} : ∀ {cs L : List (List Int)}, (∀ c ∈ cs, mays n c = true) → L.length + cs.length ≤ 5000 → (addAll n cs L).2 = true ∧ holds m (addAll n cs L).1 = (holds m L && cs.all (holdsC m))
  | [], L, _, _ => by simp [addAll]
  | c :: cs, L, hm, hl => by
    have ht : takes n L c = true := by
      unfold takes
      rw [Bool.and_eq_true, decide_eq_true_eq]
      simp only [List.length_cons] at hl
      exact ⟨by omega, hm c (by simp)⟩
    rw [addAll_yes ht]
    have hlen : (adds n L c).length ≤ L.length + 1 := by
      rw [adds_yes ht]
      unfold addL
      split <;> simp
    simp only [List.length_cons] at hl
    obtain ⟨h1, h2⟩ := addAll_holds (n := n) (m := m) (cs := cs) (L := adds n L c) (fun d hd => hm d (List.mem_cons_of_mem _ hd)) (by omega)
    refine ⟨h1, ?_⟩
    rw [h2, adds_yes ht, holds_addL (takes_0 ht), List.all_cons, Bool.and_assoc]
theorem firsts_self : ∀ {l u : List Int}, (∀ x ∈ l, x ∉ u) → l.Pairwise (fun a b => a ≠ b) → firsts u l = u ++ l
  | [], u, _, _ => by simp [firsts]
  | x :: l, u, h, hp => by
    rw [List.pairwise_cons] at hp
    show firsts (if x ∈ u then u else u ++ [x]) l = _
    rw [if_neg (h x (by simp)), firsts_self (fun y hy => ?_) hp.2]
    · simp
    · intro hm
      rcases List.mem_append.1 hm with h1 | h1
      · exact h y (List.mem_cons_of_mem _ hy) h1
      · have : y = x := by simpa using h1
        exact hp.1 y hy this.symm
theorem pairs_len : ∀ {l : List Int}, (pairs l).length ≤ l.length * l.length
  | [] => by simp [pairs]
  | x :: l => by
    have h1 := pairs_len (l := l)
    unfold pairs denials
    simp only [List.length_append, List.length_map, List.length_cons]
    have : (l.length + 1) * (l.length + 1) = l.length * l.length + l.length + l.length + 1 := by
      rw [Nat.add_mul, Nat.mul_add]; omega
    omega
theorem pairs_mays {n : Nat} : ∀ {l : List Int}, (∀ x ∈ l, x ≠ 0 ∧ x.natAbs ≤ n) → ∀ c ∈ pairs l, mays n c = true
  | [], _, c, hc => by simp [pairs] at hc
  | x :: l, h, c, hc => by
    unfold pairs denials at hc
    rcases List.mem_append.1 hc with h1 | h1
    · obtain ⟨y, hy, rfl⟩ := List.mem_map.1 h1
      have a := h x (by simp)
      have b := h y (List.mem_cons_of_mem _ hy)
      rw [mays_iff]
      intro z hz
      simp only [List.mem_cons, List.not_mem_nil, or_false] at hz
      rcases hz with rfl | rfl <;> omega
    · exact pairs_mays (fun y hy => h y (List.mem_cons_of_mem _ hy)) c h1
theorem pairs_holds {m : List Bool} : ∀ {l : List Int}, (∀ x ∈ l, x ≠ 0) → (pairs l).all (holdsC m) = decide (l.countP (so m) ≤ 1)
  | [], _ => by simp [pairs]
  | x :: l, h => by
    have ih := pairs_holds (m := m) (l := l) (fun y hy => h y (List.mem_cons_of_mem _ hy))
    unfold pairs denials
    rw [List.all_append, ih, List.countP_cons]
    have hx := h x (by simp)
    cases hs : so m x with
    | false =>
      have : (l.map fun y => [-x, -y]).all (holdsC m) = true := by
        rw [List.all_eq_true]
        intro c hc
        obtain ⟨y, _, rfl⟩ := List.mem_map.1 hc
        unfold holdsC
        rw [List.any_eq_true]
        exact ⟨-x, by simp, by rw [so_neg hx, hs]; rfl⟩
      rw [this]
      simp
    | true =>
      have : (l.map fun y => [-x, -y]).all (holdsC m) = decide (l.countP (so m) = 0) := by
        by_cases h0 : l.countP (so m) = 0
        · rw [decide_eq_true h0, List.all_eq_true]
          intro c hc
          obtain ⟨y, hy, rfl⟩ := List.mem_map.1 hc
          have hy0 := List.countP_eq_zero.1 h0 y hy
          unfold holdsC
          rw [List.any_eq_true]
          refine ⟨-y, by simp, ?_⟩
          rw [so_neg (h y (List.mem_cons_of_mem _ hy))]
          cases hh : so m y with
          | true => exact absurd hh hy0
          | false => rfl
        · rw [decide_eq_false h0, List.all_eq_false]
          obtain ⟨y, hy, hsy⟩ := List.countP_pos_iff.1 (Nat.pos_of_ne_zero h0)
          refine ⟨[-x, -y], List.mem_map.2 ⟨y, hy, rfl⟩, ?_⟩
          unfold holdsC
          simp [so_neg hx, so_neg (h y (List.mem_cons_of_mem _ hy)), hs, hsy]
      rw [this]
      by_cases h0 : l.countP (so m) = 0
      · simp [h0]
      · have : ¬ l.countP (so m) + 1 ≤ 1 := by omega
        simp [h0, this]
theorem one_s {n : Nat} {m : List Bool} {u : List Int} {k : Nat} (h : OneU n m u k) (hl : u.length ≤ 10) : (most n [] u).2 = true ∧ holds m (most n [] u).1 = decide (k ≤ 1) := by
  have hf : firsts [] u = u := by
    rw [firsts_self (fun x _ => by simp) (h.apart.imp fun hab e => hab (by rw [e]))]
    rfl
  have hp := pairs_len (l := u)
  have hlen : (pairs u).length ≤ 100 := by
    have := Nat.mul_le_mul hl hl
    omega
  unfold most
  rw [if_pos (one_takes h), hf]
  obtain ⟨h1, h2⟩ := addAll_holds (n := n) (m := m) (cs := pairs u) (L := []) (pairs_mays h.mem) (by simp; omega)
  refine ⟨h1, ?_⟩
  rw [h2, pairs_holds (fun x hx => (h.mem x hx).1), h.count]
  rfl
/-- A set whose blocks lie from B on stays where what lies below B, or is new, is changed. -/
theorem SetP.stays {T : TypeId} {w w' : World} {S : Nat → Prop} {B p : Nat} {v : Value} {n : Nat} {L : List (List Int)} (h : SetP T w B p v n L) (hb : Blk.Chg S w w') (hS : ∀ k, S k → k < B) : SetP T w' B p v n L := by
  refine ⟨hb.is h.is fun hs => ?_, h.low, ?_, h.vars, h.len, h.okay, h.small⟩
  · have := hS p hs; have := h.low; omega
  · obtain ⟨hs, h1, h2⟩ := h.rows
    refine ⟨hs, hb.owns h1 fun k hk hs => ?_, fun i x hx => ?_⟩
    · have := hS k hs; have := (own_lt h1 hk).1; omega
    · have h3 := h2 i x hx
      exact h3.chg hb fun k hk hs => by have := hS k hs; have := (own_lt h3.2 hk).1; omega
/-- Another set stays, wherever the two lie. -/
theorem SetP.other2 {T T' : TypeId} (hT' : T' ≠ 45) (hT2 : T ≠ 22) (hT3 : T' ≠ 22) {w w' : World} {B B' p p' : Nat} {v v' : Value} {n n' : Nat} {L L' : List (List Int)} (h : SetP T w B p v n L) (h' : SetP T' w B' p' v' n' L') (hp : p ≠ p') (hv : Apart v v') (hc : Blk.Chg (Mine p' v') w w') : SetP T w' B p v n L := by
  refine h.chg hc ?_ ?_ (h'.mineLit hT')
  · rintro (rfl | h1)
    · exact hp rfl
    · obtain ⟨_, _, ds, hd⟩ := h'.rows.is h1
      exact (h.is.ne hd hT2) rfl
  · rintro k hk (rfl | h1)
    · obtain ⟨_, _, ds, hd⟩ := h.rows.is hk
      exact (h'.is.ne hd hT3) rfl
    · exact hv k hk h1
end Cn
end Go.Proofs.Ytlpahomaokopoaa

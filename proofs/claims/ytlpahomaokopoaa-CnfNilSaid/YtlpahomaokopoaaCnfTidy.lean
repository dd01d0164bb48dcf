/-
Tidy.
-/
import Derived.Test.YtlpahomaokopoaaCnfSort
namespace Go.Proofs.Ytlpahomaokopoaa
open Go.RowKit
set_option linter.unusedSimpArgs false
set_option linter.unusedVariables false
namespace Cn
theorem tidy_bad {l : List Int} (h : bad l = true) : tidy l = [] := by unfold tidy; rw [if_pos h]
theorem tidy_no {l : List Int} (h : bad l = false) : tidy l = tid l := by unfold tidy; rw [if_neg (by rw [h]; decide)]
set_option maxHeartbeats 8000000 in
theorem tidy_any (v : Value) (l : List Int) (w : World) (h : LitV w v l) (hl : l.length ≤ 1000000) :
    Calls Try.prog 11 #[v] w fun e w' => ∃ v', e = .returned (.tuple #[v', .bool (!bad l)]) ∧ Lt w' w.heap.size v' (tidy l) ∧ Below w.heap.size w w' := by
  have c0 := cloneLits_any v l w h hl
  have hz := h.1
  obtain ⟨a, cap, rfl⟩ := h.shape
  obtain ⟨N, hN⟩ : ∃ N, l.length = N := ⟨_, rfl⟩
  rw [hN] at c0 hl ⊢
  have HN := Lib.hid hN
  have HZ := Lib.hid hz
  obtain ⟨G, hG⟩ : ∃ G, bad l = G := ⟨_, rfl⟩
  have HG := Lib.hid hG
  rw [hG]
  clear hN hz h hG
  go_enter Try.func11, Try.ntmps11
  go_wp2_with fail
  refine c0.mono ?_
  rintro e w1 ⟨v1, rfl, o1, k1⟩
  have c2 := sort_any v1 l w1 o1 (by rw [HN.out]; exact hl)
  obtain ⟨a1, cap1, e1⟩ := o1.lit.shape
  have hlow1 : ∀ k, v1.ownBlock = some k → w.heap.size ≤ k := fun k hk => (own_lt o1.2 hk).1
  rw [e1] at c2 hlow1 ⊢
  have HL1 := Lib.hid hlow1
  have K1 := Lib.hid k1
  clear c0 o1 k1 e1 hlow1
  go_wp2_with fail
  refine c2.mono ?_
  rintro e w2 ⟨rfl, d, hp, hs, o2, g2⟩
  have hdl : d.length = N := by rw [hp.length_eq]; exact HN.out
  have c3 := compact_any _ d w2 o2 (by omega)
  have HP := Lib.hid (And.intro hp hs)
  have B2 := Lib.hid (K1.out.trans (g2.below (B := w.heap.size) (fun k hk => HL1.out k hk) K1.out.size))
  clear c2 hp hs g2 hdl o2
  go_wp2_with fail
  refine c3.mono ?_
  rintro e w3 ⟨v3, rfl, o3, hv3, g3⟩
  have B3 := Lib.hid (B2.out.trans (g3.below (B := w.heap.size) (fun k hk => HL1.out k hk) B2.out.size))
  have neat := neat_of HZ.out HP.out.1 HP.out.2
  have hmem : ∀ x, x ∈ Lib.compact d ↔ x ∈ l := fun x => compact_mem.trans HP.out.1.mem_iff
  have hcl := compact_len (l := d)
  have hdl : d.length = N := by rw [HP.out.1.length_eq]; exact HN.out
  obtain ⟨r, hr⟩ : ∃ r, Lib.compact d = r := ⟨_, rfl⟩
  rw [hr] at neat hmem o3 hcl
  obtain ⟨a3, cap3, rfl, hc3, _, _⟩ := own_shape o3.2
  obtain ⟨M, hM⟩ : ∃ M, r.length = M := ⟨_, rfl⟩
  have HM := Lib.hid hM
  rw [hM] at o3 hc3 hcl ⊢
  have hM9 : M ≤ 1000000 := by omega
  clear hcl hdl
  have HNE := Lib.hid neat
  have HME := Lib.hid hmem
  have O3 := Lib.hid o3
  clear c3 neat hmem hr hM o3 HP hv3 g3
  go_wp2_with fail
  go_loopg [15] M (fun gf s15 wx => ∃ k : Nat, s15 = .int .i64 k ∧ wx = w3 ∧ Hid (∀ i, i < k → r.getD i 0 ≠ 0 ∧ (0 < i → r.getD i 0 ≠ IntKind.i64.wrap (-(r.getD (i - 1) 0)))) ∧ k ≤ M ∧ M ≤ k + gf)
  case atStart => exact ⟨0, rfl, rfl, Lib.hid (fun i hi => absurd hi (by omega)), by omega, by omega⟩
  case round =>
    obtain ⟨k, rfl, rfl, HA, hkn, hfu⟩ := hrel
    by_cases hlk : k < M
    · obtain ⟨g', rfl⟩ : ∃ g', gk = g' + 1 := ⟨gk - 1, by omega⟩
      have hlk' : (k : Int) < (M : Int) := by omega
      have hk0 : (0 : Int) ≤ k := by omega
      have hkl : k < r.length := by rw [HM.out]; exact hlk
      obtain ⟨R, c4, e4, _⟩ := own_slice O3.out.2 (by rw [HM.out]; omega)
      rw [HM.out] at e4
      simp only [Value.slice.injEq, true_and] at e4
      obtain ⟨rfl, rfl⟩ := e4
      obtain ⟨x, hx⟩ : ∃ x, r[k]? = some x := ⟨r[k], List.getElem?_eq_getElem _⟩
      have ho := O3.out.2
      rw [HM.out] at ho
      have c1 := own_cell ho (lcells_get hx)
      have ex : r.getD k 0 = x := by rw [List.getD_eq_getElem?_getD, hx]; rfl
      have HEX := Lib.hid ex
      have bad_of : ∀ (hh : r.getD k 0 = 0 ∨ (0 < k ∧ r.getD k 0 = IntKind.i64.wrap (-(r.getD (k - 1) 0)))), G = true := fun hh => by
        rw [← HG.out, ← bad_same HME.out]
        exact neat_bad (fun y hy => HZ.out y ((HME.out y).1 hy)) HNE.out hkl hh
      have HB := Lib.hid bad_of
      by_cases h0 : x = 0
      · have hg := HB.out (.inl (by rw [HEX.out]; exact h0))
        subst hg
        have g0 : (x == 0) = true := by simp [h0]
        have HT := Lib.hid (tidy_bad HG.out)
        clear ho hx ex bad_of hkl h0
        go_wp2_with fail
        go_ret2
        exact ⟨_, rfl, by rw [HT.out]; exact Lt.nil _ _, B3.out⟩
      · have g0 : (x == 0) = false := by simp [h0]
        cases k with
        | zero =>
          have HA2 : Hid (∀ i, i < 0 + 1 → r.getD i 0 ≠ 0 ∧ (0 < i → r.getD i 0 ≠ IntKind.i64.wrap (-(r.getD (i - 1) 0)))) := Lib.hid (fun i hi => by
            obtain rfl : i = 0 := by omega
            exact ⟨by rw [HEX.out]; exact h0, fun h => absurd h (by omega)⟩)
          clear ho hx ex bad_of hkl h0
          go_wp2_with fail
          go_roundg g'
          case measure => omega
          case rel => exact ⟨1, by go_num, rfl, HA2, by omega, by omega⟩
        | succ j =>
          have hjl : j < r.length := by omega
          obtain ⟨y, hy⟩ : ∃ y, r[j]? = some y := ⟨r[j], List.getElem?_eq_getElem _⟩
          have c2 := own_cell ho (lcells_get hy)
          have ey : r.getD j 0 = y := by rw [List.getD_eq_getElem?_getD, hy]; rfl
          have HEY := Lib.hid ey
          have hj1 : decide (((j : Int) + 1) > 0) = true := decide_eq_true (by omega)
          by_cases h1 : x = IntKind.i64.wrap (-y)
          · have hg := HB.out (.inr ⟨by omega, by rw [HEX.out, Nat.add_sub_cancel, HEY.out]; exact h1⟩)
            subst hg
            have g1 : (x == wrap64 (-y)) = true := by rw [← IntWalk.i64_left, ← h1]; simp
            have HT := Lib.hid (tidy_bad HG.out)
            clear ho hx ex bad_of hkl h0 hy ey hjl h1
            go_wp2_with fail
            go_ret2
            exact ⟨_, rfl, by rw [HT.out]; exact Lt.nil _ _, B3.out⟩
          · have g1 : (x == wrap64 (-y)) = false := by rw [← IntWalk.i64_left]; simpa using h1
            have HA2 : Hid (∀ i, i < j + 1 + 1 → r.getD i 0 ≠ 0 ∧ (0 < i → r.getD i 0 ≠ IntKind.i64.wrap (-(r.getD (i - 1) 0)))) := Lib.hid (fun i hi => by
              by_cases hij : i = j + 1
              · subst hij
                exact ⟨by rw [HEX.out]; exact h0, fun _ => by rw [HEX.out, Nat.add_sub_cancel, HEY.out]; exact h1⟩
              · exact HA.out i (by omega))
            clear ho hx ex bad_of hkl h0 hy ey hjl h1
            go_wp2_with fail
            go_roundg g'
            case measure => omega
            case rel => exact ⟨j + 1 + 1, by go_num, rfl, HA2, by omega, by omega⟩
    · obtain rfl : k = M := by omega
      have hge : ¬ (k : Int) < (k : Int) := by omega
      have hup := neat_up (fun y hy => HZ.out y ((HME.out y).1 hy)) HNE.out (by rw [HM.out]; exact HA.out)
      have hb : bad l = false := by
        rw [← bad_same HME.out, bad_no]
        intro x hx hn
        obtain ⟨i, hi, rfl⟩ := List.mem_iff_getElem.1 hx
        obtain ⟨j, hj, hji⟩ := List.mem_iff_getElem.1 hn
        have hr0 : r[i] ≠ 0 := by
          have := (HA.out i (by rw [← HM.out]; exact hi)).1
          rw [List.getD_eq_getElem?_getD, List.getElem?_eq_getElem hi] at this
          exact this
        unfold Up at hup
        rw [List.pairwise_iff_getElem] at hup
        rcases Nat.lt_trichotomy i j with h | h | h
        · have := hup i j hi hj h; rw [hji, Int.natAbs_neg] at this; omega
        · subst h; omega
        · have := hup j i hj hi h; rw [hji, Int.natAbs_neg] at this; omega
      have hg : G = false := by rw [← HG.out]; exact hb
      subst hg
      have HT := Lib.hid ((tid_of hb hup HME.out).trans (tidy_no hb).symm)
      clear hup hb
      go_wp2_with fail
      go_ret2
      exact ⟨_, rfl, by rw [← HT.out]; exact ⟨O3.out.1, by have := O3.out.2; rw [HM.out] at this ⊢; exact this⟩, B3.out⟩
end Cn
end Go.Proofs.Ytlpahomaokopoaa

/-
Not too many: light.
-/
import Derived.Test.YtddfjndclgapcaaDoorRelMem
namespace Go.Proofs.YtddfjndclgapcaaDoor
open Go.RowKit
set_option linter.unusedSimpArgs false
set_option linter.unusedVariables false
namespace Rl
open Ver (Bs li li_len li_drop S S_self S_of S_size S_li below_drewN empty_is empty_no MaxLen Signs)
def lightB (l : List (List At)) : Bool := decide (l.length ≤ 30) && l.all fun c => decide (c.length ≤ 30)
theorem light_many {l : List (List At)} (h : 30 < l.length) : lightB l = false := by
  unfold lightB
  rw [decide_eq_false (by omega)]
  rfl
theorem light_at {l : List (List At)} {i : Nat} (hi : i < l.length) (h : 30 < (l.getD i []).length) : lightB l = false := by
  unfold lightB
  rw [Bool.and_eq_false_iff]
  right
  rw [List.all_eq_false]
  exact ⟨l[i], List.getElem_mem hi, by rw [show l[i] = l.getD i [] by simp [List.getD, List.getElem?_eq_getElem hi]]; simp only [decide_eq_true_eq]; omega⟩
theorem light_yes {l : List (List At)} (hl : l.length ≤ 30) (h : ∀ i, i < l.length → (l.getD i []).length ≤ 30) : lightB l = true := by
  unfold lightB
  rw [decide_eq_true hl, Bool.true_and, List.all_eq_true]
  intro s hs
  obtain ⟨i, hi, rfl⟩ := List.mem_iff_getElem.1 hs
  have := h i hi
  simpa [List.getD, List.getElem?_eq_getElem hi] using this
theorem light_cnt {l : List (List At)} (h : lightB l = true) : l.length ≤ 30 ∧ ∀ c ∈ l, c.length ≤ 30 := by
  simp only [lightB, Bool.and_eq_true, decide_eq_true_eq, List.all_eq_true] at h
  exact h
set_option maxRecDepth 100000 in
set_option maxHeartbeats 4000000 in
theorem light_any (v : Value) (l : List (List At)) (w : World) (h : Clss w v l) :
    Calls Tryd.prog 20 #[v] w fun e w' => e = .returned (.bool (lightB l)) ∧ w' = w := by
  obtain ⟨hmx, a, cap, rfl, hcap, hread⟩ := id h
  have HR := Lib.hid hread
  obtain ⟨N, hN⟩ : ∃ N, l.length = N := ⟨_, rfl⟩
  have HN := Lib.hid hN
  rw [hN] at hcap hmx ⊢
  obtain ⟨G, hG⟩ : ∃ G, lightB l = G := ⟨_, rfl⟩
  have HG := Lib.hid hG
  rw [hG]
  clear hread hN hG h
  go_enter Tryd.func20, Tryd.ntmps20
  go_wp2_with fail
  go_loopw [7] (fun i u => ∃ k : Nat, k ≤ N ∧ k ≤ 30 ∧ i = .int .i64 k ∧ Hid (∀ j, j < k → (l.getD j []).length ≤ 30) ∧ u = w) (fun i _ => N - (intOf i).toNat)
  case atStart => exact ⟨0, by omega, by omega, rfl, Lib.hid (fun j hj => absurd hj (by omega)), rfl⟩
  case round =>
    obtain ⟨k, hk, hk30, rfl, HP, rfl⟩ := hrel
    by_cases hlt : k < N
    · have hkl : k < l.length := by rw [HN.out]; exact hlt
      obtain ⟨g, off, rfl, hat⟩ := HR.out (by omega)
      obtain ⟨u, x0, hc⟩ := hat k hkl
      obtain ⟨_, fa, fc, rfl, hfc, _⟩ := id hc
      have HC := Lib.hid hc
      obtain ⟨F, hF⟩ : ∃ F, (l.getD k []).length = F := ⟨_, rfl⟩
      have hF60 := hc.1
      have HF := Lib.hid hF
      have HKL := Lib.hid hkl
      rw [hF] at x0 hfc hF60
      rw [Nat.one_mul] at x0
      have k0 : (0 : Int) ≤ k := by omega
      have k1 : (k : Int) < N := by omega
      clear hat hc hF hkl
      by_cases h30 : 30 ≤ k
      · have h30' : (30 : Int) ≤ k := by omega
        go_wp2_with fail
        go_ret
        refine ⟨?_, rfl⟩
        rw [← HG.out, light_many (by rw [HN.out]; omega)]
        rfl
      · have h30' : ¬ (30 : Int) ≤ k := by omega
        by_cases h60 : 30 < F
        · have h60' : (30 : Int) < F := by omega
          go_wp2_with fail
          go_ret
          refine ⟨?_, rfl⟩
          rw [← HG.out, light_at HKL.out (by rw [HF.out]; exact h60)]
          rfl
        · have h60' : ¬ (30 : Int) < F := by omega
          go_wp2_with fail
          refine ⟨⟨k + 1, by omega, by omega, by go_num, Lib.hid (fun j hj => ?_), trivial⟩, by simp [intOf]; omega⟩
          by_cases hj' : j < k
          · exact HP.out j hj'
          · obtain rfl : j = k := by omega
            rw [HF.out]
            omega
    · obtain rfl : k = N := by omega
      have k1 : ¬ (k : Int) < k := by omega
      go_wp2_with fail
      go_ret
      refine ⟨?_, rfl⟩
      rw [← HG.out, light_yes (by rw [HN.out]; exact hk30) (fun i hi => HP.out i (by rw [← HN.out]; exact hi))]
      rfl
end Rl
end Go.Proofs.YtddfjndclgapcaaDoor

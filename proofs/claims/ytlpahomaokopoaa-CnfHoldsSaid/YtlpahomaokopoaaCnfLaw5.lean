/-
CnfHolds: any clauses in any model; a copy goes on by itself.
-/
import Derived.Test.YtlpahomaokopoaaCnfBoth
import Derived.Test.YtlpahomaokopoaaHeld
import Derived.OrdersHeld
import Derived.Deep.MidRow
namespace Go.Proofs.Ytlpahomaokopoaa
open Go.RowKit
set_option linter.unusedSimpArgs false
set_option linter.unusedVariables false
namespace Cn
set_option maxRecDepth 100000 in
set_option maxHeartbeats 16000000 in
theorem holds_walk (n0 : Int) (v mv cv : Value) (l : List (List Int)) (m : List Bool) (c : List Int) (w : World) (h : LitVs w v l) (hm : BoolV w mv m) (hc : LitV w cv c) :
    Calls Try.prog 5 #[.int .i64 n0, v, mv, cv] w fun e w' => e = .returned (.bool true) ∧ Below w.heap.size w w' := by
  have cb := both_any n0 v l w h
  obtain ⟨a, cap, rfl⟩ := h.shape
  obtain ⟨ma, mcap, rfl⟩ := hm.shape
  obtain ⟨xa, xc, rfl⟩ := hc.shape
  have hc9 := hc.len
  obtain ⟨N0, hN0⟩ : ∃ N, l.length = N := ⟨_, rfl⟩
  obtain ⟨M, hM⟩ : ∃ M, m.length = M := ⟨_, rfl⟩
  obtain ⟨C, hC⟩ : ∃ C, c.length = C := ⟨_, rfl⟩
  have HCL := Lib.hid hC
  rw [hN0] at cb
  rw [hN0, hM, hC]
  rw [hM] at hm
  rw [hC] at hc hc9
  have HM := Lib.hid hm
  have HC := Lib.hid hc
  obtain ⟨n, hn⟩ : ∃ n, vars n0 = n := ⟨_, rfl⟩
  rw [hn] at cb
  clear hN0 hM hC h hm hc hn
  go_enter Try.func5, Try.ntmps5
  go_wp2_with fail
  refine cb.mono ?_
  rintro e w1 ⟨p, q, v1, u1, L, rfl, two, k1⟩
  have TW := Lib.hid two
  have K1 := Lib.hid k1
  have cc := copy_any two.cs
  clear cb two k1
  go_wp2_with fail
  refine cc.mono ?_
  rintro e w2 ⟨pc, vc, rfl, sc, k2⟩
  have SC := Lib.hid sc
  have KK := Lib.hid k2
  clear cc sc k2
  obtain ⟨N, hN⟩ : ∃ N, L.length = N := ⟨_, rfl⟩
  have HN := Lib.hid hN
  obtain ⟨ua, uc, eu, _⟩ := TW.out.qs.rows.shape
  have HEU := Lib.hid eu
  obtain ⟨G, hG⟩ : ∃ G, holds m L = G := ⟨_, rfl⟩
  have HG := Lib.hid hG
  clear hN eu hG
  have hll : N ≤ 5000 := by have := TW.out.cs.len; have := HN.out; omega
  have CU : Hid (∀ u, Below w2.heap.size w2 u → u.cell? ⟨q, 1, none⟩ = some (.slice ua N uc)) := Lib.hid fun u hu => by rw [← HN.out, ← HEU.out]; exact ((TW.out.below (KK.out.trans (hu.mono KK.out.size))).qs.is.at (i := 1) rfl)
  have CH : Hid (∀ u, Below w2.heap.size w2 u → Calls Try.prog 25 #[.pointer (some ⟨p, 0, none⟩), .slice ma M mcap] u fun e w' => e = .returned (.bool G) ∧ Below u.heap.size u w') := Lib.hid fun u hu => by
    rw [← HG.out]
    exact holds_any p v1 n L w.heap.size (.slice ma M mcap) m u (TW.out.below (KK.out.trans (hu.mono KK.out.size))).cs (HM.out.below (K1.out.trans ((KK.out.trans (hu.mono KK.out.size)).mono K1.out.size)))
  have CQ : Hid (∀ u, Below w2.heap.size w2 u → Calls Try.prog 26 #[.pointer (some ⟨q, 0, none⟩), .slice ma M mcap] u fun e w' => e = .returned (.bool G) ∧ Below u.heap.size u w') := Lib.hid fun u hu => by
    rw [← HG.out]
    exact (qholds_any (TW.out.below (KK.out.trans (hu.mono KK.out.size))).qs (.slice ma M mcap) m (HM.out.below (K1.out.trans ((KK.out.trans (hu.mono KK.out.size)).mono K1.out.size)))).mono fun e w' ⟨h1, h2⟩ => ⟨h1, by rw [h2]; exact Below.refl _ _⟩
  have CC : Hid (∀ u, Below w2.heap.size w2 u → Calls Try.prog 25 #[.pointer (some ⟨pc, 0, none⟩), .slice ma M mcap] u fun e w' => e = .returned (.bool G) ∧ Below u.heap.size u w') := Lib.hid fun u hu => by
    rw [← HG.out]
    exact holds_any pc vc n L w1.heap.size (.slice ma M mcap) m u (SC.out.below hu) (HM.out.below (K1.out.trans ((KK.out.trans (hu.mono KK.out.size)).mono K1.out.size)))
  have CL : Hid (∀ u, Below w2.heap.size w2 u → Calls Try.prog 21 #[.pointer (some ⟨pc, 0, none⟩)] u fun e w' => e = .returned (.int .i64 (N : Nat)) ∧ Below u.heap.size u w') := Lib.hid fun u hu => by
    rw [← HN.out]
    exact (len_any (SC.out.below hu)).mono fun e w' ⟨h1, h2⟩ => ⟨h1, by rw [h2]; exact Below.refl _ _⟩
  have hgg : (G != G) = false := by simp
  have hee : (G == G) = true := by simp
  have hnn : ((N : Int) != (N : Int)) = false := by simp
  have hnn2 : ((N : Int) == (N : Int)) = true := by simp
  go_upto_region 3 with fail
  refine wp_region_held (S := fun u => Below w2.heap.size w2 u) (by kernel_rfl) ?_
  have hS0 : Below w2.heap.size w2 w2.drew := (Below.refl _ _).drew
  change wpAnyH _ _ _ _ _ 26 _ _ w2.drew
  generalize w2.drew = u0 at *
  refine wpAnyH_take (i := 0) (v := .pointer (some ⟨p, 0, none⟩)) rfl (by kernel_rfl) (by kernel_rfl) (by kernel_rfl) (fun _ _ _ h => h) (.inl ⟨rfl, fun w _ => rfl⟩) hS0 ?_
  simp only [Act.put, List.getElem_toArray, List.getElem_cons_zero, List.getElem_cons_succ, List.setIfInBounds_toArray, List.set_cons_zero, List.set_cons_succ]
  refine wpAnyH_take (i := 1) (v := .slice ma M mcap) rfl (by kernel_rfl) (by kernel_rfl) (by kernel_rfl) (fun _ _ _ h => h) (.inl ⟨rfl, fun w _ => rfl⟩) hS0 ?_
  simp only [Act.put, List.getElem_toArray, List.getElem_cons_zero, List.getElem_cons_succ, List.setIfInBounds_toArray, List.set_cons_zero, List.set_cons_succ]
  refine wpAnyH_take (i := 3) (v := .pointer (some ⟨q, 0, none⟩)) rfl (by kernel_rfl) (by kernel_rfl) (by kernel_rfl) (fun _ _ _ h => h) (.inl ⟨rfl, fun w _ => rfl⟩) hS0 ?_
  simp only [Act.put, List.getElem_toArray, List.getElem_cons_zero, List.getElem_cons_succ, List.setIfInBounds_toArray, List.set_cons_zero, List.set_cons_succ]
  refine wpAnyH_take (i := 4) (v := .slice ma M mcap) rfl (by kernel_rfl) (by kernel_rfl) (by kernel_rfl) (fun _ _ _ h => h) (.inl ⟨rfl, fun w _ => rfl⟩) hS0 ?_
  simp only [Act.put, List.getElem_toArray, List.getElem_cons_zero, List.getElem_cons_succ, List.setIfInBounds_toArray, List.set_cons_zero, List.set_cons_succ]
  have cx := CH.out u0 hS0
  refine wpAnyH_all (rs := [2]) (by kernel_rfl) (by simp) ?_
  intro i hi
  obtain rfl := List.mem_singleton.1 hi
  refine Reg.wpOp_list rfl ?_
  go_wp2_with fail
  refine cx.mono ?_
  rintro e u1 ⟨rfl, k1⟩
  go_wp2_with fail
  change _ ∧ _
  have hS1 : Below w2.heap.size w2 u1 := hS0.trans (k1.mono hS0.size)
  refine ⟨hS1, ?_⟩
  clear cx
  have cx := CQ.out u1 hS1
  refine wpAnyH_all (rs := [5]) (by kernel_rfl) (by simp) ?_
  intro i hi
  obtain rfl := List.mem_singleton.1 hi
  refine Reg.wpOp_list rfl ?_
  go_wp2_with fail
  refine cx.mono ?_
  rintro e u2 ⟨rfl, k2⟩
  go_wp2_with fail
  change _ ∧ _
  have hS2 : Below w2.heap.size w2 u2 := hS1.trans (k2.mono hS1.size)
  refine ⟨hS2, ?_⟩
  clear cx
  refine wpAnyH_all (rs := [6]) (by kernel_rfl) (by simp) ?_
  intro i hi
  obtain rfl := List.mem_singleton.1 hi
  refine Reg.wpOp_list rfl ?_
  go_wp2_with fail
  change _ ∧ _
  refine ⟨hS2, ?_⟩
  refine wpAnyH_all (rs := [7]) (by kernel_rfl) (by simp) ?_
  intro i hi
  obtain rfl := List.mem_singleton.1 hi
  refine Reg.wpOp_list rfl ?_
  go_wp2_with fail
  change _ ∧ _
  refine ⟨hS2, ?_⟩
  refine wpAnyH_take (i := 8) (v := .pointer (some ⟨pc, 0, none⟩)) rfl (by kernel_rfl) (by kernel_rfl) (by kernel_rfl) (fun _ _ _ h => h) (.inl ⟨rfl, fun w _ => rfl⟩) hS2 ?_
  simp only [Act.put, List.getElem_toArray, List.getElem_cons_zero, List.getElem_cons_succ, List.setIfInBounds_toArray, List.set_cons_zero, List.set_cons_succ]
  refine wpAnyH_take (i := 9) (v := .slice ma M mcap) rfl (by kernel_rfl) (by kernel_rfl) (by kernel_rfl) (fun _ _ _ h => h) (.inl ⟨rfl, fun w _ => rfl⟩) hS2 ?_
  simp only [Act.put, List.getElem_toArray, List.getElem_cons_zero, List.getElem_cons_succ, List.setIfInBounds_toArray, List.set_cons_zero, List.set_cons_succ]
  refine wpAnyH_take (i := 11) (v := .pointer (some ⟨q, 0, none⟩)) rfl (by kernel_rfl) (by kernel_rfl) (by kernel_rfl) (fun _ _ _ h => h) (.inl ⟨rfl, fun w _ => rfl⟩) hS2 ?_
  simp only [Act.put, List.getElem_toArray, List.getElem_cons_zero, List.getElem_cons_succ, List.setIfInBounds_toArray, List.set_cons_zero, List.set_cons_succ]
  refine wpAnyH_take (i := 12) (v := .slice ma M mcap) rfl (by kernel_rfl) (by kernel_rfl) (by kernel_rfl) (fun _ _ _ h => h) (.inl ⟨rfl, fun w _ => rfl⟩) hS2 ?_
  simp only [Act.put, List.getElem_toArray, List.getElem_cons_zero, List.getElem_cons_succ, List.setIfInBounds_toArray, List.set_cons_zero, List.set_cons_succ]
  have cx := CC.out u2 hS2
  refine wpAnyH_all (rs := [10]) (by kernel_rfl) (by simp) ?_
  intro i hi
  obtain rfl := List.mem_singleton.1 hi
  refine Reg.wpOp_list rfl ?_
  go_wp2_with fail
  refine cx.mono ?_
  rintro e u3 ⟨rfl, k3⟩
  go_wp2_with fail
  change _ ∧ _
  have hS3 : Below w2.heap.size w2 u3 := hS2.trans (k3.mono hS2.size)
  refine ⟨hS3, ?_⟩
  clear cx
  have cx := CQ.out u3 hS3
  refine wpAnyH_all (rs := [13]) (by kernel_rfl) (by simp) ?_
  intro i hi
  obtain rfl := List.mem_singleton.1 hi
  refine Reg.wpOp_list rfl ?_
  go_wp2_with fail
  refine cx.mono ?_
  rintro e u4 ⟨rfl, k4⟩
  go_wp2_with fail
  change _ ∧ _
  have hS4 : Below w2.heap.size w2 u4 := hS3.trans (k4.mono hS3.size)
  refine ⟨hS4, ?_⟩
  clear cx
  refine wpAnyH_all (rs := [14]) (by kernel_rfl) (by simp) ?_
  intro i hi
  obtain rfl := List.mem_singleton.1 hi
  refine Reg.wpOp_list rfl ?_
  go_wp2_with fail
  change _ ∧ _
  refine ⟨hS4, ?_⟩
  refine wpAnyH_all (rs := [15]) (by kernel_rfl) (by simp) ?_
  intro i hi
  obtain rfl := List.mem_singleton.1 hi
  refine Reg.wpOp_list rfl ?_
  go_wp2_with fail
  change _ ∧ _
  refine ⟨hS4, ?_⟩
  refine wpAnyH_all (rs := [16]) (by kernel_rfl) (by simp) ?_
  intro i hi
  obtain rfl := List.mem_singleton.1 hi
  refine Reg.wpOp_list rfl ?_
  go_wp2_with fail
  change _ ∧ _
  refine ⟨hS4, ?_⟩
  refine wpAnyH_take (i := 17) (v := .pointer (some ⟨pc, 0, none⟩)) rfl (by kernel_rfl) (by kernel_rfl) (by kernel_rfl) (fun _ _ _ h => h) (.inl ⟨rfl, fun w _ => rfl⟩) hS4 ?_
  simp only [Act.put, List.getElem_toArray, List.getElem_cons_zero, List.getElem_cons_succ, List.setIfInBounds_toArray, List.set_cons_zero, List.set_cons_succ]
  refine wpAnyH_take (i := 19) (v := .pointer (some ⟨q, 0, none⟩)) rfl (by kernel_rfl) (by kernel_rfl) (by kernel_rfl) (fun _ _ _ h => h) (.inl ⟨rfl, fun w _ => rfl⟩) hS4 ?_
  simp only [Act.put, List.getElem_toArray, List.getElem_cons_zero, List.getElem_cons_succ, List.setIfInBounds_toArray, List.set_cons_zero, List.set_cons_succ]
  refine wpAnyH_take (i := 20) (v := .pointer (some ⟨q, 0, none⟩)) rfl (by kernel_rfl) (by kernel_rfl) (by kernel_rfl) (fun _ _ _ h => h) (.inl ⟨rfl, fun w _ => rfl⟩) hS4 ?_
  simp only [Act.put, List.getElem_toArray, List.getElem_cons_zero, List.getElem_cons_succ, List.setIfInBounds_toArray, List.set_cons_zero, List.set_cons_succ]
  refine wpAnyH_take (i := 21) (v := .pointer (some ⟨q, 1, none⟩)) rfl (by kernel_rfl) (by kernel_rfl) (by kernel_rfl) (fun _ _ _ h => h) (.inl ⟨rfl, fun w _ => rfl⟩) hS4 ?_
  simp only [Act.put, List.getElem_toArray, List.getElem_cons_zero, List.getElem_cons_succ, List.setIfInBounds_toArray, List.set_cons_zero, List.set_cons_succ]
  refine wpAnyH_take (i := 22) (v := .slice ua N uc) rfl (by kernel_rfl) (by kernel_rfl) (by kernel_rfl) (fun _ _ _ h => h) (Held.load1 rfl 28 (.tmp 41) rfl q 1 rfl _ _ (fun u hu => CU.out u hu) Try.underlying28 rfl) hS4 ?_
  simp only [Act.put, List.getElem_toArray, List.getElem_cons_zero, List.getElem_cons_succ, List.setIfInBounds_toArray, List.set_cons_zero, List.set_cons_succ]
  refine wpAnyH_take (i := 23) (v := .int .i64 (N : Nat)) rfl (by kernel_rfl) (by kernel_rfl) (by kernel_rfl) (fun _ _ _ h => h) (.inl ⟨rfl, fun w _ => by simp [execOp, resolve, invoke, builtin, go_sem]⟩) hS4 ?_
  simp only [Act.put, List.getElem_toArray, List.getElem_cons_zero, List.getElem_cons_succ, List.setIfInBounds_toArray, List.set_cons_zero, List.set_cons_succ]
  have cx := CL.out u4 hS4
  refine wpAnyH_all (rs := [18]) (by kernel_rfl) (by simp) ?_
  intro i hi
  obtain rfl := List.mem_singleton.1 hi
  refine Reg.wpOp_list rfl ?_
  go_wp2_with fail
  refine cx.mono ?_
  rintro e u5 ⟨rfl, k5⟩
  go_wp2_with fail
  change _ ∧ _
  have hS5 : Below w2.heap.size w2 u5 := hS4.trans (k5.mono hS4.size)
  refine ⟨hS5, ?_⟩
  clear cx
  refine wpAnyH_all (rs := [24]) (by kernel_rfl) (by simp) ?_
  intro i hi
  obtain rfl := List.mem_singleton.1 hi
  refine Reg.wpOp_list rfl ?_
  go_wp2_with fail
  change _ ∧ _
  refine ⟨hS5, ?_⟩
  refine wpAnyH_all (rs := [25]) (by kernel_rfl) (by simp) ?_
  intro i hi
  obtain rfl := List.mem_singleton.1 hi
  refine Reg.wpOp_list rfl ?_
  go_wp2_with fail
  change _ ∧ _
  refine ⟨hS5, ?_⟩
  refine wpAnyH_done (by kernel_rfl) ?_ _
  have SC3 := Lib.hid (SC.out.below hS5)
  have KK3 := Lib.hid (KK.out.trans (hS5.mono KK.out.size))
  clear hS0 hS1 hS2 hS3 hS4 hS5 CU CH CQ CC CL SC KK
  generalize u5 = w3 at *
  by_cases h20 : C ≤ 20
  · have h20' : (C : Int) ≤ 20 := by omega
    have ca := add_any SC3.out (.slice xa C xc) c (HC.out.below (K1.out.trans (KK3.out.mono K1.out.size))) (by have := HCL.out; omega) KK3.out.size
    clear h20
    go_wp2_with fail
    refine ca.mono ?_
    rintro e w4 ⟨rfl, v9, s9, g9, k9⟩
    have KK := Lib.hid (KK3.out.trans (k9.below (B := w1.heap.size) (fun k hk => SC3.out.mineLow k hk) KK3.out.size))
    clear ca s9 g9 k9 KK3
    have CU : Hid (∀ u, Below w4.heap.size w4 u → u.cell? ⟨q, 1, none⟩ = some (.slice ua N uc)) := Lib.hid fun u hu => by rw [← HN.out, ← HEU.out]; exact ((TW.out.below (KK.out.trans (hu.mono KK.out.size))).qs.is.at (i := 1) rfl)
    have CH : Hid (∀ u, Below w4.heap.size w4 u → Calls Try.prog 25 #[.pointer (some ⟨p, 0, none⟩), .slice ma M mcap] u fun e w' => e = .returned (.bool G) ∧ Below u.heap.size u w') := Lib.hid fun u hu => by
      rw [← HG.out]
      exact holds_any p v1 n L w.heap.size (.slice ma M mcap) m u (TW.out.below (KK.out.trans (hu.mono KK.out.size))).cs (HM.out.below (K1.out.trans ((KK.out.trans (hu.mono KK.out.size)).mono K1.out.size)))
    have CQ : Hid (∀ u, Below w4.heap.size w4 u → Calls Try.prog 26 #[.pointer (some ⟨q, 0, none⟩), .slice ma M mcap] u fun e w' => e = .returned (.bool G) ∧ Below u.heap.size u w') := Lib.hid fun u hu => by
      rw [← HG.out]
      exact (qholds_any (TW.out.below (KK.out.trans (hu.mono KK.out.size))).qs (.slice ma M mcap) m (HM.out.below (K1.out.trans ((KK.out.trans (hu.mono KK.out.size)).mono K1.out.size)))).mono fun e w' ⟨h1, h2⟩ => ⟨h1, by rw [h2]; exact Below.refl _ _⟩
    have CL : Hid (∀ u, Below w4.heap.size w4 u → Calls Try.prog 21 #[.pointer (some ⟨p, 0, none⟩)] u fun e w' => e = .returned (.int .i64 (N : Nat)) ∧ Below u.heap.size u w') := Lib.hid fun u hu => by
      rw [← HN.out]
      exact (len_any (TW.out.below (KK.out.trans (hu.mono KK.out.size))).cs).mono fun e w' ⟨h1, h2⟩ => ⟨h1, by rw [h2]; exact Below.refl _ _⟩
    have CA := Lib.hid (fun u : World => awake_any u)
    go_upto_region 7 with fail
    refine wp_region_held (S := fun u => Below w4.heap.size w4 u) (by kernel_rfl) ?_
    have hS0 : Below w4.heap.size w4 w4.drew := (Below.refl _ _).drew
    change wpAnyH _ _ _ _ _ 21 _ _ w4.drew
    generalize w4.drew = u0 at *
    refine wpAnyH_take (i := 0) (v := .pointer (some ⟨p, 0, none⟩)) rfl (by kernel_rfl) (by kernel_rfl) (by kernel_rfl) (fun _ _ _ h => h) (.inl ⟨rfl, fun w _ => rfl⟩) hS0 ?_
    simp only [Act.put, List.getElem_toArray, List.getElem_cons_zero, List.getElem_cons_succ, List.setIfInBounds_toArray, List.set_cons_zero, List.set_cons_succ]
    refine wpAnyH_take (i := 2) (v := .pointer (some ⟨q, 0, none⟩)) rfl (by kernel_rfl) (by kernel_rfl) (by kernel_rfl) (fun _ _ _ h => h) (.inl ⟨rfl, fun w _ => rfl⟩) hS0 ?_
    simp only [Act.put, List.getElem_toArray, List.getElem_cons_zero, List.getElem_cons_succ, List.setIfInBounds_toArray, List.set_cons_zero, List.set_cons_succ]
    refine wpAnyH_take (i := 3) (v := .pointer (some ⟨q, 0, none⟩)) rfl (by kernel_rfl) (by kernel_rfl) (by kernel_rfl) (fun _ _ _ h => h) (.inl ⟨rfl, fun w _ => rfl⟩) hS0 ?_
    simp only [Act.put, List.getElem_toArray, List.getElem_cons_zero, List.getElem_cons_succ, List.setIfInBounds_toArray, List.set_cons_zero, List.set_cons_succ]
    refine wpAnyH_take (i := 4) (v := .pointer (some ⟨q, 1, none⟩)) rfl (by kernel_rfl) (by kernel_rfl) (by kernel_rfl) (fun _ _ _ h => h) (.inl ⟨rfl, fun w _ => rfl⟩) hS0 ?_
    simp only [Act.put, List.getElem_toArray, List.getElem_cons_zero, List.getElem_cons_succ, List.setIfInBounds_toArray, List.set_cons_zero, List.set_cons_succ]
    refine wpAnyH_take (i := 5) (v := .slice ua N uc) rfl (by kernel_rfl) (by kernel_rfl) (by kernel_rfl) (fun _ _ _ h => h) (Held.load1 rfl 28 (.tmp 56) rfl q 1 rfl _ _ (fun u hu => CU.out u hu) Try.underlying28 rfl) hS0 ?_
    simp only [Act.put, List.getElem_toArray, List.getElem_cons_zero, List.getElem_cons_succ, List.setIfInBounds_toArray, List.set_cons_zero, List.set_cons_succ]
    refine wpAnyH_take (i := 6) (v := .int .i64 (N : Nat)) rfl (by kernel_rfl) (by kernel_rfl) (by kernel_rfl) (fun _ _ _ h => h) (.inl ⟨rfl, fun w _ => by simp [execOp, resolve, invoke, builtin, go_sem]⟩) hS0 ?_
    simp only [Act.put, List.getElem_toArray, List.getElem_cons_zero, List.getElem_cons_succ, List.setIfInBounds_toArray, List.set_cons_zero, List.set_cons_succ]
    have cx := CL.out u0 hS0
    refine wpAnyH_all (rs := [1]) (by kernel_rfl) (by simp) ?_
    intro i hi
    obtain rfl := List.mem_singleton.1 hi
    refine Reg.wpOp_list rfl ?_
    go_wp2_with fail
    refine cx.mono ?_
    rintro e u1 ⟨rfl, k1⟩
    go_wp2_with fail
    change _ ∧ _
    have hS1 : Below w4.heap.size w4 u1 := hS0.trans (k1.mono hS0.size)
    refine ⟨hS1, ?_⟩
    clear cx
    refine wpAnyH_all (rs := [7]) (by kernel_rfl) (by simp) ?_
    intro i hi
    obtain rfl := List.mem_singleton.1 hi
    refine Reg.wpOp_list rfl ?_
    go_wp2_with fail
    change _ ∧ _
    refine ⟨hS1, ?_⟩
    refine wpAnyH_all (rs := [8]) (by kernel_rfl) (by simp) ?_
    intro i hi
    obtain rfl := List.mem_singleton.1 hi
    refine Reg.wpOp_list rfl ?_
    go_wp2_with fail
    change _ ∧ _
    refine ⟨hS1, ?_⟩
    refine wpAnyH_take (i := 9) (v := .pointer (some ⟨p, 0, none⟩)) rfl (by kernel_rfl) (by kernel_rfl) (by kernel_rfl) (fun _ _ _ h => h) (.inl ⟨rfl, fun w _ => rfl⟩) hS1 ?_
    simp only [Act.put, List.getElem_toArray, List.getElem_cons_zero, List.getElem_cons_succ, List.setIfInBounds_toArray, List.set_cons_zero, List.set_cons_succ]
    refine wpAnyH_take (i := 10) (v := .slice ma M mcap) rfl (by kernel_rfl) (by kernel_rfl) (by kernel_rfl) (fun _ _ _ h => h) (.inl ⟨rfl, fun w _ => rfl⟩) hS1 ?_
    simp only [Act.put, List.getElem_toArray, List.getElem_cons_zero, List.getElem_cons_succ, List.setIfInBounds_toArray, List.set_cons_zero, List.set_cons_succ]
    refine wpAnyH_take (i := 12) (v := .pointer (some ⟨q, 0, none⟩)) rfl (by kernel_rfl) (by kernel_rfl) (by kernel_rfl) (fun _ _ _ h => h) (.inl ⟨rfl, fun w _ => rfl⟩) hS1 ?_
    simp only [Act.put, List.getElem_toArray, List.getElem_cons_zero, List.getElem_cons_succ, List.setIfInBounds_toArray, List.set_cons_zero, List.set_cons_succ]
    refine wpAnyH_take (i := 13) (v := .slice ma M mcap) rfl (by kernel_rfl) (by kernel_rfl) (by kernel_rfl) (fun _ _ _ h => h) (.inl ⟨rfl, fun w _ => rfl⟩) hS1 ?_
    simp only [Act.put, List.getElem_toArray, List.getElem_cons_zero, List.getElem_cons_succ, List.setIfInBounds_toArray, List.set_cons_zero, List.set_cons_succ]
    have cx := CH.out u1 hS1
    refine wpAnyH_all (rs := [11]) (by kernel_rfl) (by simp) ?_
    intro i hi
    obtain rfl := List.mem_singleton.1 hi
    refine Reg.wpOp_list rfl ?_
    go_wp2_with fail
    refine cx.mono ?_
    rintro e u2 ⟨rfl, k2⟩
    go_wp2_with fail
    change _ ∧ _
    have hS2 : Below w4.heap.size w4 u2 := hS1.trans (k2.mono hS1.size)
    refine ⟨hS2, ?_⟩
    clear cx
    have cx := CQ.out u2 hS2
    refine wpAnyH_all (rs := [14]) (by kernel_rfl) (by simp) ?_
    intro i hi
    obtain rfl := List.mem_singleton.1 hi
    refine Reg.wpOp_list rfl ?_
    go_wp2_with fail
    refine cx.mono ?_
    rintro e u3 ⟨rfl, k3⟩
    go_wp2_with fail
    change _ ∧ _
    have hS3 : Below w4.heap.size w4 u3 := hS2.trans (k3.mono hS2.size)
    refine ⟨hS3, ?_⟩
    clear cx
    refine wpAnyH_all (rs := [15]) (by kernel_rfl) (by simp) ?_
    intro i hi
    obtain rfl := List.mem_singleton.1 hi
    refine Reg.wpOp_list rfl ?_
    go_wp2_with fail
    change _ ∧ _
    refine ⟨hS3, ?_⟩
    refine wpAnyH_all (rs := [16]) (by kernel_rfl) (by simp) ?_
    intro i hi
    obtain rfl := List.mem_singleton.1 hi
    refine Reg.wpOp_list rfl ?_
    go_wp2_with fail
    change _ ∧ _
    refine ⟨hS3, ?_⟩
    refine wpAnyH_all (rs := [17]) (by kernel_rfl) (by simp) ?_
    intro i hi
    obtain rfl := List.mem_singleton.1 hi
    refine Reg.wpOp_list rfl ?_
    go_wp2_with fail
    change _ ∧ _
    refine ⟨hS3, ?_⟩
    have cx := CA.out u3
    refine wpAnyH_all (rs := [18]) (by kernel_rfl) (by simp) ?_
    intro i hi
    obtain rfl := List.mem_singleton.1 hi
    refine Reg.wpOp_list rfl ?_
    go_wp2_with fail
    refine cx.mono ?_
    rintro e u4 ⟨rfl, k4⟩
    go_wp2_with fail
    change _ ∧ _
    have hS4 : Below w4.heap.size w4 u4 := hS3.trans (k4.mono hS3.size)
    refine ⟨hS4, ?_⟩
    clear cx
    refine wpAnyH_all (rs := [19]) (by kernel_rfl) (by simp) ?_
    intro i hi
    obtain rfl := List.mem_singleton.1 hi
    refine Reg.wpOp_list rfl ?_
    go_wp2_with fail
    change _ ∧ _
    refine ⟨hS4, ?_⟩
    refine wpAnyH_all (rs := [20]) (by kernel_rfl) (by simp) ?_
    intro i hi
    obtain rfl := List.mem_singleton.1 hi
    refine Reg.wpOp_list rfl ?_
    go_wp2_with fail
    change _ ∧ _
    refine ⟨hS4, ?_⟩
    refine wpAnyH_done (by kernel_rfl) ?_ _
    have KF := Lib.hid (K1.out.trans ((KK.out.trans (hS4.mono KK.out.size)).mono K1.out.size))
    generalize u4 = w9 at *
    go_wp2_with fail
    go_ret
    exact ⟨rfl, KF.out⟩
  · have h20' : ¬ ((C : Int) ≤ 20) := by omega
    clear h20
    rename World => w4
    have KK := KK3
    clear KK3
    have CU : Hid (∀ u, Below w4.heap.size w4 u → u.cell? ⟨q, 1, none⟩ = some (.slice ua N uc)) := Lib.hid fun u hu => by rw [← HN.out, ← HEU.out]; exact ((TW.out.below (KK.out.trans (hu.mono KK.out.size))).qs.is.at (i := 1) rfl)
    have CH : Hid (∀ u, Below w4.heap.size w4 u → Calls Try.prog 25 #[.pointer (some ⟨p, 0, none⟩), .slice ma M mcap] u fun e w' => e = .returned (.bool G) ∧ Below u.heap.size u w') := Lib.hid fun u hu => by
      rw [← HG.out]
      exact holds_any p v1 n L w.heap.size (.slice ma M mcap) m u (TW.out.below (KK.out.trans (hu.mono KK.out.size))).cs (HM.out.below (K1.out.trans ((KK.out.trans (hu.mono KK.out.size)).mono K1.out.size)))
    have CQ : Hid (∀ u, Below w4.heap.size w4 u → Calls Try.prog 26 #[.pointer (some ⟨q, 0, none⟩), .slice ma M mcap] u fun e w' => e = .returned (.bool G) ∧ Below u.heap.size u w') := Lib.hid fun u hu => by
      rw [← HG.out]
      exact (qholds_any (TW.out.below (KK.out.trans (hu.mono KK.out.size))).qs (.slice ma M mcap) m (HM.out.below (K1.out.trans ((KK.out.trans (hu.mono KK.out.size)).mono K1.out.size)))).mono fun e w' ⟨h1, h2⟩ => ⟨h1, by rw [h2]; exact Below.refl _ _⟩
    have CL : Hid (∀ u, Below w4.heap.size w4 u → Calls Try.prog 21 #[.pointer (some ⟨p, 0, none⟩)] u fun e w' => e = .returned (.int .i64 (N : Nat)) ∧ Below u.heap.size u w') := Lib.hid fun u hu => by
      rw [← HN.out]
      exact (len_any (TW.out.below (KK.out.trans (hu.mono KK.out.size))).cs).mono fun e w' ⟨h1, h2⟩ => ⟨h1, by rw [h2]; exact Below.refl _ _⟩
    have CA := Lib.hid (fun u : World => awake_any u)
    go_upto_region 7 with fail
    refine wp_region_held (S := fun u => Below w4.heap.size w4 u) (by kernel_rfl) ?_
    have hS0 : Below w4.heap.size w4 w4.drew := (Below.refl _ _).drew
    change wpAnyH _ _ _ _ _ 21 _ _ w4.drew
    generalize w4.drew = u0 at *
    refine wpAnyH_take (i := 0) (v := .pointer (some ⟨p, 0, none⟩)) rfl (by kernel_rfl) (by kernel_rfl) (by kernel_rfl) (fun _ _ _ h => h) (.inl ⟨rfl, fun w _ => rfl⟩) hS0 ?_
    simp only [Act.put, List.getElem_toArray, List.getElem_cons_zero, List.getElem_cons_succ, List.setIfInBounds_toArray, List.set_cons_zero, List.set_cons_succ]
    refine wpAnyH_take (i := 2) (v := .pointer (some ⟨q, 0, none⟩)) rfl (by kernel_rfl) (by kernel_rfl) (by kernel_rfl) (fun _ _ _ h => h) (.inl ⟨rfl, fun w _ => rfl⟩) hS0 ?_
    simp only [Act.put, List.getElem_toArray, List.getElem_cons_zero, List.getElem_cons_succ, List.setIfInBounds_toArray, List.set_cons_zero, List.set_cons_succ]
    refine wpAnyH_take (i := 3) (v := .pointer (some ⟨q, 0, none⟩)) rfl (by kernel_rfl) (by kernel_rfl) (by kernel_rfl) (fun _ _ _ h => h) (.inl ⟨rfl, fun w _ => rfl⟩) hS0 ?_
    simp only [Act.put, List.getElem_toArray, List.getElem_cons_zero, List.getElem_cons_succ, List.setIfInBounds_toArray, List.set_cons_zero, List.set_cons_succ]
    refine wpAnyH_take (i := 4) (v := .pointer (some ⟨q, 1, none⟩)) rfl (by kernel_rfl) (by kernel_rfl) (by kernel_rfl) (fun _ _ _ h => h) (.inl ⟨rfl, fun w _ => rfl⟩) hS0 ?_
    simp only [Act.put, List.getElem_toArray, List.getElem_cons_zero, List.getElem_cons_succ, List.setIfInBounds_toArray, List.set_cons_zero, List.set_cons_succ]
    refine wpAnyH_take (i := 5) (v := .slice ua N uc) rfl (by kernel_rfl) (by kernel_rfl) (by kernel_rfl) (fun _ _ _ h => h) (Held.load1 rfl 28 (.tmp 56) rfl q 1 rfl _ _ (fun u hu => CU.out u hu) Try.underlying28 rfl) hS0 ?_
    simp only [Act.put, List.getElem_toArray, List.getElem_cons_zero, List.getElem_cons_succ, List.setIfInBounds_toArray, List.set_cons_zero, List.set_cons_succ]
    refine wpAnyH_take (i := 6) (v := .int .i64 (N : Nat)) rfl (by kernel_rfl) (by kernel_rfl) (by kernel_rfl) (fun _ _ _ h => h) (.inl ⟨rfl, fun w _ => by simp [execOp, resolve, invoke, builtin, go_sem]⟩) hS0 ?_
    simp only [Act.put, List.getElem_toArray, List.getElem_cons_zero, List.getElem_cons_succ, List.setIfInBounds_toArray, List.set_cons_zero, List.set_cons_succ]
    have cx := CL.out u0 hS0
    refine wpAnyH_all (rs := [1]) (by kernel_rfl) (by simp) ?_
    intro i hi
    obtain rfl := List.mem_singleton.1 hi
    refine Reg.wpOp_list rfl ?_
    go_wp2_with fail
    refine cx.mono ?_
    rintro e u1 ⟨rfl, k1⟩
    go_wp2_with fail
    change _ ∧ _
    have hS1 : Below w4.heap.size w4 u1 := hS0.trans (k1.mono hS0.size)
    refine ⟨hS1, ?_⟩
    clear cx
    refine wpAnyH_all (rs := [7]) (by kernel_rfl) (by simp) ?_
    intro i hi
    obtain rfl := List.mem_singleton.1 hi
    refine Reg.wpOp_list rfl ?_
    go_wp2_with fail
    change _ ∧ _
    refine ⟨hS1, ?_⟩
    refine wpAnyH_all (rs := [8]) (by kernel_rfl) (by simp) ?_
    intro i hi
    obtain rfl := List.mem_singleton.1 hi
    refine Reg.wpOp_list rfl ?_
    go_wp2_with fail
    change _ ∧ _
    refine ⟨hS1, ?_⟩
    refine wpAnyH_take (i := 9) (v := .pointer (some ⟨p, 0, none⟩)) rfl (by kernel_rfl) (by kernel_rfl) (by kernel_rfl) (fun _ _ _ h => h) (.inl ⟨rfl, fun w _ => rfl⟩) hS1 ?_
    simp only [Act.put, List.getElem_toArray, List.getElem_cons_zero, List.getElem_cons_succ, List.setIfInBounds_toArray, List.set_cons_zero, List.set_cons_succ]
    refine wpAnyH_take (i := 10) (v := .slice ma M mcap) rfl (by kernel_rfl) (by kernel_rfl) (by kernel_rfl) (fun _ _ _ h => h) (.inl ⟨rfl, fun w _ => rfl⟩) hS1 ?_
    simp only [Act.put, List.getElem_toArray, List.getElem_cons_zero, List.getElem_cons_succ, List.setIfInBounds_toArray, List.set_cons_zero, List.set_cons_succ]
    refine wpAnyH_take (i := 12) (v := .pointer (some ⟨q, 0, none⟩)) rfl (by kernel_rfl) (by kernel_rfl) (by kernel_rfl) (fun _ _ _ h => h) (.inl ⟨rfl, fun w _ => rfl⟩) hS1 ?_
    simp only [Act.put, List.getElem_toArray, List.getElem_cons_zero, List.getElem_cons_succ, List.setIfInBounds_toArray, List.set_cons_zero, List.set_cons_succ]
    refine wpAnyH_take (i := 13) (v := .slice ma M mcap) rfl (by kernel_rfl) (by kernel_rfl) (by kernel_rfl) (fun _ _ _ h => h) (.inl ⟨rfl, fun w _ => rfl⟩) hS1 ?_
    simp only [Act.put, List.getElem_toArray, List.getElem_cons_zero, List.getElem_cons_succ, List.setIfInBounds_toArray, List.set_cons_zero, List.set_cons_succ]
    have cx := CH.out u1 hS1
    refine wpAnyH_all (rs := [11]) (by kernel_rfl) (by simp) ?_
    intro i hi
    obtain rfl := List.mem_singleton.1 hi
    refine Reg.wpOp_list rfl ?_
    go_wp2_with fail
    refine cx.mono ?_
    rintro e u2 ⟨rfl, k2⟩
    go_wp2_with fail
    change _ ∧ _
    have hS2 : Below w4.heap.size w4 u2 := hS1.trans (k2.mono hS1.size)
    refine ⟨hS2, ?_⟩
    clear cx
    have cx := CQ.out u2 hS2
    refine wpAnyH_all (rs := [14]) (by kernel_rfl) (by simp) ?_
    intro i hi
    obtain rfl := List.mem_singleton.1 hi
    refine Reg.wpOp_list rfl ?_
    go_wp2_with fail
    refine cx.mono ?_
    rintro e u3 ⟨rfl, k3⟩
    go_wp2_with fail
    change _ ∧ _
    have hS3 : Below w4.heap.size w4 u3 := hS2.trans (k3.mono hS2.size)
    refine ⟨hS3, ?_⟩
    clear cx
    refine wpAnyH_all (rs := [15]) (by kernel_rfl) (by simp) ?_
    intro i hi
    obtain rfl := List.mem_singleton.1 hi
    refine Reg.wpOp_list rfl ?_
    go_wp2_with fail
    change _ ∧ _
    refine ⟨hS3, ?_⟩
    refine wpAnyH_all (rs := [16]) (by kernel_rfl) (by simp) ?_
    intro i hi
    obtain rfl := List.mem_singleton.1 hi
    refine Reg.wpOp_list rfl ?_
    go_wp2_with fail
    change _ ∧ _
    refine ⟨hS3, ?_⟩
    refine wpAnyH_all (rs := [17]) (by kernel_rfl) (by simp) ?_
    intro i hi
    obtain rfl := List.mem_singleton.1 hi
    refine Reg.wpOp_list rfl ?_
    go_wp2_with fail
    change _ ∧ _
    refine ⟨hS3, ?_⟩
    have cx := CA.out u3
    refine wpAnyH_all (rs := [18]) (by kernel_rfl) (by simp) ?_
    intro i hi
    obtain rfl := List.mem_singleton.1 hi
    refine Reg.wpOp_list rfl ?_
    go_wp2_with fail
    refine cx.mono ?_
    rintro e u4 ⟨rfl, k4⟩
    go_wp2_with fail
    change _ ∧ _
    have hS4 : Below w4.heap.size w4 u4 := hS3.trans (k4.mono hS3.size)
    refine ⟨hS4, ?_⟩
    clear cx
    refine wpAnyH_all (rs := [19]) (by kernel_rfl) (by simp) ?_
    intro i hi
    obtain rfl := List.mem_singleton.1 hi
    refine Reg.wpOp_list rfl ?_
    go_wp2_with fail
    change _ ∧ _
    refine ⟨hS4, ?_⟩
    refine wpAnyH_all (rs := [20]) (by kernel_rfl) (by simp) ?_
    intro i hi
    obtain rfl := List.mem_singleton.1 hi
    refine Reg.wpOp_list rfl ?_
    go_wp2_with fail
    change _ ∧ _
    refine ⟨hS4, ?_⟩
    refine wpAnyH_done (by kernel_rfl) ?_ _
    have KF := Lib.hid (K1.out.trans ((KK.out.trans (hS4.mono KK.out.size)).mono K1.out.size))
    generalize u4 = w9 at *
    go_wp2_with fail
    go_ret
    exact ⟨rfl, KF.out⟩
end Cn
end Go.Proofs.Ytlpahomaokopoaa

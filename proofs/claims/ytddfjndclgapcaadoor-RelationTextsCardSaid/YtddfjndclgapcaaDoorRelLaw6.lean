/-
The walk of the law RelationTexts.
-/
import Derived.Test.YtddfjndclgapcaaDoorRelSingles
import Derived.Test.YtddfjndclgapcaaDoorRelWriteP
import Derived.Test.YtddfjndclgapcaaDoorRelJoin
import Derived.Test.YtddfjndclgapcaaDoorRelArgs
import Derived.Lib.SmallJoins
import Derived.OrdersHeld
import Derived.Deep.MidRow
import Derived.Test.YtddfjndclgapcaaDoorReg
namespace Go.Proofs.YtddfjndclgapcaaDoor
open Go.RowKit
set_option linter.unusedSimpArgs false
set_option linter.unusedVariables false
namespace Rl
open Ver (Bs li li_len li_drop S S_self S_of S_size S_li below_drewN empty_is empty_no MaxLen Signs)
set_option maxRecDepth 100000 in
/-- An atom that came in, itself. -/
theorem one_of {H : Type} {enc : TypeId × Value → H} {w : World} {r : Reach} {b0 : Nat} {v : Value} {d : DataW H} {p : List MemPlace} (hv : Value.okWide Tryd.prog w r b0 36 v) (h : DataW.Trod enc Tryd.prog w 0 (fun _ => true) true 36 v d p) (hw : Wt 36 d) :
    ∃ a : At, v = aV a ∧ a.1.length ≤ 140737488351232 ∧ a.2.2.length ≤ 140737488351232 := by
  obtain ⟨v0, v1, v2, y0, y1, y2, n, rfl, rfl, rfl, g0, g1, g2⟩ := Joins.open_agg3 Tryd.underlying36 (by kernel_rfl) (by kernel_rfl) hv h
  obtain ⟨x, rfl, hx⟩ := string_of (d := y0.1) (ps := y0.2) g0 (fun q hq => hw q (by simp [DataW.weights, Tryd.underlying36, DataW.weightsEach, hq]))
  obtain ⟨k, rfl⟩ := int_of (y := y1) g1
  obtain ⟨y, rfl, hy⟩ := string_of (d := y2.1) (ps := y2.2) g2 (fun q hq => hw q (by simp [DataW.weights, Tryd.underlying36, DataW.weightsEach, hq]))
  exact ⟨(x, k, y), rfl, hx, hy⟩
theorem wCl_one (a : At) : wCl [a] = wAt a := by
  unfold wCl wrt
  rw [if_neg (by simp)]
  by_cases h : wAt a = []
  · rw [if_pos (by simp [h]), h]
  · rw [if_neg (by simp [h]), List.map_cons, List.map_nil, Lib.join_one]
theorem text_singles (l : List At) : text (l.map fun a => [a]) = atoms l := by
  unfold text atoms wrt
  rw [List.length_map, List.map_map, List.any_map]
  have e : (wCl ∘ fun a => [a]) = wAt := by
    funext a
    exact wCl_one a
  have e2 : ((fun x => (wCl x).isEmpty) ∘ fun a => [a]) = fun x => (wAt x).isEmpty := by
    funext a
    show (wCl [a]).isEmpty = _
    rw [wCl_one]
  rw [e, e2]
theorem atoms_pvA (l : List Pv) : atoms (l.map pvA) = provs l := by
  unfold atoms provs wrt
  rw [List.length_map, List.map_map, List.any_map]
  rfl
theorem lim_singles {l : List At} (h : LimA l) : LimC (l.map fun a => [a]) := by
  intro c hc
  obtain ⟨a, ha, rfl⟩ := List.mem_map.1 hc
  intro b hb
  rw [List.mem_singleton.1 hb]
  exact h a ha
theorem lim_pvA {l : List Pv} (h : LimP l) : LimA (l.map pvA) := by
  intro c hc
  obtain ⟨a, ha, rfl⟩ := List.mem_map.1 hc
  exact h a ha
set_option maxRecDepth 100000 in
set_option maxHeartbeats 16000000 in
theorem texts_walk (v0 v1 v2 : Value) (one : At) (l : List (List At)) (a : List At) (p : List Pv) (w : World) (hl : Clss w v0 l) (ha : Ats w v1 a) (hp : Pvs w v2 p) (kl : LimC l) (ka : LimA a) (kp : LimP p) (o1 : one.1.length ≤ 140737488351232) (o2 : one.2.2.length ≤ 140737488351232) (hv : Vars w) :
    Calls Tryd.prog 4 #[v0, v1, v2, aV one] w fun e w' => e = .returned (.bool true) ∧ Below w.heap.size w w' := by
  obtain ⟨a0, b0, rfl⟩ := hl.shape
  obtain ⟨a1, b1, rfl⟩ := ha.shape
  obtain ⟨a2, b2, rfl⟩ := hp.shape
  have nl := hl.1
  have na := ha.1
  have np := hp.1
  have HM := Lib.hid (⟨hl, ha, hp⟩ : _ ∧ _ ∧ _)
  have HL := Lib.hid (⟨kl, ka, kp⟩ : _ ∧ _ ∧ _)
  have HV := Lib.hid hv
  have HK := Lib.hid (Below.refl w.heap.size w)
  have cA := fun w hv => atom_any one w (by omega) (by omega) hv
  have cB := fun w => yatom_any one w (by omega) (by omega)
  have cC := fun w hv => mayAtom_any one w (by omega) (by omega) hv
  have cD := fun w => ymayAtom_any one w (by omega) (by omega)
  have hbe : (may one == may one) = true := by simp
  generalize may one = mo at *
  have hce : ((S (wAt one)).toList == (S (wAt one)).toList) = true := beq_self_eq_true _
  generalize S (wAt one) = T1 at *
  unfold aV at cA cB cC cD ⊢
  clear hl ha hp kl ka kp hv o1 o2
  obtain ⟨L, eL⟩ : ∃ L, l.length = L := ⟨_, rfl⟩
  obtain ⟨A, eA⟩ : ∃ A, a.length = A := ⟨_, rfl⟩
  obtain ⟨P, eP⟩ : ∃ P, p.length = P := ⟨_, rfl⟩
  have EL := Lib.hid (⟨eL, eA, eP⟩ : _ ∧ _ ∧ _)
  rw [eL] at nl
  rw [eA] at na
  rw [eP] at np
  rw [eL, eA, eP]
  clear eL eA eP
  have bW : Below w.heap.size w (w.alloc (.cells #[.string (S one.1), .int .i64 one.2.1, .string (S one.2.2)] 36)) := (Below.refl _ _).alloc (Nat.le_refl _) _
  have hI := cells3 (Blk.Is.new w 36 #[.string (S one.1), .int .i64 one.2.1, .string (S one.2.2)])
  have c0 := light_any _ l _ (HM.out.1.below bW)
  rw [EL.out.1] at c0
  obtain ⟨G, hG⟩ : ∃ G, lightB l = G := ⟨_, rfl⟩
  rw [hG] at c0
  clear hG
  have HM1 := Lib.hid (⟨HM.out.1.below bW, HM.out.2.1.below bW, HM.out.2.2.below bW⟩ : _ ∧ _ ∧ _)
  have HV1 := Lib.hid (HV.out.on bW)
  have HK1 := Lib.hid bW
  have HI := Lib.hid hI
  obtain ⟨bb, hbb⟩ : ∃ bb, w.heap.size = bb := ⟨_, rfl⟩
  rw [hbb] at HI
  have HBB := Lib.hid hbb
  clear HM HV HK bW hI
  have HM := HM1
  have HV := HV1
  have HK := HK1
  clear HM1 HV1 HK1
  go_enter Tryd.func4, Tryd.ntmps4
  go_wp2_with fail
  clear hbb
  generalize w.alloc (.cells #[.string (S one.1), .int .i64 one.2.1, .string (S one.2.2)] 36) = W0 at *
  refine c0.mono ?_
  rintro e w1 ⟨rfl, hw1⟩
  subst hw1
  clear c0
  cases G with
  | false =>
    go_wp2_with fail
    refine (awake_any _ HV.out).mono ?_
    rintro e w4 ⟨rfl, k4⟩
    have K4 := tr HK.out k4
    go_wp2_with fail
    go_ret
    exact ⟨rfl, K4⟩
  | true =>
    by_cases hA : 30 < A
    · have hA' : (30 : Int) < A := by omega
      go_wp2_with fail
      refine (awake_any _ HV.out).mono ?_
      rintro e w4 ⟨rfl, k4⟩
      have K4 := tr HK.out k4
      go_wp2_with fail
      go_ret
      exact ⟨rfl, K4⟩
    · have hA' : ¬ (30 : Int) < A := by omega
      by_cases hP : 30 < P
      · have hP' : (30 : Int) < P := by omega
        go_wp2_with fail
        refine (awake_any _ HV.out).mono ?_
        rintro e w4 ⟨rfl, k4⟩
        have K4 := tr HK.out k4
        go_wp2_with fail
        go_ret
        exact ⟨rfl, K4⟩
      · have hP' : ¬ (30 : Int) < P := by omega
        have hAl : a.length ≤ 30 := by rw [EL.out.2.1]; omega
        have hPl : p.length ≤ 30 := by rw [EL.out.2.2]; omega
        have HLEN := Lib.hid (⟨hAl, hPl⟩ : _ ∧ _)
        clear hA hP hAl hPl nl na np
        have hT : ((S (text l)).toList == (S (text l)).toList) = true := beq_self_eq_true _
        have hT2 : ((S (atoms a)).toList == (S (atoms a)).toList) = true := beq_self_eq_true _
        have hT3 : ((S (provs p)).toList == (S (provs p)).toList) = true := beq_self_eq_true _
        have HX := Lib.hid (⟨text_singles a, (text_singles (p.map pvA)).trans (atoms_pvA p)⟩ : _ ∧ _)
        obtain ⟨X1, hX1⟩ : ∃ X, S (text l) = X := ⟨_, rfl⟩
        obtain ⟨X2, hX2⟩ : ∃ X, S (atoms a) = X := ⟨_, rfl⟩
        obtain ⟨X3, hX3⟩ : ∃ X, S (provs p) = X := ⟨_, rfl⟩
        rw [hX1] at hT
        rw [hX2] at hT2
        rw [hX3] at hT3
        have HS := Lib.hid (⟨hX1, hX2, hX3⟩ : _ ∧ _ ∧ _)
        clear hX1 hX2 hX3
        have hca : ∀ u, Below w1.heap.size w1 u → Calls Tryd.prog 27 #[.agg #[.string (S one.1), .int .i64 one.2.1, .string (S one.2.2)]] u fun e w' => e = .returned (.string T1) ∧ Below u.heap.size u w' := fun u hu => cA u (HV.out.on hu)
        have hcc : ∀ u, Below w1.heap.size w1 u → Calls Tryd.prog 29 #[.agg #[.string (S one.1), .int .i64 one.2.1, .string (S one.2.2)]] u fun e w' => e = .returned (.bool mo) ∧ Below u.heap.size u w' := fun u hu => cC u (HV.out.on hu)
        have km : ∀ u, Below w1.heap.size w1 u → u.rangeAt bb 0 [.string (S one.1), .int .i64 one.2.1, .string (S one.2.2)] := fun u hu j v hv => by
          rw [Nat.zero_add]
          match j, hv with
          | 0, hv => cases hv; exact cell_on HI.out.1 hu
          | 1, hv => cases hv; exact cell_on HI.out.2.1 hu
          | 2, hv => cases hv; exact cell_on HI.out.2.2 hu
        have z0 : (Tryd.prog.info? 36).map (·.size) = some 3 := by kernel_rfl
        have HCA := Lib.hid hca
        have HCC := Lib.hid hcc
        have HCB := Lib.hid cB
        have HCD := Lib.hid cD
        have HKM := Lib.hid km
        have HZ0 := Lib.hid z0
        clear hca hcc cA cC cB cD km z0
        go_wp2_with fail
        refine wp_region_held (S := fun u => Below w1.heap.size w1 u) (by kernel_rfl) ?_
        have hS0 : Below w1.heap.size w1 w1.drew := (Below.refl _ _).drew
        change wpAnyH _ _ _ _ _ 40 _ _ w1.drew
        generalize w1.drew = u0 at *
        refine wpAnyH_take (i := 0) (v := .slice a0 L b0) rfl (by kernel_rfl) (by kernel_rfl) (by kernel_rfl) (fun _ _ _ h => h) (.inl ⟨rfl, fun w _ => rfl⟩) hS0 ?_
        simp only [Act.put, List.getElem_toArray, List.getElem_cons_zero, List.getElem_cons_succ, List.setIfInBounds_toArray, List.set_cons_zero, List.set_cons_succ]
        refine wpAnyH_take (i := 2) (v := .slice a0 L b0) rfl (by kernel_rfl) (by kernel_rfl) (by kernel_rfl) (fun _ _ _ h => h) (.inl ⟨rfl, fun w _ => rfl⟩) hS0 ?_
        simp only [Act.put, List.getElem_toArray, List.getElem_cons_zero, List.getElem_cons_succ, List.setIfInBounds_toArray, List.set_cons_zero, List.set_cons_succ]
        have cx := Text_any _ l u0 (HM.out.1.below hS0) HL.out.1 (HV.out.on hS0)
        rw [EL.out.1, HS.out.1] at cx
        refine wpAnyH_all (rs := [1]) (by kernel_rfl) (by simp) ?_
        intro i hi
        obtain rfl := List.mem_singleton.1 hi
        refine Reg.wpOp_list rfl ?_
        go_wp2_with fail
        refine cx.mono ?_
        rintro e u1 ⟨rfl, k1⟩
        go_wp2_with fail
        change _ ∧ _
        have hS1 : Below w1.heap.size w1 u1 := hS0.trans (k1.mono hS0.size)
        refine ⟨hS1, ?_⟩
        clear cx
        have cx := ytext_any _ l u1 (HM.out.1.below hS1) HL.out.1
        rw [EL.out.1, HS.out.1] at cx
        refine wpAnyH_all (rs := [3]) (by kernel_rfl) (by simp) ?_
        intro i hi
        obtain rfl := List.mem_singleton.1 hi
        refine Reg.wpOp_list rfl ?_
        go_wp2_with fail
        refine cx.mono ?_
        rintro e u2 ⟨rfl, k2⟩
        go_wp2_with fail
        change _ ∧ _
        have hS2 : Below w1.heap.size w1 u2 := hS1.trans (k2.mono hS1.size)
        refine ⟨hS2, ?_⟩
        clear cx
        refine wpAnyH_all (rs := [4]) (by kernel_rfl) (by simp) ?_
        intro i hi
        obtain rfl := List.mem_singleton.1 hi
        refine Reg.wpOp_list rfl ?_
        go_wp2_with fail
        change _ ∧ _
        refine ⟨hS2, ?_⟩
        refine wpAnyH_all (rs := [5]) (by kernel_rfl) (by simp) ?_
        intro i hi
        obtain rfl := List.mem_singleton.1 hi
        refine Reg.wpOp_list rfl ?_
        go_wp2_with fail
        change _ ∧ _
        refine ⟨hS2, ?_⟩
        refine wpAnyH_take (i := 6) (v := .slice a1 A b1) rfl (by kernel_rfl) (by kernel_rfl) (by kernel_rfl) (fun _ _ _ h => h) (.inl ⟨rfl, fun w _ => rfl⟩) hS2 ?_
        simp only [Act.put, List.getElem_toArray, List.getElem_cons_zero, List.getElem_cons_succ, List.setIfInBounds_toArray, List.set_cons_zero, List.set_cons_succ]
        refine wpAnyH_take (i := 8) (v := .slice a1 A b1) rfl (by kernel_rfl) (by kernel_rfl) (by kernel_rfl) (fun _ _ _ h => h) (.inl ⟨rfl, fun w _ => rfl⟩) hS2 ?_
        simp only [Act.put, List.getElem_toArray, List.getElem_cons_zero, List.getElem_cons_succ, List.setIfInBounds_toArray, List.set_cons_zero, List.set_cons_succ]
        have cx := Atoms_any _ a u2 (HM.out.2.1.below hS2) HL.out.2.1 (HV.out.on hS2)
        rw [EL.out.2.1, HS.out.2.1] at cx
        refine wpAnyH_all (rs := [7]) (by kernel_rfl) (by simp) ?_
        intro i hi
        obtain rfl := List.mem_singleton.1 hi
        refine Reg.wpOp_list rfl ?_
        go_wp2_with fail
        refine cx.mono ?_
        rintro e u3 ⟨rfl, k3⟩
        go_wp2_with fail
        change _ ∧ _
        have hS3 : Below w1.heap.size w1 u3 := hS2.trans (k3.mono hS2.size)
        refine ⟨hS3, ?_⟩
        clear cx
        have cx := singles_any _ a u3 (HM.out.2.1.below hS3) HLEN.out.1
        rw [EL.out.2.1] at cx
        refine wpAnyH_all (rs := [9]) (by kernel_rfl) (by simp) ?_
        intro i hi
        obtain rfl := List.mem_singleton.1 hi
        refine Reg.wpOp_list rfl ?_
        go_wp2_with fail
        refine cx.mono ?_
        rintro e u4 ⟨v4, rfl, h4, k4⟩
        go_wp2_with fail
        change _ ∧ _
        have hS4 : Below w1.heap.size w1 u4 := hS3.trans (k4.mono hS3.size)
        refine ⟨hS4, ?_⟩
        clear cx
        have cx := ytext_any _ _ u4 h4 (lim_singles HL.out.2.1)
        rw [HX.out.1, HS.out.2.1] at cx
        refine wpAnyH_all (rs := [10]) (by kernel_rfl) (by simp) ?_
        intro i hi
        obtain rfl := List.mem_singleton.1 hi
        refine Reg.wpOp_list rfl ?_
        go_wp2_with fail
        refine cx.mono ?_
        rintro e u5 ⟨rfl, k5⟩
        go_wp2_with fail
        change _ ∧ _
        have hS5 : Below w1.heap.size w1 u5 := hS4.trans (k5.mono hS4.size)
        refine ⟨hS5, ?_⟩
        clear cx
        clear h4
        refine wpAnyH_all (rs := [11]) (by kernel_rfl) (by simp) ?_
        intro i hi
        obtain rfl := List.mem_singleton.1 hi
        refine Reg.wpOp_list rfl ?_
        go_wp2_with fail
        change _ ∧ _
        refine ⟨hS5, ?_⟩
        refine wpAnyH_all (rs := [12]) (by kernel_rfl) (by simp) ?_
        intro i hi
        obtain rfl := List.mem_singleton.1 hi
        refine Reg.wpOp_list rfl ?_
        go_wp2_with fail
        change _ ∧ _
        refine ⟨hS5, ?_⟩
        refine wpAnyH_all (rs := [13]) (by kernel_rfl) (by simp) ?_
        intro i hi
        obtain rfl := List.mem_singleton.1 hi
        refine Reg.wpOp_list rfl ?_
        go_wp2_with fail
        change _ ∧ _
        refine ⟨hS5, ?_⟩
        refine wpAnyH_take (i := 14) (v := .slice a2 P b2) rfl (by kernel_rfl) (by kernel_rfl) (by kernel_rfl) (fun _ _ _ h => h) (.inl ⟨rfl, fun w _ => rfl⟩) hS5 ?_
        simp only [Act.put, List.getElem_toArray, List.getElem_cons_zero, List.getElem_cons_succ, List.setIfInBounds_toArray, List.set_cons_zero, List.set_cons_succ]
        refine wpAnyH_take (i := 16) (v := .slice a2 P b2) rfl (by kernel_rfl) (by kernel_rfl) (by kernel_rfl) (fun _ _ _ h => h) (.inl ⟨rfl, fun w _ => rfl⟩) hS5 ?_
        simp only [Act.put, List.getElem_toArray, List.getElem_cons_zero, List.getElem_cons_succ, List.setIfInBounds_toArray, List.set_cons_zero, List.set_cons_succ]
        have cx := Provides_any _ p u5 (HM.out.2.2.below hS5) HL.out.2.2 (HV.out.on hS5)
        rw [EL.out.2.2, HS.out.2.2] at cx
        refine wpAnyH_all (rs := [15]) (by kernel_rfl) (by simp) ?_
        intro i hi
        obtain rfl := List.mem_singleton.1 hi
        refine Reg.wpOp_list rfl ?_
        go_wp2_with fail
        refine cx.mono ?_
        rintro e u6 ⟨rfl, k6⟩
        go_wp2_with fail
        change _ ∧ _
        have hS6 : Below w1.heap.size w1 u6 := hS5.trans (k6.mono hS5.size)
        refine ⟨hS6, ?_⟩
        clear cx
        have cx := provided_any _ p u6 (HM.out.2.2.below hS6) HLEN.out.2
        rw [EL.out.2.2] at cx
        refine wpAnyH_all (rs := [17]) (by kernel_rfl) (by simp) ?_
        intro i hi
        obtain rfl := List.mem_singleton.1 hi
        refine Reg.wpOp_list rfl ?_
        go_wp2_with fail
        refine cx.mono ?_
        rintro e u7 ⟨v7, rfl, h7, k7⟩
        go_wp2_with fail
        change _ ∧ _
        have hS7 : Below w1.heap.size w1 u7 := hS6.trans (k7.mono hS6.size)
        refine ⟨hS7, ?_⟩
        clear cx
        have cx := singles_any _ _ u7 h7 (by rw [List.length_map]; exact HLEN.out.2)
        refine wpAnyH_all (rs := [18]) (by kernel_rfl) (by simp) ?_
        intro i hi
        obtain rfl := List.mem_singleton.1 hi
        refine Reg.wpOp_list rfl ?_
        go_wp2_with fail
        refine cx.mono ?_
        rintro e u8 ⟨v8, rfl, h8, k8⟩
        go_wp2_with fail
        change _ ∧ _
        have hS8 : Below w1.heap.size w1 u8 := hS7.trans (k8.mono hS7.size)
        refine ⟨hS8, ?_⟩
        clear cx
        have cx := ytext_any _ _ u8 h8 (lim_singles (lim_pvA HL.out.2.2))
        rw [HX.out.2, HS.out.2.2] at cx
        refine wpAnyH_all (rs := [19]) (by kernel_rfl) (by simp) ?_
        intro i hi
        obtain rfl := List.mem_singleton.1 hi
        refine Reg.wpOp_list rfl ?_
        go_wp2_with fail
        refine cx.mono ?_
        rintro e u9 ⟨rfl, k9⟩
        go_wp2_with fail
        change _ ∧ _
        have hS9 : Below w1.heap.size w1 u9 := hS8.trans (k9.mono hS8.size)
        refine ⟨hS9, ?_⟩
        clear cx
        clear h7 h8
        refine wpAnyH_all (rs := [20]) (by kernel_rfl) (by simp) ?_
        intro i hi
        obtain rfl := List.mem_singleton.1 hi
        refine Reg.wpOp_list rfl ?_
        go_wp2_with fail
        change _ ∧ _
        refine ⟨hS9, ?_⟩
        refine wpAnyH_all (rs := [21]) (by kernel_rfl) (by simp) ?_
        intro i hi
        obtain rfl := List.mem_singleton.1 hi
        refine Reg.wpOp_list rfl ?_
        go_wp2_with fail
        change _ ∧ _
        refine ⟨hS9, ?_⟩
        refine wpAnyH_all (rs := [22]) (by kernel_rfl) (by simp) ?_
        intro i hi
        obtain rfl := List.mem_singleton.1 hi
        refine Reg.wpOp_list rfl ?_
        go_wp2_with fail
        change _ ∧ _
        refine ⟨hS9, ?_⟩
        refine wpAnyH_take (i := 23) (v := .agg [.string (S one.1), .int .i64 one.2.1, .string (S one.2.2)].toArray) rfl (by kernel_rfl) (by kernel_rfl) (by kernel_rfl) (fun _ _ _ h => h) (yieldsIf_load_mid rfl 36 (.tmp 7) rfl bb 0 rfl _ _ HKM.out Tryd.underlying36 rfl HZ0.out) hS9 ?_
        simp only [Act.put, List.getElem_toArray, List.getElem_cons_zero, List.getElem_cons_succ, List.setIfInBounds_toArray, List.set_cons_zero, List.set_cons_succ]
        refine wpAnyH_take (i := 25) (v := .agg [.string (S one.1), .int .i64 one.2.1, .string (S one.2.2)].toArray) rfl (by kernel_rfl) (by kernel_rfl) (by kernel_rfl) (fun _ _ _ h => h) (yieldsIf_load_mid rfl 36 (.tmp 7) rfl bb 0 rfl _ _ HKM.out Tryd.underlying36 rfl HZ0.out) hS9 ?_
        simp only [Act.put, List.getElem_toArray, List.getElem_cons_zero, List.getElem_cons_succ, List.setIfInBounds_toArray, List.set_cons_zero, List.set_cons_succ]
        have cx := HCA.out u9 hS9
        refine wpAnyH_all (rs := [24]) (by kernel_rfl) (by simp) ?_
        intro i hi
        obtain rfl := List.mem_singleton.1 hi
        refine Reg.wpOp_list rfl ?_
        go_wp2_with fail
        refine cx.mono ?_
        rintro e u10 ⟨rfl, k10⟩
        go_wp2_with fail
        change _ ∧ _
        have hS10 : Below w1.heap.size w1 u10 := hS9.trans (k10.mono hS9.size)
        refine ⟨hS10, ?_⟩
        clear cx
        have cx := HCB.out u10
        refine wpAnyH_all (rs := [26]) (by kernel_rfl) (by simp) ?_
        intro i hi
        obtain rfl := List.mem_singleton.1 hi
        refine Reg.wpOp_list rfl ?_
        go_wp2_with fail
        refine cx.mono ?_
        rintro e u11 ⟨rfl, k11⟩
        go_wp2_with fail
        change _ ∧ _
        have hS11 : Below w1.heap.size w1 u11 := hS10.trans (k11.mono hS10.size)
        refine ⟨hS11, ?_⟩
        clear cx
        refine wpAnyH_all (rs := [27]) (by kernel_rfl) (by simp) ?_
        intro i hi
        obtain rfl := List.mem_singleton.1 hi
        refine Reg.wpOp_list rfl ?_
        go_wp2_with fail
        change _ ∧ _
        refine ⟨hS11, ?_⟩
        refine wpAnyH_all (rs := [28]) (by kernel_rfl) (by simp) ?_
        intro i hi
        obtain rfl := List.mem_singleton.1 hi
        refine Reg.wpOp_list rfl ?_
        go_wp2_with fail
        change _ ∧ _
        refine ⟨hS11, ?_⟩
        refine wpAnyH_all (rs := [29]) (by kernel_rfl) (by simp) ?_
        intro i hi
        obtain rfl := List.mem_singleton.1 hi
        refine Reg.wpOp_list rfl ?_
        go_wp2_with fail
        change _ ∧ _
        refine ⟨hS11, ?_⟩
        refine wpAnyH_take (i := 30) (v := .agg [.string (S one.1), .int .i64 one.2.1, .string (S one.2.2)].toArray) rfl (by kernel_rfl) (by kernel_rfl) (by kernel_rfl) (fun _ _ _ h => h) (yieldsIf_load_mid rfl 36 (.tmp 7) rfl bb 0 rfl _ _ HKM.out Tryd.underlying36 rfl HZ0.out) hS11 ?_
        simp only [Act.put, List.getElem_toArray, List.getElem_cons_zero, List.getElem_cons_succ, List.setIfInBounds_toArray, List.set_cons_zero, List.set_cons_succ]
        refine wpAnyH_take (i := 32) (v := .agg [.string (S one.1), .int .i64 one.2.1, .string (S one.2.2)].toArray) rfl (by kernel_rfl) (by kernel_rfl) (by kernel_rfl) (fun _ _ _ h => h) (yieldsIf_load_mid rfl 36 (.tmp 7) rfl bb 0 rfl _ _ HKM.out Tryd.underlying36 rfl HZ0.out) hS11 ?_
        simp only [Act.put, List.getElem_toArray, List.getElem_cons_zero, List.getElem_cons_succ, List.setIfInBounds_toArray, List.set_cons_zero, List.set_cons_succ]
        have cx := HCC.out u11 hS11
        refine wpAnyH_all (rs := [31]) (by kernel_rfl) (by simp) ?_
        intro i hi
        obtain rfl := List.mem_singleton.1 hi
        refine Reg.wpOp_list rfl ?_
        go_wp2_with fail
        refine cx.mono ?_
        rintro e u12 ⟨rfl, k12⟩
        go_wp2_with fail
        change _ ∧ _
        have hS12 : Below w1.heap.size w1 u12 := hS11.trans (k12.mono hS11.size)
        refine ⟨hS12, ?_⟩
        clear cx
        have cx := HCD.out u12
        refine wpAnyH_all (rs := [33]) (by kernel_rfl) (by simp) ?_
        intro i hi
        obtain rfl := List.mem_singleton.1 hi
        refine Reg.wpOp_list rfl ?_
        go_wp2_with fail
        refine cx.mono ?_
        rintro e u13 ⟨rfl, k13⟩
        go_wp2_with fail
        change _ ∧ _
        have hS13 : Below w1.heap.size w1 u13 := hS12.trans (k13.mono hS12.size)
        refine ⟨hS13, ?_⟩
        clear cx
        refine wpAnyH_all (rs := [34]) (by kernel_rfl) (by simp) ?_
        intro i hi
        obtain rfl := List.mem_singleton.1 hi
        refine Reg.wpOp_list rfl ?_
        go_wp2_with fail
        change _ ∧ _
        refine ⟨hS13, ?_⟩
        refine wpAnyH_all (rs := [35]) (by kernel_rfl) (by simp) ?_
        intro i hi
        obtain rfl := List.mem_singleton.1 hi
        refine Reg.wpOp_list rfl ?_
        go_wp2_with fail
        change _ ∧ _
        refine ⟨hS13, ?_⟩
        refine wpAnyH_all (rs := [36]) (by kernel_rfl) (by simp) ?_
        intro i hi
        obtain rfl := List.mem_singleton.1 hi
        refine Reg.wpOp_list rfl ?_
        go_wp2_with fail
        change _ ∧ _
        refine ⟨hS13, ?_⟩
        have cx := awake_any u13 (HV.out.on hS13)
        refine wpAnyH_all (rs := [37]) (by kernel_rfl) (by simp) ?_
        intro i hi
        obtain rfl := List.mem_singleton.1 hi
        refine Reg.wpOp_list rfl ?_
        go_wp2_with fail
        refine cx.mono ?_
        rintro e u14 ⟨rfl, k14⟩
        go_wp2_with fail
        change _ ∧ _
        have hS14 : Below w1.heap.size w1 u14 := hS13.trans (k14.mono hS13.size)
        refine ⟨hS14, ?_⟩
        clear cx
        refine wpAnyH_all (rs := [38]) (by kernel_rfl) (by simp) ?_
        intro i hi
        obtain rfl := List.mem_singleton.1 hi
        refine Reg.wpOp_list rfl ?_
        go_wp2_with fail
        change _ ∧ _
        refine ⟨hS14, ?_⟩
        refine wpAnyH_all (rs := [39]) (by kernel_rfl) (by simp) ?_
        intro i hi
        obtain rfl := List.mem_singleton.1 hi
        refine Reg.wpOp_list rfl ?_
        go_wp2_with fail
        change _ ∧ _
        refine ⟨hS14, ?_⟩
        refine wpAnyH_done (by kernel_rfl) ?_ _
        have K4 := tr HK.out hS14
        go_wp2_with fail
        go_ret
        exact ⟨rfl, K4⟩
end Rl
end Go.Proofs.YtddfjndclgapcaaDoor

/-
The walk of the law RelationJoins.
-/
import Derived.Test.YtddfjndclgapcaaDoorRelBits
import Derived.Test.YtddfjndclgapcaaDoorRelWriteP
import Derived.Test.YtddfjndclgapcaaDoorRelLight
import Derived.Test.YtddfjndclgapcaaDoorRelJoin
import Derived.Laws.Concat
namespace Go.Proofs.YtddfjndclgapcaaDoor
open Go.RowKit
set_option linter.unusedSimpArgs false
set_option linter.unusedVariables false
namespace Rl
open Ver (Bs li li_len li_drop S S_self S_of S_size S_li below_drewN empty_is empty_no MaxLen Signs)
set_option maxRecDepth 100000 in
set_option maxHeartbeats 16000000 in
theorem joins_walk (v0 v1 : Value) (l m : List (List At)) (w : World) (hl : Clss w v0 l) (hm : Clss w v1 m) (kl : LimC l) (km : LimC m) (hv : Vars w) :
    Calls Tryd.prog 8 #[v0, v1] w fun e w' => e = .returned (.bool true) ∧ Below w.heap.size w w' := by
  obtain ⟨a0, b0, rfl⟩ := hl.shape
  obtain ⟨a1, b1, rfl⟩ := hm.shape
  have c0 := light_any _ l w hl
  have c1 := light_any _ m w hm
  have HM := Lib.hid (⟨hl, hm⟩ : _ ∧ _)
  have HL := Lib.hid (⟨kl, km⟩ : _ ∧ _)
  have HV := Lib.hid hv
  have HK := Lib.hid (Below.refl w.heap.size w)
  clear hl hm kl km hv
  obtain ⟨L, eL⟩ : ∃ L, l.length = L := ⟨_, rfl⟩
  obtain ⟨M, eM⟩ : ∃ M, m.length = M := ⟨_, rfl⟩
  have EL := Lib.hid (⟨eL, eM⟩ : _ ∧ _)
  rw [eL] at c0
  rw [eM] at c1
  rw [eL, eM]
  clear eL eM
  obtain ⟨G, hG⟩ : ∃ G, lightB l = G := ⟨_, rfl⟩
  rw [hG] at c0
  clear hG
  obtain ⟨G1, hG⟩ : ∃ G, lightB m = G := ⟨_, rfl⟩
  rw [hG] at c1
  clear hG
  obtain ⟨w0, hw0⟩ : ∃ w0, w = w0 := ⟨_, rfl⟩
  have HW := Lib.hid hw0
  clear hw0
  go_enter Tryd.func8, Tryd.ntmps8
  go_wp2_with fail
  refine c0.mono ?_
  rintro e w1 ⟨rfl, hw1⟩
  subst hw1
  clear c0
  cases G with
  | false =>
    go_wp2_with fail
    refine (awake_any _ HV.out).mono ?_
    rintro e w4 ⟨rfl, k4⟩
    have K4 := tr HK.out k4
    go_wp2_with fail
    go_ret
    exact ⟨rfl, K4⟩
  | true =>
  go_wp2_with fail
  refine c1.mono ?_
  rintro e w1 ⟨rfl, hw1⟩
  subst hw1
  clear c1
  cases G1 with
  | false =>
    go_wp2_with fail
    refine (awake_any _ HV.out).mono ?_
    rintro e w4 ⟨rfl, k4⟩
    have K4 := tr HK.out k4
    go_wp2_with fail
    go_ret
    exact ⟨rfl, K4⟩
  | true =>
  have c2 := Text_any _ l _ HM.out.1 HL.out.1 HV.out
  rw [EL.out.1] at c2
  go_wp2_with fail
  refine c2.mono ?_
  rintro e w2 ⟨rfl, k2⟩
  have HM2 := Lib.hid (⟨HM.out.1.below k2, HM.out.2.below k2⟩ : _ ∧ _)
  have HV2 := Lib.hid (HV.out.on k2)
  have HK2 := Lib.hid (tr HK.out k2)
  clear c2 HM HV HK k2
  have c3 := Text_any _ m _ HM2.out.2 HL.out.2 HV2.out
  rw [EL.out.2] at c3
  go_wp2_with fail
  refine c3.mono ?_
  rintro e w3 ⟨rfl, k3⟩
  have HM := Lib.hid (⟨HM2.out.1.below k3, HM2.out.2.below k3⟩ : _ ∧ _)
  have HV := Lib.hid (HV2.out.on k3)
  have HK := Lib.hid (tr HK2.out k3)
  clear c3 HM2 HV2 HK2 k3
  by_cases hx : text l = []
  · have he := S_none hx
    generalize S (text l) = X at *
    go_wp2_with fail
    refine (awake_any _ HV.out).mono ?_
    rintro e w4 ⟨rfl, k4⟩
    have K4 := tr HK.out k4
    go_wp2_with fail
    go_ret
    exact ⟨rfl, K4⟩
  by_cases hy : text m = []
  · have he := S_some hx
    have he2 := S_none hy
    generalize S (text l) = X at *
    generalize S (text m) = Y at *
    go_wp2_with fail
    refine (awake_any _ HV.out).mono ?_
    rintro e w4 ⟨rfl, k4⟩
    have K4 := tr HK.out k4
    go_wp2_with fail
    go_ret
    exact ⟨rfl, K4⟩
  have he := S_some hx
  have he2 := S_some hy
  have z1 := text_sz l
  have z2 := text_sz m
  have hL : L ≤ 12 := by rw [← EL.out.1]; exact (wrt_ne hx).2.1
  have hM : M ≤ 12 := by rw [← EL.out.2]; exact (wrt_ne hy).2.1
  by_cases hs : L + M ≤ 12
  case neg =>
    have cp := jParseMany l m _ hx hy (by rw [EL.out.1, EL.out.2]; exact hs) HV.out
    have hs' : ¬ (L : Int) + M ≤ 12 := by omega
    generalize S (text l) = X at *
    generalize S (text m) = Y at *
    have e1 := fun w => run_string_add_sum (P := Tryd.prog) w X ⟨#[44]⟩ (by simp only [c44, maxLen]; omega)
    have e2 := fun w => run_string_add_sum (P := Tryd.prog) w (X ++ ⟨#[44]⟩) Y (by simp only [ByteArray.size_append, c44, maxLen]; omega)
    clear z1 z2
    go_wp2_with fail
    refine cp.mono ?_
    rintro e w5 ⟨k5, v5, rfl, m5⟩
    have HV2 := Lib.hid (HV.out.on k5)
    have HK2 := Lib.hid (tr HK.out k5)
    clear k5 cp m5 HV HK HM
    go_wp2_with fail
    refine (awake_any _ HV2.out).mono ?_
    rintro e w4 ⟨rfl, k4⟩
    have K4 := tr HK2.out k4
    go_wp2_with fail
    go_ret
    exact ⟨rfl, K4⟩
  have cp := jParse l m _ hx hy (by rw [EL.out.1, EL.out.2]; exact hs) HV.out
  have hs' : (L : Int) + M ≤ 12 := by omega
  generalize S (text l) = X at *
  generalize S (text m) = Y at *
  have e1 := fun w => run_string_add_sum (P := Tryd.prog) w X ⟨#[44]⟩ (by simp only [c44, maxLen]; omega)
  have e2 := fun w => run_string_add_sum (P := Tryd.prog) w (X ++ ⟨#[44]⟩) Y (by simp only [ByteArray.size_append, c44, maxLen]; omega)
  clear z1 z2
  go_wp2_with fail
  refine cp.mono ?_
  rintro e w5 ⟨k5, v5, rfl, m5⟩
  have HV2 := Lib.hid (HV.out.on k5)
  have HK2 := Lib.hid (tr HK.out k5)
  have HM2 := Lib.hid (⟨HM.out.1.below k5, HM.out.2.below k5⟩ : _ ∧ _)
  have HC0 := m5
  obtain ⟨a5, b5, e5⟩ := m5.shape
  rw [List.length_append, EL.out.1, EL.out.2] at e5
  subst e5
  have HC := Lib.hid HC0
  clear HC0
  obtain ⟨xs1, q1, src1⟩ := cls_src HM2.out.1
  obtain ⟨xs2, q2, src2⟩ := cls_src HM2.out.2
  rw [EL.out.1] at src1
  rw [EL.out.2] at src2
  have SRC1 := Lib.hid (src1 _ (Below.refl _ _))
  have SRC2 := Lib.hid src2
  have C12 := Lib.hid (q1.app q2)
  have hN12 : L + M ≤ 70000 := by omega
  have hN1 : 0 + L ≤ 70000 := by omega
  have HB := Lib.hid (⟨hx, hy⟩ : _ ∧ _)
  clear k5 cp m5 HV HK HM e1 e2 he he2 q1 q2 src1 src2 HM2 hs hL hM hx hy
  go_wp2_with (at_builtin; refine append_cls_g (by rfl) (.const (.slice none 0 0)) (.tmp 52) rfl w5.heap.size (.slice none 0 0) 0 [] rfl (World.ownsRow_nil _ _ _ 1) _ L xs1 rfl SRC1.out hN1 (Nat.le_refl _) ?_)
  intro vE wE oE gE
  have bE : Below w5.heap.size w5 wE := Own.below_grown (Below.refl _ _) (World.ownsRow_nil _ w5.heap.size 39 1) gE (Nat.le_refl _)
  have oE' : wE.ownsRow w5.heap.size 39 1 vE L xs1 := by simpa using oE
  have OE := Lib.hid oE'
  have SRC := Lib.hid (SRC2.out wE bE)
  have sE2 : w5.heap.size ≤ wE.heap.size := bE.size
  have BE2 := Lib.hid bE
  obtain ⟨aE, cE, rfl, _⟩ := own_shape oE'
  clear oE oE' gE SRC1 SRC2 bE hN1
  go_wp2_with (at_builtin; refine append_cls_g (by rfl) (.tmp 53) (.tmp 54) rfl w5.heap.size _ L xs1 rfl OE.out _ M xs2 rfl SRC.out hN12 sE2 ?_)
  intro vF wF oF gF
  have bF : Below w5.heap.size w5 wF := Own.below_grown BE2.out OE.out gF sE2
  have hF : Clss wF vF (l ++ m) := by
    refine cls_own (B := w5.heap.size) (xs := xs1 ++ xs2) ?_ (C12.out.below bF) (by rw [List.length_append, EL.out.1, EL.out.2]; omega)
    rw [List.length_append, EL.out.1, EL.out.2]
    exact oF
  have cs := sameClauses_any _ vF _ _ wF (HC.out.below bF) hF
  rw [decide_eq_true rfl] at cs
  obtain ⟨aF, cF, eF⟩ := hF.shape
  rw [List.length_append, EL.out.1, EL.out.2] at eF
  subst eF
  have HV := Lib.hid (HV2.out.on bF)
  have HK := Lib.hid (tr HK2.out bF)
  clear oF gF bF OE SRC sE2 BE2 C12 hN12 hF HC
  go_wp2_with fail
  refine cs.mono ?_
  rintro e w6 ⟨rfl, hd6⟩
  have k6 := drewn_below hd6
  have HV2 := Lib.hid (HV.out.on k6)
  have HK2 := Lib.hid (tr HK.out k6)
  clear hd6 k6 cs
  go_wp2_with fail
  refine (awake_any _ HV2.out).mono ?_
  rintro e w4 ⟨rfl, k4⟩
  have K4 := tr HK2.out k4
  go_wp2_with fail
  go_ret
  exact ⟨rfl, K4⟩
end Rl
end Go.Proofs.YtddfjndclgapcaaDoor

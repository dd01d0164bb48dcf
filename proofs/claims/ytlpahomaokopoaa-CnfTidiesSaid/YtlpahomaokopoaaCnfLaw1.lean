/-
CnfTidies: any literals.
-/
import Derived.Test.YtlpahomaokopoaaCnfAwake
import Derived.Test.YtlpahomaokopoaaCnfArgs
namespace Go.Proofs.Ytlpahomaokopoaa
open Go.RowKit
set_option linter.unusedSimpArgs false
set_option linter.unusedVariables false
namespace Cn
set_option maxRecDepth 100000 in
set_option maxHeartbeats 8000000 in
theorem tidies_walk (v : Value) (c : List Int) (w : World) (h : LitV w v c) :
    Calls Try.prog 3 #[v] w fun e w' => e = .returned (.bool true) ∧ Below w.heap.size w w' := by
  have hc9 := h.len
  obtain ⟨a, cap, rfl⟩ := h.shape
  obtain ⟨N, hN⟩ : ∃ N, c.length = N := ⟨_, rfl⟩
  have HN := Lib.hid hN
  rw [hN] at h hc9 ⊢
  have H := Lib.hid h
  clear h hN
  by_cases hlt : 100 < N
  · have g1 : decide ((N : Int) > 100) = true := by simp; omega
    have ca := awake_any w
    clear hlt
    go_enter Try.func3, Try.ntmps3
    go_wp2_with fail
    refine ca.mono ?_
    rintro e w' ⟨rfl, k1⟩
    have K1 := Lib.hid k1
    clear k1 ca
    go_wp2_with fail
    go_ret
    exact ⟨rfl, K1.out⟩
  · have g1 : decide ((N : Int) > 100) = false := by simp; omega
    have ct := tidy_any _ c w H.out (by rw [HN.out]; omega)
    have hN9 : N ≤ 100 := by omega
    clear hlt
    obtain ⟨Gb, hGb⟩ : ∃ Gb, bad c = Gb := ⟨_, rfl⟩
    rw [hGb] at ct
    have HGB := Lib.hid hGb
    clear hGb
    go_enter Try.func3, Try.ntmps3
    go_wp2_with fail
    refine ct.mono ?_
    rintro e w1 ⟨v1, rfl, o1, k1⟩
    have cq := qtidy_any _ c w1 (H.out.below k1) (by rw [HN.out]; omega)
    rw [HGB.out] at cq
    obtain ⟨a1, c1, rfl⟩ := o1.lit.shape
    have O1 := Lib.hid o1
    have K1 := Lib.hid k1
    clear ct o1 k1
    go_wp2_with fail
    refine cq.mono ?_
    rintro e w2 ⟨v2, rfl, o2, k2⟩
    have cs := sameLits_any _ v2 _ _ w2 (O1.out.below k2).lit o2.lit
    rw [decide_eq_true (rfl : tidy c = tidy c)] at cs
    obtain ⟨a2, c2, rfl⟩ := o2.lit.shape
    have K2 := Lib.hid (K1.out.trans (k2.mono K1.out.size))
    have hbb : ((!Gb) == (!Gb)) = true := by simp
    clear cq o2 k2
    go_wp2_with fail
    refine cs.mono ?_
    rintro e w3 ⟨rfl, k3⟩
    have K3 := Lib.hid (K2.out.trans (k3.mono K2.out.size))
    have ca := awake_any w3
    clear cs k3
    go_wp2_with fail
    refine ca.mono ?_
    rintro e w4 ⟨rfl, k4⟩
    have K4 := Lib.hid (K3.out.trans (k4.mono K3.out.size))
    clear ca k4
    go_wp2_with fail
    go_ret
    exact ⟨rfl, K4.out⟩
end Cn
end Go.Proofs.Ytlpahomaokopoaa

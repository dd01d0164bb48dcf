/-
CnfMany: as many clauses as may be, and more.
-/
import Derived.Test.YtlpahomaokopoaaCnfLaw2
namespace Go.Proofs.Ytlpahomaokopoaa
open Go.RowKit
set_option linter.unusedSimpArgs false
set_option linter.unusedVariables false
namespace Cn
theorem many_n (n : Int) : ∃ M : Nat, 4990 ≤ M ∧ M < 5010 ∧ 4990 + (IntKind.u64.wrap n).tmod 20 = (M : Int) := by
  have h1 : 0 ≤ IntKind.u64.wrap n := by simp [IntKind.wrap, IntKind.bits, IntKind.signed]; omega
  obtain ⟨m, hm⟩ : ∃ m : Nat, IntKind.u64.wrap n = (m : Int) := ⟨(IntKind.u64.wrap n).toNat, by omega⟩
  rw [hm]
  have e : (m : Int).tmod 20 = ((m % 20 : Nat) : Int) := IntWalk.up_tmod rfl rfl
  rw [e]
  have := Nat.mod_lt m (show 0 < 20 by omega)
  exact ⟨4990 + m % 20, by omega, by omega, by omega⟩
set_option maxRecDepth 100000 in
set_option maxHeartbeats 8000000 in
theorem many_walk (n : Int) (w : World) : Calls Try.prog 6 #[.int .i64 n] w fun e w' => e = .returned (.bool true) ∧ Below w.heap.size w w' := by
  obtain ⟨M, hM1, hM2, hM4⟩ := many_n n
  have cn := new_any 120 w
  rw [show vars 120 = 120 by decide] at cn
  go_enter Try.func6, Try.ntmps6
  go_wp2_with fail
  refine cn.mono ?_
  rintro e w1 ⟨rfl, hs1, st, k1⟩
  have ST := Lib.hid st
  have K1 := Lib.hid k1
  obtain ⟨sp, hsp⟩ : ∃ sp, w.heap.size = sp := ⟨_, rfl⟩
  have HSP := Lib.hid hsp
  rw [hsp] at ST K1 ⊢
  clear cn st k1 hs1 hsp
  go_wp2_with fail
  clear hM4
  go_loopg [12] M (fun gf s12 wx => ∃ (i : Nat) (v : Value), s12 = .int .i64 i ∧ Hid (CSet wx sp sp v 120 (manyL i)) ∧ Hid (Below sp w wx) ∧ i ≤ M ∧ M ≤ i + gf)
  case atStart => exact ⟨0, _, rfl, ST, K1, by omega, by omega⟩
  case round =>
    obtain ⟨i, v, rfl, HS, HB, hin, hfu⟩ := hrel
    by_cases hlt : i < M
    · obtain ⟨g', rfl⟩ : ∃ g', gk = g' + 1 := ⟨gk - 1, by omega⟩
      have hlt' : (i : Int) < (M : Int) := by omega
      have hi0 : (0 : Int) ≤ i := by omega
      obtain ⟨q, hq⟩ : ∃ q, i % 120 = q := ⟨_, rfl⟩
      have hq9 : q < 120 := by rw [← hq]; exact Nat.mod_lt _ (by omega)
      have htm : (i : Int).tmod 120 = (q : Int) := by rw [← hq]; exact IntWalk.up_tmod rfl rfl
      have hb0 := (Below.refl wr.heap.size wr).alloc (Nat.le_refl _) (.cells #[.int .i64 ((q : Int) + 1)] 45)
      have i0 := Blk.Is.new wr 45 #[.int .i64 ((q : Int) + 1)]
      obtain ⟨W, hW⟩ : ∃ W, wr.alloc (.cells #[.int .i64 ((q : Int) + 1)] 45) = W := ⟨_, rfl⟩
      rw [hW] at hb0 i0
      have hBW := HB.out.trans (hb0.mono (by have := HB.out.size; have := HSP.out; omega))
      have ca := add_any (HS.out.below hb0) (.slice (some ⟨wr.heap.size, 0, none⟩) 1 1) [(q : Int) + 1] (lit_new (l := [(q : Int) + 1]) i0 (by intro z hz; simp at hz; unfold I64; omega) (by simp)) (by simp) (by have := hBW.size; have := HSP.out; omega)
      have e1 : [(q : Int) + 1] = [((i % 120 + 1 : Nat) : Int)] := by rw [hq]; rfl
      rw [e1, manyL_take, manyL_add] at ca
      obtain ⟨D, hD⟩ : ∃ D, decide (i < 5000) = D := ⟨_, rfl⟩
      have hD2 : decide ((i : Int) < 5000) = D := by rw [← hD]; apply decide_eq_decide.2; omega
      rw [hD] at ca
      have hbb : (D != D) = false := by simp
      have LOW := Lib.hid (HS.out.below hb0).mineLow
      have HBW := Lib.hid hBW
      have hu := hW
      clear hq hb0 i0 hW hBW e1 hD HS HB
      go_wp2_with fail
      refine ca.mono ?_
      rintro e w9 ⟨rfl, v9, s9, g9, k9⟩
      have HS9 := Lib.hid s9
      have HB9 := Lib.hid (HBW.out.trans (k9.below (B := sp) (fun k hk => LOW.out k hk) (by have := HBW.out.size; have := HSP.out; omega)))
      clear ca s9 g9 k9 hu htm
      go_wp2_with fail
      go_roundg g'
      case measure => omega
      case rel => exact ⟨i + 1, v9, by go_num, HS9, HB9, by omega, by omega⟩
    · obtain rfl : i = M := by omega
      have hge : ¬ (i : Int) < (i : Int) := by omega
      have cl := len_any HS.out
      rw [manyL_len] at cl
      by_cases h5 : i < 5000
      · have e5 : min i 5000 = i := by omega
        rw [e5] at cl
        have g5 : decide ((i : Int) ≥ 5000) = false := by simp; omega
        have hmn : ∀ (ts : Array TypeId) (t : TypeId) (w : World), (Builtin.min_ ts t #[.int .i64 (i : Int), .int .i64 5000]).run Try.prog w = .ok (.int .i64 (i : Int)) w := fun ts t w => by rw [run_min_int2, if_neg (by omega)]
        have hee : ((i : Int) == (i : Int)) = true := by simp
        clear e5 h5
        go_wp2_with fail
        refine cl.mono ?_
        rintro e w9 ⟨rfl, rfl⟩
        have cw := awake_any w9
        clear cl
        go_wp2_with fail
        refine cw.mono ?_
        rintro e w8 ⟨rfl, k8⟩
        have K8 := Lib.hid (HB.out.trans (k8.mono (by have := HB.out.size; have := HSP.out; omega)))
        clear cw k8
        go_wp2_with fail
        go_ret
        exact ⟨rfl, by rw [HSP.out]; exact K8.out⟩
      · have e5 : min i 5000 = 5000 := by omega
        rw [e5] at cl
        have g5 : decide ((i : Int) ≥ 5000) = true := by simp; omega
        have hmn : ∀ (ts : Array TypeId) (t : TypeId) (w : World), (Builtin.min_ ts t #[.int .i64 (i : Int), .int .i64 5000]).run Try.prog w = .ok (.int .i64 5000) w := fun ts t w => by
          rw [run_min_int2]
          by_cases h : (5000 : Int) < (i : Int)
          · rw [if_pos h]
          · rw [if_neg h, show (i : Int) = 5000 by omega]
        clear e5
        have h5' : 5000 ≤ i := by omega
        clear h5
        go_wp2_with fail
        refine cl.mono ?_
        rintro e w9 ⟨rfl, rfl⟩
        have hb0 := (Below.refl w9.heap.size w9).alloc (Nat.le_refl _) (.cells #[.int .i64 1, .int .i64 2] 45)
        have i0 := Blk.Is.new w9 45 #[.int .i64 1, .int .i64 2]
        obtain ⟨W, hW⟩ : ∃ W, w9.alloc (.cells #[.int .i64 1, .int .i64 2] 45) = W := ⟨_, rfl⟩
        rw [hW] at hb0 i0
        have hBW := HB.out.trans (hb0.mono (by have := HB.out.size; have := HSP.out; omega))
        have HSW := HS.out.below hb0
        have cm := most_any HSW (.slice (some ⟨w9.heap.size, 0, none⟩) 2 2) [1, 2] (lit_new (l := [1, 2]) i0 (by intro z hz; simp at hz; unfold I64; omega) (by simp)) (by simp) (by have := hBW.size; have := HSP.out; omega)
        have hmost : most 120 (manyL i) [1, 2] = (manyL i, false) := by
          unfold most
          rw [if_neg]
          unfold takes
          rw [manyL_len, show min i 5000 = 5000 by omega]
          decide
        rw [hmost] at cm
        have HSW2 := Lib.hid HSW
        have HBW := Lib.hid hBW
        have hu := hW
        clear cl hb0 i0 hW hBW HSW hmost
        go_wp2_with fail
        refine cm.mono ?_
        rintro e w8 ⟨rfl, v8, t8⟩
        have B8 := Lib.hid (HBW.out.trans (t8.low HSW2.out (by have := HBW.out.size; have := HSP.out; omega)))
        have cw := awake_any w8
        clear cm t8 hu
        go_wp2_with fail
        refine cw.mono ?_
        rintro e w7 ⟨rfl, k7⟩
        have K7 := Lib.hid (B8.out.trans (k7.mono (by have := B8.out.size; have := HSP.out; omega)))
        clear cw k7
        go_wp2_with fail
        go_ret
        exact ⟨rfl, by rw [HSP.out]; exact K7.out⟩
end Cn
end Go.Proofs.Ytlpahomaokopoaa

/-
The walk of the law TextParts.
-/
import Derived.Test.YtnhacikpkchfjaaDoorTextApp
namespace Go.Proofs.YtnhacikpkchfjaaDoor
open Go.RowKit
set_option linter.unusedSimpArgs false
set_option linter.unusedVariables false
namespace Txt
set_option maxRecDepth 100000 in
set_option maxHeartbeats 2000000 in
theorem textParts_walk (a c : ByteArray) (w : World) (wa : a.size ≤ 140737488351232) (wc : c.size ≤ 140737488351232) (hT : Lib.Utf8Tabs 0 1 w) :
    Calls Tryd.prog 9 #[.string a, .string c] w fun e w' => e = .returned (.bool true) ∧ Below w.heap.size w w' := by
  have hl := tabs_lt hT
  have HT := Lib.hid hT
  have hsum : ¬ (a.size + c.size > 9223372036854775807) := by omega
  have hsa := ByteArray.size_append (a := a) (b := c)
  have c1 := good_any a w (by omega) hT
  have G0 := good_ge a
  have G1 := good_ge c
  have L1 := good_lt c
  have GB := fun h => good_both (a := a) (c := c) h
  have GF := fun x h => good_first (a := a) (c := c) (x := x) h
  obtain ⟨x, hx⟩ : ∃ x, good a = x := ⟨_, rfl⟩
  obtain ⟨y, hy⟩ : ∃ y, good c = y := ⟨_, rfl⟩
  obtain ⟨z, hz⟩ : ∃ z, good (a ++ c) = z := ⟨_, rfl⟩
  have c2 : ∀ w', Below w.heap.size w w' → Calls Tryd.prog 12 #[.string c] w' fun e w'' => e = .returned (.int .i64 y) ∧ Below w'.heap.size w' w'' := fun w' hb => by
    have := good_any c w' (by omega) (tabs_below HT.out hb hl)
    rwa [hy] at this
  have c3 : ∀ w', Below w.heap.size w w' → Calls Tryd.prog 12 #[.string (a ++ c)] w' fun e w'' => e = .returned (.int .i64 z) ∧ Below w'.heap.size w' w'' := fun w' hb => by
    have := good_any (a ++ c) w' (by omega) (tabs_below HT.out hb hl)
    rwa [hz] at this
  have c4 : ∀ w', Below w.heap.size w w' → Calls Tryd.prog 14 #[] w' fun e w'' => e = .returned (.bool true) ∧ Below w'.heap.size w' w'' := fun w' hb => awake_any w' (tabs_below HT.out hb hl)
  rw [hx] at c1 G0 GB GF
  rw [hy] at G1 GB L1
  rw [hz] at GB GF
  have C2 := Lib.hid c2
  have C3 := Lib.hid c3
  have C4 := Lib.hid c4
  have hcase : (x = -1 ∧ y = -1 ∧ z = -1) ∨ (x = -1 ∧ 0 ≤ y ∧ z = (a.size : Int) + y) ∨ ∃ n : Nat, x = (n : Int) ∧ n < a.size ∧ (z = (n : Int) ∨ (128 ≤ b a n ∧ (z = -1 ∨ (n : Int) < z))) := by
    rcases G0 with rfl | g
    · have e := GB rfl
      rcases G1 with rfl | g1
      · exact .inl ⟨rfl, rfl, by simpa using e⟩
      · exact .inr (.inl ⟨rfl, g1, by rw [e, if_neg (by omega)]⟩)
    · obtain ⟨n, rfl⟩ := Int.eq_ofNat_of_zero_le g
      exact .inr (.inr ⟨n, rfl, GF n rfl⟩)
  clear hT c2 c3 c4 G0 G1 GB GF hx hy hz
  go_enter Tryd.func9, Tryd.ntmps9
  go_wp2_with fail
  refine c1.mono ?_
  rintro e w1 ⟨rfl, b1⟩
  clear c1
  go_wp2_with fail
  refine (C2.out _ b1).mono ?_
  rintro e w2 ⟨rfl, b2⟩
  have b2' := b1.trans (b2.mono b1.size)
  clear b1 b2 C2
  go_wp2_with fail
  refine (C3.out _ b2').mono ?_
  rintro e w3 ⟨rfl, b3⟩
  have b3' := b2'.trans (b3.mono b2'.size)
  clear b2' b3
  rcases hcase with ⟨rfl, rfl, rfl⟩ | ⟨rfl, hy0, rfl⟩ | ⟨n, rfl, hn, hzz⟩
  · go_wp2_with fail
    refine (C4.out _ b3').mono ?_
    rintro e w4 ⟨rfl, b4⟩
    go_wp2_with fail
    go_ret
    exact ⟨rfl, b3'.trans (b4.mono b3'.size)⟩
  · have hy1 : ¬ (y < 0) := by omega
    go_wp2_with fail
    refine (C4.out _ b3').mono ?_
    rintro e w4 ⟨rfl, b4⟩
    go_wp2_with fail
    go_ret
    exact ⟨rfl, b3'.trans (b4.mono b3'.size)⟩
  · have hn0 : ¬ ((n : Int) < 0) := by omega
    have hn1 : ¬ ((a.size : Int) ≤ (n : Int)) := by omega
    rcases hzz with rfl | ⟨h128, rfl | hzn⟩
    · go_wp2_with fail
      refine (C3.out _ b3').mono ?_
      rintro e w4 ⟨rfl, b4⟩
      have b4' := b3'.trans (b4.mono b3'.size)
      clear b3' b4
      go_wp2_with fail
      refine (C4.out _ b4').mono ?_
      rintro e w5 ⟨rfl, b5⟩
      go_wp2_with fail
      go_ret
      exact ⟨rfl, b4'.trans (b5.mono b4'.size)⟩
    · go_wp2_with fail
      refine (C3.out _ b3').mono ?_
      rintro e w4 ⟨rfl, b4⟩
      have b4' := b3'.trans (b4.mono b3'.size)
      clear b3' b4
      go_wp2_with fail
      refine (C4.out _ b4').mono ?_
      rintro e w5 ⟨rfl, b5⟩
      go_wp2_with fail
      go_ret
      exact ⟨rfl, b4'.trans (b5.mono b4'.size)⟩
    · have e1 : (z == (n : Int)) = false := beq_eq_false_iff_ne.2 (by omega)
      have e1' : ¬ (z = (n : Int)) := by omega
      have e2 : ¬ (z < 0) := by omega
      have e3 : (z != -1) = true := by simp; omega
      have e4 : ¬ (z ≤ (n : Int)) := by omega
      have hbn := b_eq a n hn
      have e5 : ¬ ((b a n : Int) < 128) := by omega
      have e6 : (128 : Int) ≤ (b a n : Int) := by omega
      have e7 : (0 : Int) ≤ z := by omega
      go_wp2_with fail
      refine (C3.out _ b3').mono ?_
      rintro e w4 ⟨rfl, b4⟩
      have b4' := b3'.trans (b4.mono b3'.size)
      clear b3' b4
      go_wp2_with fail
      refine (C4.out _ b4').mono ?_
      rintro e w5 ⟨rfl, b5⟩
      go_wp2_with fail
      go_ret
      exact ⟨rfl, b4'.trans (b5.mono b4'.size)⟩
end Txt
end Go.Proofs.YtnhacikpkchfjaaDoor

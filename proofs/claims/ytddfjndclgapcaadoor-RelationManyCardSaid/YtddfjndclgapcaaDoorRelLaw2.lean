/-
The walk of the law RelationMany.
-/
import Derived.Test.YtddfjndclgapcaaDoorRelUni
import Derived.Test.YtddfjndclgapcaaDoorRelWriteP
import Derived.Laws.Concat
namespace Go.Proofs.YtddfjndclgapcaaDoor
open Go.RowKit
set_option linter.unusedSimpArgs false
set_option linter.unusedVariables false
namespace Rl
open Ver (Bs li li_len li_drop S S_self S_of S_size S_li below_drewN empty_is empty_no MaxLen Signs)
theorem tr2 {w a b : World} (h : Below w.heap.size w a) (k : Below a.heap.size a b) : Below w.heap.size w b := h.trans (k.mono h.size)
theorem sz1 : (⟨#[44]⟩ : ByteArray).size = 1 := rfl
theorem sz2 : (⟨#[97, 97]⟩ : ByteArray).size = 2 := rfl
theorem sz3 : (⟨#[124, 98, 98]⟩ : ByteArray).size = 3 := rfl
theorem sz4 : (⟨#[44, 33]⟩ : ByteArray).size = 2 := rfl
theorem modU (n : Int) (m : Nat) (h0 : 0 < m) : ∃ N : Nat, (IntKind.u64.wrap n).tmod m = (N : Int) ∧ N < m := by
  have h1 : 0 ≤ IntKind.u64.wrap n := by rw [IntKind.wrap_u64]; omega
  obtain ⟨k, hk⟩ := Int.eq_ofNat_of_zero_le h1
  rw [hk]
  exact ⟨k % m, rfl, Nat.mod_lt _ h0⟩
set_option maxRecDepth 100000 in
set_option maxHeartbeats 8000000 in
theorem many_walk (n m : Int) (bad : Bool) (w : World) (hv : Vars w) :
    Calls Tryd.prog 5 #[.int .i64 n, .int .i64 m, .bool bad] w fun e w' => e = .returned (.bool true) ∧ Below w.heap.size w w' := by
  have HV := Lib.hid hv
  clear hv
  obtain ⟨M, hM, hM4⟩ := modU n 15 (by omega)
  obtain ⟨N, hN, hN4⟩ := modU m 9 (by omega)
  rw [show ((15 : Nat) : Int) = 15 from rfl] at hM
  rw [show ((9 : Nat) : Int) = 9 from rfl] at hN
  go_enter Tryd.func5, Tryd.ntmps5
  go_wp2_with fail
  clear hM hN
  go_loopg [7, 22] M (fun gf s7 s22 wx => ∃ (k : Nat) (t : ByteArray), s22 = .int .i64 k ∧ s7 = .string t ∧ t.size ≤ 3 * k ∧ k ≤ M ∧ M ≤ k + gf ∧ wx = w)
  case atStart => exact ⟨0, ⟨#[]⟩, rfl, rfl, by decide, by omega, by omega, rfl⟩
  case round =>
    obtain ⟨k, t, rfl, rfl, ht, hk1, hk2, rfl⟩ := hrel
    have e1 := fun w => run_string_add_sum (P := Tryd.prog) w t ⟨#[44]⟩ (by simp only [ByteArray.size_append, sz1, sz2, sz3, maxLen]; omega)
    have e2 := fun w => run_string_add_sum (P := Tryd.prog) w (t ++ ⟨#[44]⟩) ⟨#[97, 97]⟩ (by simp only [ByteArray.size_append]; simp only [sz1, sz2, sz3, maxLen]; omega)
    have e3 := fun w => run_string_add_sum (P := Tryd.prog) w t ⟨#[97, 97]⟩ (by simp only [ByteArray.size_append, sz1, sz2, sz3, maxLen]; omega)
    by_cases hk : k < M
    · have hk' : (k : Int) < (M : Int) := by omega
      have hsz1 : (t ++ (⟨#[44]⟩ : ByteArray) ++ (⟨#[97, 97]⟩ : ByteArray)).size ≤ 3 * (k + 1) := by simp only [ByteArray.size_append]; simp only [sz1, sz2, sz3, maxLen]; omega
      have hsz2 : (t ++ (⟨#[97, 97]⟩ : ByteArray)).size ≤ 3 * (k + 1) := by simp only [ByteArray.size_append]; simp only [sz1, sz2, sz3, maxLen]; omega
      by_cases hz : k = 0
      · subst hz
        go_wp2_with fail
        go_roundg (gk - 1)
        case measure => omega
        case rel => exact ⟨1, _, rfl, rfl, hsz2, by omega, by omega, rfl⟩
      · have hz' : (0 : Int) < (k : Int) := by omega
        go_wp2_with fail
        go_roundg (gk - 1)
        case measure => omega
        case rel => exact ⟨k + 1, _, by go_num, rfl, hsz1, by omega, by omega, rfl⟩
    · obtain rfl : k = M := by omega
      clear hk hk1 hk2 e1 e2 e3
      go_wp2_with fail
      have hk : t.size ≤ 42 := by omega
      go_loopg [7, 33] N (fun gf s7 s33 wx => ∃ (j : Nat) (t : ByteArray), s33 = .int .i64 j ∧ s7 = .string t ∧ t.size ≤ 42 + 3 * j ∧ j ≤ N ∧ N ≤ j + gf ∧ wx = wr)
      case atStart => exact ⟨0, t, rfl, rfl, by omega, by omega, by omega, rfl⟩
      case round =>
        clear hk ht
        obtain ⟨j, t, rfl, rfl, ht, hk1, hk2, rfl⟩ := hrel
        by_cases hk : j < N
        · have hk' : (j : Int) < (N : Int) := by omega
          have e1 := fun w => run_string_add_sum (P := Tryd.prog) w t ⟨#[124, 98, 98]⟩ (by simp only [ByteArray.size_append, sz1, sz2, sz3, maxLen]; omega)
          have hsz1 : (t ++ (⟨#[124, 98, 98]⟩ : ByteArray)).size ≤ 42 + 3 * (j + 1) := by simp only [ByteArray.size_append]; simp only [sz1, sz2, sz3, maxLen]; omega
          go_wp2_with fail
          go_roundg (gk - 1)
          case measure => omega
          case rel => exact ⟨j + 1, _, by go_num, rfl, hsz1, by omega, by omega, rfl⟩
        · obtain rfl : j = N := by omega
          have hs : t.size ≤ 66 := by omega
          clear hk hk1 hk2 ht
          cases bad with
          | true =>
            have e1 := fun w => run_string_add_sum (P := Tryd.prog) w t ⟨#[44, 33]⟩ (by simp only [ByteArray.size_append, sz1, sz2, sz3, sz4, maxLen]; omega)
            obtain ⟨T, hT⟩ : ∃ T, t ++ (⟨#[44, 33]⟩ : ByteArray) = T := ⟨_, rfl⟩
            have hs' : T.size ≤ 4611686018427387904 := by rw [← hT]; simp only [ByteArray.size_append, sz4]; omega
            clear hs
            rw [hT] at e1
            clear hT
            have c1 := uParse T wr hs' HV.out
            have c2 := fun w => uRelation T w hs'
            unfold UC at c1 c2
            generalize whole rdC (li T) = oC at *
            generalize erO oC = rC at *
            clear hs'
            go_wp2_with fail
            refine c1.mono ?_
            rintro e w1 ⟨k1, v1, rfl, m1⟩
            have V1 := Lib.hid (HV.out.on k1)
            have K1 := Lib.hid k1
            have M1 := Lib.hid m1
            clear k1 m1 c1
            go_wp2_with fail
            refine (c2 _).mono ?_
            rintro e w2 ⟨k2, v2, rfl, m2⟩
            have V2 := Lib.hid (V1.out.on k2)
            have K2 := Lib.hid (tr2 K1.out k2)
            have M2 := Lib.hid (⟨M1.out.below k2, m2⟩ : _ ∧ _)
            clear k2 m2 c2 M1 K1 V1
            have s1 := sameClauses_any v1 v2 _ _ w2 M2.out.1 M2.out.2
            rw [decide_eq_true rfl] at s1
            obtain ⟨a1, b1, e1⟩ := M2.out.1.shape
            obtain ⟨a2, b2, e2⟩ := M2.out.2.shape
            subst e1 e2
            go_wp2_with fail
            refine s1.mono ?_
            rintro e w3 ⟨rfl, hd3⟩
            have kb3 := drewn_below hd3
            have V3 := Lib.hid (V2.out.on kb3)
            have K3 := Lib.hid (tr2 K2.out kb3)
            clear s1 kb3 hd3 M2 K2 V2
            go_wp2_with fail
            have c3 := awake_any w3 V3.out
            refine c3.mono ?_
            rintro e w4 ⟨rfl, k4⟩
            have K4 := tr2 K3.out k4
            go_wp2_with fail
            go_ret
            exact ⟨rfl, K4⟩
          | false =>
            have hs' : t.size ≤ 4611686018427387904 := by omega
            clear hs
            have c1 := uParse t wr hs' HV.out
            have c2 := fun w => uRelation t w hs'
            unfold UC at c1 c2
            generalize whole rdC (li t) = oC at *
            generalize erO oC = rC at *
            clear hs'
            go_wp2_with fail
            refine c1.mono ?_
            rintro e w1 ⟨k1, v1, rfl, m1⟩
            have V1 := Lib.hid (HV.out.on k1)
            have K1 := Lib.hid k1
            have M1 := Lib.hid m1
            clear k1 m1 c1
            go_wp2_with fail
            refine (c2 _).mono ?_
            rintro e w2 ⟨k2, v2, rfl, m2⟩
            have V2 := Lib.hid (V1.out.on k2)
            have K2 := Lib.hid (tr2 K1.out k2)
            have M2 := Lib.hid (⟨M1.out.below k2, m2⟩ : _ ∧ _)
            clear k2 m2 c2 M1 K1 V1
            have s1 := sameClauses_any v1 v2 _ _ w2 M2.out.1 M2.out.2
            rw [decide_eq_true rfl] at s1
            obtain ⟨a1, b1, e1⟩ := M2.out.1.shape
            obtain ⟨a2, b2, e2⟩ := M2.out.2.shape
            subst e1 e2
            go_wp2_with fail
            refine s1.mono ?_
            rintro e w3 ⟨rfl, hd3⟩
            have kb3 := drewn_below hd3
            have V3 := Lib.hid (V2.out.on kb3)
            have K3 := Lib.hid (tr2 K2.out kb3)
            clear s1 kb3 hd3 M2 K2 V2
            go_wp2_with fail
            have c3 := awake_any w3 V3.out
            refine c3.mono ?_
            rintro e w4 ⟨rfl, k4⟩
            have K4 := tr2 K3.out k4
            go_wp2_with fail
            go_ret
            exact ⟨rfl, K4⟩
end Rl
end Go.Proofs.YtddfjndclgapcaaDoor

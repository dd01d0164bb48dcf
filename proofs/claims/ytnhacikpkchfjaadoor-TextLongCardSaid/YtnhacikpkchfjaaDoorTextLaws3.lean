/-
The walk of the law TextCounts.
-/
import Derived.Test.YtnhacikpkchfjaaDoorTextApp
import Derived.Test.YtnhacikpkchfjaaDoorRow
namespace Go.Proofs.YtnhacikpkchfjaaDoor
open Go.RowKit
set_option linter.unusedSimpArgs false
set_option linter.unusedVariables false
namespace Txt
theorem modM (n : Int) (m : Nat) (h0 : 0 < m) (h : m ≤ 1000000000) : ∃ N : Nat, wrap64 ((IntKind.u64.wrap n).tmod m) = (N : Int) ∧ N < m := by
  have h1 : 0 ≤ IntKind.u64.wrap n := by rw [IntKind.wrap_u64]; omega
  obtain ⟨k, hk⟩ := Int.eq_ofNat_of_zero_le h1
  rw [hk]
  refine ⟨k % m, ?_, Nat.mod_lt _ h0⟩
  have : k % m < m := Nat.mod_lt _ h0
  show wrap64 ((k % m : Nat) : Int) = _
  rw [← IntWalk.i64_left]
  exact IntWalk.i64_in _ ⟨by omega, by omega⟩
theorem b_one (z : Nat) (h : z < 256) : b (strOfNums [(z : Int)]) 0 = z := by
  have h1 : 0 < (strOfNums [(z : Int)]).size := by rw [strOfNums_size]; simp
  unfold b
  rw [dif_pos h1]
  show (UInt8.ofNat ((z : Int)).toNat).toNat = z
  rw [Int.toNat_natCast, UInt8.toNat_ofNat']
  omega
theorem size_one (z : Int) : (strOfNums [z]).size = 1 := by rw [strOfNums_size]; rfl
theorem b_front {t s : ByteArray} (h : t.size = 1) (m : Nat) : b (t ++ s) (m + 1) = b s m := by
  have := b_app_r t s m
  rw [h, Nat.add_comm] at this
  exact this
theorem valP_front {t s : ByteArray} (h : t.size = 1) : ∀ m, valP (t ++ s) (m + 1) = (b t 0 - 48) * 10 ^ m + valP s m
  | 0 => by
    show 10 * 0 + (b (t ++ s) 0 - 48) = (b t 0 - 48) * 1 + 0
    rw [b_app_l t s 0 (by omega)]; omega
  | m + 1 => by
    show 10 * valP (t ++ s) (m + 1) + (b (t ++ s) (m + 1) - 48) = (b t 0 - 48) * 10 ^ (m + 1) + (10 * valP s m + (b s m - 48))
    rw [valP_front h m, b_front h, Nat.pow_succ, ← Nat.mul_assoc]
    omega
/-- A number n being told in decimal: what is still to be told (k), what is told (s). -/
def Cnt (n k : Nat) (s : ByteArray) : Prop := (∀ j, j < s.size → dgt (b s j) = true) ∧ n = k * 10 ^ s.size + valP s s.size ∧ (0 < s.size → 1 ≤ k)
theorem Cnt.front {n k : Nat} {s : ByteArray} (h : Cnt n k s) : (∀ j, j < (strOfNums [((48 + k % 10 : Nat) : Int)] ++ s).size → dgt (b (strOfNums [((48 + k % 10 : Nat) : Int)] ++ s) j) = true) ∧
    n = (k / 10) * 10 ^ (strOfNums [((48 + k % 10 : Nat) : Int)] ++ s).size + valP (strOfNums [((48 + k % 10 : Nat) : Int)] ++ s) (strOfNums [((48 + k % 10 : Nat) : Int)] ++ s).size := by
  have hs1 := size_one ((48 + k % 10 : Nat) : Int)
  have hb1 := b_one (48 + k % 10) (by omega)
  generalize strOfNums [((48 + k % 10 : Nat) : Int)] = t at *
  have hsz : (t ++ s).size = s.size + 1 := by rw [ByteArray.size_append]; omega
  rw [hsz]
  refine ⟨fun j hj => ?_, ?_⟩
  · cases j with
    | zero => rw [b_app_l t s 0 (by omega), hb1]; unfold dgt; simp; omega
    | succ j => rw [b_front hs1]; exact h.1 j (by omega)
  · rw [valP_front hs1, hb1, h.2.1, Nat.pow_succ]
    have e : k = 10 * (k / 10) + k % 10 := by omega
    have e2 : k * 10 ^ s.size = (k / 10) * (10 ^ s.size * 10) + (48 + k % 10 - 48) * 10 ^ s.size := by
      conv => lhs; rw [e]
      rw [Nat.add_mul, Nat.add_sub_cancel_left]
      congr 1
      rw [Nat.mul_comm 10, Nat.mul_assoc, Nat.mul_comm 10]
    omega
theorem Cnt.short {n k : Nat} {s : ByteArray} (h : Cnt n k s) (h1 : 1 ≤ k) (hn : n < 1000000000) : s.size ≤ 8 := by
  have h3 : 10 ^ s.size ≤ k * 10 ^ s.size := Nat.le_mul_of_pos_left _ (by omega)
  have h4 := h.2.1
  have h5 : 10 ^ s.size < 10 ^ 9 := by
    have : (10 : Nat) ^ 9 = 1000000000 := by decide
    omega
  have := (Nat.pow_lt_pow_iff_right (a := 10) (by omega)).1 h5
  omega
theorem Cnt.next {n k : Nat} {s : ByteArray} (h : Cnt n k s) (h10 : 10 ≤ k) : Cnt n (k / 10) (strOfNums [((48 + k % 10 : Nat) : Int)] ++ s) :=
  ⟨h.front.1, h.front.2, fun _ => by omega⟩
theorem Cnt.last {n k : Nat} {s : ByteArray} (h : Cnt n k s) (h10 : k < 10) (hn : n < 1000000000) :
    (strOfNums [((48 + k % 10 : Nat) : Int)] ++ s).size ≤ 9 ∧ 1 ≤ (strOfNums [((48 + k % 10 : Nat) : Int)] ++ s).size ∧ numOK (strOfNums [((48 + k % 10 : Nat) : Int)] ++ s) ∧ numOf (strOfNums [((48 + k % 10 : Nat) : Int)] ++ s) = n := by
  have h1 := h.front
  have hs1 := size_one ((48 + k % 10 : Nat) : Int)
  have hb1 := b_one (48 + k % 10) (by omega)
  generalize strOfNums [((48 + k % 10 : Nat) : Int)] = t at *
  have hsz : (t ++ s).size = s.size + 1 := by rw [ByteArray.size_append]; omega
  have hs8 : s.size ≤ 8 := by
    by_cases h0 : 0 < s.size
    · have h2 := h.2.2 h0
      have h3 : 10 ^ s.size ≤ k * 10 ^ s.size := Nat.le_mul_of_pos_left _ (by omega)
      have h4 := h.2.1
      have h5 : 10 ^ s.size < 10 ^ 9 := by
        have : (10 : Nat) ^ 9 = 1000000000 := by decide
        omega
      have := (Nat.pow_lt_pow_iff_right (a := 10) (by omega)).1 h5
      omega
    · omega
  have hk0 : k / 10 = 0 := by omega
  have hv := h1.2
  rw [hk0, Nat.zero_mul, Nat.zero_add] at hv
  have hok : numOK (t ++ s) := by
    refine ⟨⟨⟨by omega, by omega⟩, fun hh => ?_⟩, h1.1⟩
    have h6 := h.2.2 (by omega)
    have h7 := hh.2
    rw [b_app_l t s 0 (by omega), hb1] at h7
    omega
  refine ⟨by omega, by omega, hok, ?_⟩
  unfold numOf
  rw [if_pos hok]
  exact hv.symm
theorem num_zero (s : ByteArray) (h : 1 ≤ s.size) : ¬ numOK (⟨#[48]⟩ ++ s) := fun hh => hh.1.2 ⟨by rw [ByteArray.size_append]; show 1 < 1 + s.size; omega, by rw [b_app_l _ _ 0 (by decide)]; decide⟩
theorem num_minus (s : ByteArray) : ¬ numOK (⟨#[45]⟩ ++ s) := fun hh => by
  have := hh.2 0 (by rw [ByteArray.size_append]; show 0 < 1 + s.size; omega)
  rw [b_app_l _ _ 0 (by decide)] at this
  exact absurd this (by decide)
theorem num_long (s : ByteArray) : ¬ numOK (s ++ ⟨#[48, 49, 50, 51, 52, 53, 54, 55, 56, 57]⟩) := fun hh => by
  have := hh.1.1.2
  rw [ByteArray.size_append] at this
  have e : (⟨#[48, 49, 50, 51, 52, 53, 54, 55, 56, 57]⟩ : ByteArray).size = 10 := rfl
  omega
theorem number_no (x : ByteArray) (w : World) (hs : x.size ≤ 9223372036854775807) (h : ¬ numOK x) : Calls Tryd.prog 22 #[.string x] w fun e w' => e = .returned (.tuple #[.int .i64 0, .bool false]) ∧ Below w.heap.size w w' := by
  have c := number_any x w hs
  rw [decide_eq_false h] at c
  unfold numOf at c
  rw [if_neg h] at c
  exact c
set_option maxRecDepth 100000 in
set_option maxHeartbeats 2000000 in
theorem textCounts_walk (a0 : Int) (w : World) (hT : Lib.Utf8Tabs 0 1 w) :
    Calls Tryd.prog 11 #[.int .i64 a0] w fun e w' => e = .returned (.bool true) ∧ Below w.heap.size w w' := by
  have hl := tabs_lt hT
  have HT := Lib.hid hT
  clear hT
  obtain ⟨n, hn, hn9⟩ := modM a0 1000000000 (by omega) (by omega)
  rw [show ((1000000000 : Nat) : Int) = 1000000000 from rfl] at hn
  go_enter Tryd.func11, Tryd.ntmps11
  go_wp2_with fail
  rw [hn]
  clear hn
  go_loopg [3, 4] n (fun gf s3 s4 wx => ∃ (k : Nat) (s : ByteArray), s3 = .string s ∧ s4 = .int .i64 k ∧ Hid (Cnt n k s) ∧ Below w.heap.size w wx ∧ k ≤ gf ∧ k ≤ n ∧ s.size ≤ 20)
  case atStart => exact ⟨n, _, rfl, rfl, ⟨fun j hj => by simp [ByteArray.size] at hj, by show n = n * 1 + 0; omega, fun h => by simp [ByteArray.size] at h⟩, Below.refl _ _, by omega, by omega, by decide⟩
  case round =>
    obtain ⟨k, s, rfl, rfl, HC, hbw, hkg, hkn, hs20⟩ := hrel
    have e0 : (48 + (k : Int) % 10) = ((48 + k % 10 : Nat) : Int) := by omega
    have hrow : Row (wr.alloc (.cells #[.int .u8 (48 + (k : Int) % 10)] 5)) (some ⟨wr.heap.size, 0, none⟩) 1 [48 + (k : Int) % 10] :=
      Row.ofIs (Blk.Is.new wr _ _) 0 1 _ rfl (by omega) (fun z hz => by simp at hz; omega) (fun j hj => by
        obtain rfl : j = 0 := by omega
        rfl)
    have hcv : (convert 25 9 (.slice (some ⟨wr.heap.size, 0, none⟩) 1 1)).run Tryd.prog (wr.alloc (.cells #[.int .u8 (48 + (k : Int) % 10)] 5)) = .ok (.string (strOfNums [((48 + k % 10 : Nat) : Int)])) (wr.alloc (.cells #[.int .u8 (48 + (k : Int) % 10)] 5)) := by
      rw [← e0]; exact hrow.conv 1
    have hs1 := size_one ((48 + k % 10 : Nat) : Int)
    have hsum : ¬ ((strOfNums [((48 + k % 10 : Nat) : Int)]).size + s.size > 9223372036854775807) := by omega
    have hb2 : Below w.heap.size w (wr.alloc (.cells #[.int .u8 (48 + (k : Int) % 10)] 5)) := hbw.alloc hbw.size _
    by_cases h10 : k < 10
    · have h10' : (k : Int) < 10 := by omega
      obtain ⟨L1, L2, L3, L4⟩ := HC.out.last h10 hn9
      have hts : (strOfNums [((48 + k % 10 : Nat) : Int)] ++ s).size = (strOfNums [((48 + k % 10 : Nat) : Int)]).size + s.size := ByteArray.size_append
      obtain ⟨t, ht⟩ : ∃ t, strOfNums [((48 + k % 10 : Nat) : Int)] = t := ⟨_, rfl⟩
      rw [ht] at hcv hsum L1 L2 L3 L4
      clear hs1 hts ht e0 hrow HC
      go_wp2_with fail
      obtain ⟨u, hu⟩ : ∃ u, t ++ s = u := ⟨_, rfl⟩
      rw [hu] at L1 L2 L3 L4 ⊢
      obtain ⟨W, hW⟩ : ∃ W, wr.alloc (.cells #[.int .u8 (48 + (k : Int) % 10)] 5) = W := ⟨_, rfl⟩
      rw [hW] at hb2 ⊢
      have c1 := number_any u W (by omega)
      rw [L4, decide_eq_true L3] at c1
      have hT := HT.out
      have z1 : ∀ w', Calls Tryd.prog 22 #[.string (⟨#[48]⟩ ++ u)] w' fun e w'' => e = .returned (.tuple #[.int .i64 0, .bool false]) ∧ Below w'.heap.size w' w'' := fun w' => number_no _ w' (by rw [ByteArray.size_append]; show 1 + u.size ≤ _; omega) (num_zero u L2)
      have z2 : ∀ w', Calls Tryd.prog 22 #[.string (⟨#[45]⟩ ++ u)] w' fun e w'' => e = .returned (.tuple #[.int .i64 0, .bool false]) ∧ Below w'.heap.size w' w'' := fun w' => number_no _ w' (by rw [ByteArray.size_append]; show 1 + u.size ≤ _; omega) (num_minus u)
      have z3 : ∀ w', Calls Tryd.prog 22 #[.string (u ++ ⟨#[48, 49, 50, 51, 52, 53, 54, 55, 56, 57]⟩)] w' fun e w'' => e = .returned (.tuple #[.int .i64 0, .bool false]) ∧ Below w'.heap.size w' w'' := fun w' => number_no _ w' (by rw [ByteArray.size_append]; show u.size + 10 ≤ _; omega) (num_long u)
      have c5 : ∀ w', Below w.heap.size w w' → Calls Tryd.prog 14 #[] w' fun e w'' => e = .returned (.bool true) ∧ Below w'.heap.size w' w'' := fun w' hb => awake_any w' (tabs_below hT hb hl)
      have Z1 := Lib.hid z1
      have Z2 := Lib.hid z2
      have Z3 := Lib.hid z3
      have C5 := Lib.hid c5
      clear hcv hsum hbw hu hW L3 L4 HT hT z1 z2 z3 c5
      refine c1.mono ?_
      rintro e w1 ⟨rfl, b1⟩
      have d1 := hb2.trans (b1.mono hb2.size)
      clear c1 b1 hb2
      go_wp2_with fail
      refine (Z1.out _).mono ?_
      rintro e w2 ⟨rfl, b2⟩
      have d2 := d1.trans (b2.mono d1.size)
      clear d1 b2
      go_wp2_with fail
      refine (Z2.out _).mono ?_
      rintro e w3 ⟨rfl, b3⟩
      have d3 := d2.trans (b3.mono d2.size)
      clear d2 b3
      go_wp2_with fail
      refine (Z3.out _).mono ?_
      rintro e w4 ⟨rfl, b4⟩
      have d4 := d3.trans (b4.mono d3.size)
      clear d3 b4
      go_wp2_with fail
      refine (C5.out _ d4).mono ?_
      rintro e w5 ⟨rfl, b5⟩
      go_wp2_with fail
      go_ret
      exact ⟨rfl, d4.trans (b5.mono d4.size)⟩
    · have h10' : ¬ (k : Int) < 10 := by omega
      have HN := Lib.hid (HC.out.next (by omega))
      have hts : (strOfNums [((48 + k % 10 : Nat) : Int)] ++ s).size = (strOfNums [((48 + k % 10 : Nat) : Int)]).size + s.size := ByteArray.size_append
      have hs21 : (strOfNums [((48 + k % 10 : Nat) : Int)] ++ s).size ≤ 20 := by
        have := HC.out.short (by omega) hn9
        omega
      obtain ⟨t, ht⟩ : ∃ t, strOfNums [((48 + k % 10 : Nat) : Int)] = t := ⟨_, rfl⟩
      rw [ht] at hcv hsum HN hs21
      clear hs1 hts ht e0 hrow HC
      go_wp2_with fail
      go_roundg (k / 10)
      case measure => omega
      case rel => exact ⟨k / 10, t ++ s, rfl, by go_num, HN, hb2, by omega, by omega, hs21⟩
end Txt
end Go.Proofs.YtnhacikpkchfjaaDoor

/-
The small functions of package text and of its reference: signs by runes and by bytes; is a byte at a place; how long a character is.
-/
import Derived.Test.YtgolnfgkoolpoaaDoorProg
import Derived.Test.YtgolnfgkoolpoaaDoorShelf
import Derived.Test.YtgolnfgkoolpoaaDoorTextUtf
import Derived.WalkKit
import Derived.ProofKit
import Derived.Below
import Derived.Lib.Hide
namespace Go.Proofs.YtgolnfgkoolpoaaDoor
open Go.RowKit
set_option linter.unusedSimpArgs false
set_option linter.unusedVariables false
namespace Txt
def ctl (r : Nat) : Bool := (decide (r < 32) && !decide (r = 9)) || decide (r = 127)
def wht (r : Nat) : Bool := decide (r = 32) || decide (r = 9)
def ltr (r : Nat) : Bool := decide (97 ≤ r) && decide (r ≤ 122)
def dgt (r : Nat) : Bool := decide (48 ≤ r) && decide (r ≤ 57)
def mrk (r : Nat) : Bool := decide (r = 43) || decide (r = 45) || decide (r = 46)
theorem ret_bool {a b : Bool} {w : World} (h : a = true ↔ b = true) : Ending.returned (Value.bool a) = Ending.returned (.bool b) ∧ w = w := ⟨by rw [Bool.eq_iff_iff.2 h], rfl⟩
theorem control_any (r : Nat) (w : World) : Calls Tryd.prog 70 #[.int .i32 r] w fun e w' => e = .returned (.bool (ctl r)) ∧ w' = w := by
  go_enter Tryd.func70, Tryd.ntmps70
  go_wp2_with fail
  all_goals
    go_ret
    refine ret_bool ?_
    simp [ctl]
    try omega
theorem white_any (r : Nat) (w : World) : Calls Tryd.prog 51 #[.int .i32 r] w fun e w' => e = .returned (.bool (wht r)) ∧ w' = w := by
  go_enter Tryd.func51, Tryd.ntmps51
  go_wp2_with fail
  all_goals
    go_ret
    refine ret_bool ?_
    simp [wht]
    try omega
theorem ywhite_any (r : Nat) (w : World) : Calls Tryd.prog 27 #[.int .u8 r] w fun e w' => e = .returned (.bool (wht r)) ∧ w' = w := by
  go_enter Tryd.func27, Tryd.ntmps27
  go_wp2_with fail
  all_goals
    go_ret
    refine ret_bool ?_
    simp [wht]
    try omega
theorem at_any (s : ByteArray) (k lo hi : Nat) (w : World) : Calls Tryd.prog 80 #[.string s, .int .i64 k, .int .u8 lo, .int .u8 hi] w fun e w' => e = .returned (.bool (on s k lo hi)) ∧ w' = w := by
  have hb := b_eq s
  go_enter Tryd.func80, Tryd.ntmps80
  go_wp2_with fail
  all_goals
    go_ret
    refine ret_bool ?_
    rw [on_iff]
    simp
    try omega
theorem size_open {K : Nat} {s : ByteArray} {w : World} {n : Nat} (h : sz s 0 = K) (e : sz s 0 = n) : Ending.returned (Value.int .i64 (n : Int)) = Ending.returned (.int .i64 (K : Int)) ∧ w = w := ⟨by rw [← h, e], rfl⟩
set_option maxRecDepth 100000 in
set_option maxHeartbeats 1000000 in
theorem size_lo (s : ByteArray) (w : World) (hs : 0 < s.size) (hc1 : b s 0 < 128) : Calls Tryd.prog 63 #[.string s] w fun e w' => e = .returned (.int .i64 (sz s 0)) ∧ w' = w := by
  have hb := b_eq s 0 hs
  have h1 := b_lt s 0
  obtain ⟨K, hK⟩ : ∃ K, sz s 0 = K := ⟨_, rfl⟩
  have HK := Lib.hid hK
  have hs0 : (0 : Int) < (s.size : Int) := by omega
  rw [hK]
  clear hK
  obtain ⟨c, hc⟩ : ∃ c, b s 0 = c := ⟨_, rfl⟩
  have HC := Lib.hid hc
  rw [hc] at hb h1 hc1
  clear hc
  go_enter Tryd.func63, Tryd.ntmps63
  go_wp2_with fail
  all_goals
    go_ret
    refine size_open HK.out ?_
    unfold sz
    simp only [HC.out, Nat.zero_add, and_true, and_false, true_and, false_and, Bool.false_eq_true, if_false, if_true]
    repeat first | rw [if_neg (by omega)] | rw [if_pos (by omega)]
set_option maxRecDepth 100000 in
set_option maxHeartbeats 1000000 in
theorem size_no (s : ByteArray) (w : World) (hs : 0 < s.size) (hc1 : 128 ≤ b s 0 ∧ b s 0 < 194) : Calls Tryd.prog 63 #[.string s] w fun e w' => e = .returned (.int .i64 (sz s 0)) ∧ w' = w := by
  have hb := b_eq s 0 hs
  have h1 := b_lt s 0
  obtain ⟨K, hK⟩ : ∃ K, sz s 0 = K := ⟨_, rfl⟩
  have HK := Lib.hid hK
  have hs0 : (0 : Int) < (s.size : Int) := by omega
  rw [hK]
  clear hK
  obtain ⟨c, hc⟩ : ∃ c, b s 0 = c := ⟨_, rfl⟩
  have HC := Lib.hid hc
  rw [hc] at hb h1 hc1
  clear hc
  go_enter Tryd.func63, Tryd.ntmps63
  go_wp2_with fail
  all_goals
    go_ret
    refine size_open HK.out ?_
    unfold sz
    simp only [HC.out, Nat.zero_add, and_true, and_false, true_and, false_and, Bool.false_eq_true, if_false, if_true]
    repeat first | rw [if_neg (by omega)] | rw [if_pos (by omega)]
set_option maxRecDepth 100000 in
set_option maxHeartbeats 1000000 in
theorem size_two (s : ByteArray) (w : World) (hs : 0 < s.size) (hc1 : 194 ≤ b s 0 ∧ b s 0 ≤ 223) : Calls Tryd.prog 63 #[.string s] w fun e w' => e = .returned (.int .i64 (sz s 0)) ∧ w' = w := by
  have hb := b_eq s 0 hs
  have h1 := b_lt s 0
  obtain ⟨K, hK⟩ : ∃ K, sz s 0 = K := ⟨_, rfl⟩
  have HK := Lib.hid hK
  have hs0 : (0 : Int) < (s.size : Int) := by omega
  rw [hK]
  clear hK
  have a1 : Calls Tryd.prog 80 #[.string s, .int .i64 1, .int .u8 128, .int .u8 191] w fun e w' => e = .returned (.bool (on s 1 128 191)) ∧ w' = w := at_any s 1 128 191 w
  obtain ⟨c, hc⟩ : ∃ c, b s 0 = c := ⟨_, rfl⟩
  have HC := Lib.hid hc
  rw [hc] at hb h1 hc1
  clear hc
  go_enter Tryd.func63, Tryd.ntmps63
  go_wp2_with fail
  refine a1.mono ?_
  rintro e w' ⟨rfl, rfl⟩
  cases h_a1 : on s 1 128 191
  · go_wp2_with fail
    all_goals
      go_ret
      refine size_open HK.out ?_
      unfold sz
      simp only [HC.out, Nat.zero_add, h_a1, and_true, and_false, true_and, false_and, Bool.false_eq_true, if_false, if_true]
      repeat first | rw [if_neg (by omega)] | rw [if_pos (by omega)]
  · go_wp2_with fail
    all_goals
      go_ret
      refine size_open HK.out ?_
      unfold sz
      simp only [HC.out, Nat.zero_add, h_a1, and_true, and_false, true_and, false_and, Bool.false_eq_true, if_false, if_true]
      repeat first | rw [if_neg (by omega)] | rw [if_pos (by omega)]
set_option maxRecDepth 100000 in
set_option maxHeartbeats 1000000 in
theorem size_e0 (s : ByteArray) (w : World) (hs : 0 < s.size) (hc1 : b s 0 = 224) : Calls Tryd.prog 63 #[.string s] w fun e w' => e = .returned (.int .i64 (sz s 0)) ∧ w' = w := by
  have hb := b_eq s 0 hs
  have h1 := b_lt s 0
  obtain ⟨K, hK⟩ : ∃ K, sz s 0 = K := ⟨_, rfl⟩
  have HK := Lib.hid hK
  have hs0 : (0 : Int) < (s.size : Int) := by omega
  rw [hK]
  clear hK
  have a1a : Calls Tryd.prog 80 #[.string s, .int .i64 1, .int .u8 160, .int .u8 191] w fun e w' => e = .returned (.bool (on s 1 160 191)) ∧ w' = w := at_any s 1 160 191 w
  have a2 : Calls Tryd.prog 80 #[.string s, .int .i64 2, .int .u8 128, .int .u8 191] w fun e w' => e = .returned (.bool (on s 2 128 191)) ∧ w' = w := at_any s 2 128 191 w
  obtain ⟨c, hc⟩ : ∃ c, b s 0 = c := ⟨_, rfl⟩
  have HC := Lib.hid hc
  rw [hc] at hb h1 hc1
  clear hc
  subst hc1
  go_enter Tryd.func63, Tryd.ntmps63
  go_wp2_with fail
  refine a1a.mono ?_
  rintro e w' ⟨rfl, rfl⟩
  cases h_a1a : on s 1 160 191
  · go_wp2_with fail
    all_goals
      go_ret
      refine size_open HK.out ?_
      unfold sz
      simp only [HC.out, Nat.zero_add, h_a1a, and_true, and_false, true_and, false_and, Bool.false_eq_true, if_false, if_true]
      repeat first | rw [if_neg (by omega)] | rw [if_pos (by omega)]
  · go_wp2_with fail
    refine a2.mono ?_
    rintro e w' ⟨rfl, rfl⟩
    cases h_a2 : on s 2 128 191
    · go_wp2_with fail
      all_goals
        go_ret
        refine size_open HK.out ?_
        unfold sz
        simp only [HC.out, Nat.zero_add, h_a1a, h_a2, and_true, and_false, true_and, false_and, Bool.false_eq_true, if_false, if_true]
        repeat first | rw [if_neg (by omega)] | rw [if_pos (by omega)]
    · go_wp2_with fail
      all_goals
        go_ret
        refine size_open HK.out ?_
        unfold sz
        simp only [HC.out, Nat.zero_add, h_a1a, h_a2, and_true, and_false, true_and, false_and, Bool.false_eq_true, if_false, if_true]
        repeat first | rw [if_neg (by omega)] | rw [if_pos (by omega)]
set_option maxRecDepth 100000 in
set_option maxHeartbeats 1000000 in
theorem size_e1 (s : ByteArray) (w : World) (hs : 0 < s.size) (hc1 : 225 ≤ b s 0 ∧ b s 0 < 237) : Calls Tryd.prog 63 #[.string s] w fun e w' => e = .returned (.int .i64 (sz s 0)) ∧ w' = w := by
  have hb := b_eq s 0 hs
  have h1 := b_lt s 0
  obtain ⟨K, hK⟩ : ∃ K, sz s 0 = K := ⟨_, rfl⟩
  have HK := Lib.hid hK
  have hs0 : (0 : Int) < (s.size : Int) := by omega
  rw [hK]
  clear hK
  have a1 : Calls Tryd.prog 80 #[.string s, .int .i64 1, .int .u8 128, .int .u8 191] w fun e w' => e = .returned (.bool (on s 1 128 191)) ∧ w' = w := at_any s 1 128 191 w
  have a2 : Calls Tryd.prog 80 #[.string s, .int .i64 2, .int .u8 128, .int .u8 191] w fun e w' => e = .returned (.bool (on s 2 128 191)) ∧ w' = w := at_any s 2 128 191 w
  obtain ⟨c, hc⟩ : ∃ c, b s 0 = c := ⟨_, rfl⟩
  have HC := Lib.hid hc
  rw [hc] at hb h1 hc1
  clear hc
  go_enter Tryd.func63, Tryd.ntmps63
  go_wp2_with fail
  refine a1.mono ?_
  rintro e w' ⟨rfl, rfl⟩
  cases h_a1 : on s 1 128 191
  · go_wp2_with fail
    all_goals
      go_ret
      refine size_open HK.out ?_
      unfold sz
      simp only [HC.out, Nat.zero_add, h_a1, and_true, and_false, true_and, false_and, Bool.false_eq_true, if_false, if_true]
      repeat first | rw [if_neg (by omega)] | rw [if_pos (by omega)]
  · go_wp2_with fail
    refine a2.mono ?_
    rintro e w' ⟨rfl, rfl⟩
    cases h_a2 : on s 2 128 191
    · go_wp2_with fail
      all_goals
        go_ret
        refine size_open HK.out ?_
        unfold sz
        simp only [HC.out, Nat.zero_add, h_a1, h_a2, and_true, and_false, true_and, false_and, Bool.false_eq_true, if_false, if_true]
        repeat first | rw [if_neg (by omega)] | rw [if_pos (by omega)]
    · go_wp2_with fail
      all_goals
        go_ret
        refine size_open HK.out ?_
        unfold sz
        simp only [HC.out, Nat.zero_add, h_a1, h_a2, and_true, and_false, true_and, false_and, Bool.false_eq_true, if_false, if_true]
        repeat first | rw [if_neg (by omega)] | rw [if_pos (by omega)]
set_option maxRecDepth 100000 in
set_option maxHeartbeats 1000000 in
theorem size_ed (s : ByteArray) (w : World) (hs : 0 < s.size) (hc1 : b s 0 = 237) : Calls Tryd.prog 63 #[.string s] w fun e w' => e = .returned (.int .i64 (sz s 0)) ∧ w' = w := by
  have hb := b_eq s 0 hs
  have h1 := b_lt s 0
  obtain ⟨K, hK⟩ : ∃ K, sz s 0 = K := ⟨_, rfl⟩
  have HK := Lib.hid hK
  have hs0 : (0 : Int) < (s.size : Int) := by omega
  rw [hK]
  clear hK
  have a1b : Calls Tryd.prog 80 #[.string s, .int .i64 1, .int .u8 128, .int .u8 159] w fun e w' => e = .returned (.bool (on s 1 128 159)) ∧ w' = w := at_any s 1 128 159 w
  have a2 : Calls Tryd.prog 80 #[.string s, .int .i64 2, .int .u8 128, .int .u8 191] w fun e w' => e = .returned (.bool (on s 2 128 191)) ∧ w' = w := at_any s 2 128 191 w
  obtain ⟨c, hc⟩ : ∃ c, b s 0 = c := ⟨_, rfl⟩
  have HC := Lib.hid hc
  rw [hc] at hb h1 hc1
  clear hc
  subst hc1
  go_enter Tryd.func63, Tryd.ntmps63
  go_wp2_with fail
  refine a1b.mono ?_
  rintro e w' ⟨rfl, rfl⟩
  cases h_a1b : on s 1 128 159
  · go_wp2_with fail
    all_goals
      go_ret
      refine size_open HK.out ?_
      unfold sz
      simp only [HC.out, Nat.zero_add, h_a1b, and_true, and_false, true_and, false_and, Bool.false_eq_true, if_false, if_true]
      repeat first | rw [if_neg (by omega)] | rw [if_pos (by omega)]
  · go_wp2_with fail
    refine a2.mono ?_
    rintro e w' ⟨rfl, rfl⟩
    cases h_a2 : on s 2 128 191
    · go_wp2_with fail
      all_goals
        go_ret
        refine size_open HK.out ?_
        unfold sz
        simp only [HC.out, Nat.zero_add, h_a1b, h_a2, and_true, and_false, true_and, false_and, Bool.false_eq_true, if_false, if_true]
        repeat first | rw [if_neg (by omega)] | rw [if_pos (by omega)]
    · go_wp2_with fail
      all_goals
        go_ret
        refine size_open HK.out ?_
        unfold sz
        simp only [HC.out, Nat.zero_add, h_a1b, h_a2, and_true, and_false, true_and, false_and, Bool.false_eq_true, if_false, if_true]
        repeat first | rw [if_neg (by omega)] | rw [if_pos (by omega)]
set_option maxRecDepth 100000 in
set_option maxHeartbeats 1000000 in
theorem size_ee (s : ByteArray) (w : World) (hs : 0 < s.size) (hc1 : 237 < b s 0 ∧ b s 0 ≤ 239) : Calls Tryd.prog 63 #[.string s] w fun e w' => e = .returned (.int .i64 (sz s 0)) ∧ w' = w := by
  have hb := b_eq s 0 hs
  have h1 := b_lt s 0
  obtain ⟨K, hK⟩ : ∃ K, sz s 0 = K := ⟨_, rfl⟩
  have HK := Lib.hid hK
  have hs0 : (0 : Int) < (s.size : Int) := by omega
  rw [hK]
  clear hK
  have a1 : Calls Tryd.prog 80 #[.string s, .int .i64 1, .int .u8 128, .int .u8 191] w fun e w' => e = .returned (.bool (on s 1 128 191)) ∧ w' = w := at_any s 1 128 191 w
  have a2 : Calls Tryd.prog 80 #[.string s, .int .i64 2, .int .u8 128, .int .u8 191] w fun e w' => e = .returned (.bool (on s 2 128 191)) ∧ w' = w := at_any s 2 128 191 w
  obtain ⟨c, hc⟩ : ∃ c, b s 0 = c := ⟨_, rfl⟩
  have HC := Lib.hid hc
  rw [hc] at hb h1 hc1
  clear hc
  go_enter Tryd.func63, Tryd.ntmps63
  go_wp2_with fail
  refine a1.mono ?_
  rintro e w' ⟨rfl, rfl⟩
  cases h_a1 : on s 1 128 191
  · go_wp2_with fail
    all_goals
      go_ret
      refine size_open HK.out ?_
      unfold sz
      simp only [HC.out, Nat.zero_add, h_a1, and_true, and_false, true_and, false_and, Bool.false_eq_true, if_false, if_true]
      repeat first | rw [if_neg (by omega)] | rw [if_pos (by omega)]
  · go_wp2_with fail
    refine a2.mono ?_
    rintro e w' ⟨rfl, rfl⟩
    cases h_a2 : on s 2 128 191
    · go_wp2_with fail
      all_goals
        go_ret
        refine size_open HK.out ?_
        unfold sz
        simp only [HC.out, Nat.zero_add, h_a1, h_a2, and_true, and_false, true_and, false_and, Bool.false_eq_true, if_false, if_true]
        repeat first | rw [if_neg (by omega)] | rw [if_pos (by omega)]
    · go_wp2_with fail
      all_goals
        go_ret
        refine size_open HK.out ?_
        unfold sz
        simp only [HC.out, Nat.zero_add, h_a1, h_a2, and_true, and_false, true_and, false_and, Bool.false_eq_true, if_false, if_true]
        repeat first | rw [if_neg (by omega)] | rw [if_pos (by omega)]
set_option maxRecDepth 100000 in
set_option maxHeartbeats 1000000 in
theorem size_f0 (s : ByteArray) (w : World) (hs : 0 < s.size) (hc1 : b s 0 = 240) : Calls Tryd.prog 63 #[.string s] w fun e w' => e = .returned (.int .i64 (sz s 0)) ∧ w' = w := by
  have hb := b_eq s 0 hs
  have h1 := b_lt s 0
  obtain ⟨K, hK⟩ : ∃ K, sz s 0 = K := ⟨_, rfl⟩
  have HK := Lib.hid hK
  have hs0 : (0 : Int) < (s.size : Int) := by omega
  rw [hK]
  clear hK
  have a1c : Calls Tryd.prog 80 #[.string s, .int .i64 1, .int .u8 144, .int .u8 191] w fun e w' => e = .returned (.bool (on s 1 144 191)) ∧ w' = w := at_any s 1 144 191 w
  have a2 : Calls Tryd.prog 80 #[.string s, .int .i64 2, .int .u8 128, .int .u8 191] w fun e w' => e = .returned (.bool (on s 2 128 191)) ∧ w' = w := at_any s 2 128 191 w
  have a3 : Calls Tryd.prog 80 #[.string s, .int .i64 3, .int .u8 128, .int .u8 191] w fun e w' => e = .returned (.bool (on s 3 128 191)) ∧ w' = w := at_any s 3 128 191 w
  obtain ⟨c, hc⟩ : ∃ c, b s 0 = c := ⟨_, rfl⟩
  have HC := Lib.hid hc
  rw [hc] at hb h1 hc1
  clear hc
  subst hc1
  go_enter Tryd.func63, Tryd.ntmps63
  go_wp2_with fail
  refine a1c.mono ?_
  rintro e w' ⟨rfl, rfl⟩
  cases h_a1c : on s 1 144 191
  · go_wp2_with fail
    all_goals
      go_ret
      refine size_open HK.out ?_
      unfold sz
      simp only [HC.out, Nat.zero_add, h_a1c, and_true, and_false, true_and, false_and, Bool.false_eq_true, if_false, if_true]
      repeat first | rw [if_neg (by omega)] | rw [if_pos (by omega)]
  · go_wp2_with fail
    refine a2.mono ?_
    rintro e w' ⟨rfl, rfl⟩
    cases h_a2 : on s 2 128 191
    · go_wp2_with fail
      all_goals
        go_ret
        refine size_open HK.out ?_
        unfold sz
        simp only [HC.out, Nat.zero_add, h_a1c, h_a2, and_true, and_false, true_and, false_and, Bool.false_eq_true, if_false, if_true]
        repeat first | rw [if_neg (by omega)] | rw [if_pos (by omega)]
    · go_wp2_with fail
      refine a3.mono ?_
      rintro e w' ⟨rfl, rfl⟩
      cases h_a3 : on s 3 128 191
      · go_wp2_with fail
        all_goals
          go_ret
          refine size_open HK.out ?_
          unfold sz
          simp only [HC.out, Nat.zero_add, h_a1c, h_a2, h_a3, and_true, and_false, true_and, false_and, Bool.false_eq_true, if_false, if_true]
          repeat first | rw [if_neg (by omega)] | rw [if_pos (by omega)]
      · go_wp2_with fail
        all_goals
          go_ret
          refine size_open HK.out ?_
          unfold sz
          simp only [HC.out, Nat.zero_add, h_a1c, h_a2, h_a3, and_true, and_false, true_and, false_and, Bool.false_eq_true, if_false, if_true]
          repeat first | rw [if_neg (by omega)] | rw [if_pos (by omega)]
set_option maxRecDepth 100000 in
set_option maxHeartbeats 1000000 in
theorem size_f1 (s : ByteArray) (w : World) (hs : 0 < s.size) (hc1 : 241 ≤ b s 0 ∧ b s 0 ≤ 243) : Calls Tryd.prog 63 #[.string s] w fun e w' => e = .returned (.int .i64 (sz s 0)) ∧ w' = w := by
  have hb := b_eq s 0 hs
  have h1 := b_lt s 0
  obtain ⟨K, hK⟩ : ∃ K, sz s 0 = K := ⟨_, rfl⟩
  have HK := Lib.hid hK
  have hs0 : (0 : Int) < (s.size : Int) := by omega
  rw [hK]
  clear hK
  have a1 : Calls Tryd.prog 80 #[.string s, .int .i64 1, .int .u8 128, .int .u8 191] w fun e w' => e = .returned (.bool (on s 1 128 191)) ∧ w' = w := at_any s 1 128 191 w
  have a2 : Calls Tryd.prog 80 #[.string s, .int .i64 2, .int .u8 128, .int .u8 191] w fun e w' => e = .returned (.bool (on s 2 128 191)) ∧ w' = w := at_any s 2 128 191 w
  have a3 : Calls Tryd.prog 80 #[.string s, .int .i64 3, .int .u8 128, .int .u8 191] w fun e w' => e = .returned (.bool (on s 3 128 191)) ∧ w' = w := at_any s 3 128 191 w
  obtain ⟨c, hc⟩ : ∃ c, b s 0 = c := ⟨_, rfl⟩
  have HC := Lib.hid hc
  rw [hc] at hb h1 hc1
  clear hc
  go_enter Tryd.func63, Tryd.ntmps63
  go_wp2_with fail
  refine a1.mono ?_
  rintro e w' ⟨rfl, rfl⟩
  cases h_a1 : on s 1 128 191
  · go_wp2_with fail
    all_goals
      go_ret
      refine size_open HK.out ?_
      unfold sz
      simp only [HC.out, Nat.zero_add, h_a1, and_true, and_false, true_and, false_and, Bool.false_eq_true, if_false, if_true]
      repeat first | rw [if_neg (by omega)] | rw [if_pos (by omega)]
  · go_wp2_with fail
    refine a2.mono ?_
    rintro e w' ⟨rfl, rfl⟩
    cases h_a2 : on s 2 128 191
    · go_wp2_with fail
      all_goals
        go_ret
        refine size_open HK.out ?_
        unfold sz
        simp only [HC.out, Nat.zero_add, h_a1, h_a2, and_true, and_false, true_and, false_and, Bool.false_eq_true, if_false, if_true]
        repeat first | rw [if_neg (by omega)] | rw [if_pos (by omega)]
    · go_wp2_with fail
      refine a3.mono ?_
      rintro e w' ⟨rfl, rfl⟩
      cases h_a3 : on s 3 128 191
      · go_wp2_with fail
        all_goals
          go_ret
          refine size_open HK.out ?_
          unfold sz
          simp only [HC.out, Nat.zero_add, h_a1, h_a2, h_a3, and_true, and_false, true_and, false_and, Bool.false_eq_true, if_false, if_true]
          repeat first | rw [if_neg (by omega)] | rw [if_pos (by omega)]
      · go_wp2_with fail
        all_goals
          go_ret
          refine size_open HK.out ?_
          unfold sz
          simp only [HC.out, Nat.zero_add, h_a1, h_a2, h_a3, and_true, and_false, true_and, false_and, Bool.false_eq_true, if_false, if_true]
          repeat first | rw [if_neg (by omega)] | rw [if_pos (by omega)]
set_option maxRecDepth 100000 in
set_option maxHeartbeats 1000000 in
theorem size_f4 (s : ByteArray) (w : World) (hs : 0 < s.size) (hc1 : b s 0 = 244) : Calls Tryd.prog 63 #[.string s] w fun e w' => e = .returned (.int .i64 (sz s 0)) ∧ w' = w := by
  have hb := b_eq s 0 hs
  have h1 := b_lt s 0
  obtain ⟨K, hK⟩ : ∃ K, sz s 0 = K := ⟨_, rfl⟩
  have HK := Lib.hid hK
  have hs0 : (0 : Int) < (s.size : Int) := by omega
  rw [hK]
  clear hK
  have a1d : Calls Tryd.prog 80 #[.string s, .int .i64 1, .int .u8 128, .int .u8 143] w fun e w' => e = .returned (.bool (on s 1 128 143)) ∧ w' = w := at_any s 1 128 143 w
  have a2 : Calls Tryd.prog 80 #[.string s, .int .i64 2, .int .u8 128, .int .u8 191] w fun e w' => e = .returned (.bool (on s 2 128 191)) ∧ w' = w := at_any s 2 128 191 w
  have a3 : Calls Tryd.prog 80 #[.string s, .int .i64 3, .int .u8 128, .int .u8 191] w fun e w' => e = .returned (.bool (on s 3 128 191)) ∧ w' = w := at_any s 3 128 191 w
  obtain ⟨c, hc⟩ : ∃ c, b s 0 = c := ⟨_, rfl⟩
  have HC := Lib.hid hc
  rw [hc] at hb h1 hc1
  clear hc
  subst hc1
  go_enter Tryd.func63, Tryd.ntmps63
  go_wp2_with fail
  refine a1d.mono ?_
  rintro e w' ⟨rfl, rfl⟩
  cases h_a1d : on s 1 128 143
  · go_wp2_with fail
    all_goals
      go_ret
      refine size_open HK.out ?_
      unfold sz
      simp only [HC.out, Nat.zero_add, h_a1d, and_true, and_false, true_and, false_and, Bool.false_eq_true, if_false, if_true]
      repeat first | rw [if_neg (by omega)] | rw [if_pos (by omega)]
  · go_wp2_with fail
    refine a2.mono ?_
    rintro e w' ⟨rfl, rfl⟩
    cases h_a2 : on s 2 128 191
    · go_wp2_with fail
      all_goals
        go_ret
        refine size_open HK.out ?_
        unfold sz
        simp only [HC.out, Nat.zero_add, h_a1d, h_a2, and_true, and_false, true_and, false_and, Bool.false_eq_true, if_false, if_true]
        repeat first | rw [if_neg (by omega)] | rw [if_pos (by omega)]
    · go_wp2_with fail
      refine a3.mono ?_
      rintro e w' ⟨rfl, rfl⟩
      cases h_a3 : on s 3 128 191
      · go_wp2_with fail
        all_goals
          go_ret
          refine size_open HK.out ?_
          unfold sz
          simp only [HC.out, Nat.zero_add, h_a1d, h_a2, h_a3, and_true, and_false, true_and, false_and, Bool.false_eq_true, if_false, if_true]
          repeat first | rw [if_neg (by omega)] | rw [if_pos (by omega)]
      · go_wp2_with fail
        all_goals
          go_ret
          refine size_open HK.out ?_
          unfold sz
          simp only [HC.out, Nat.zero_add, h_a1d, h_a2, h_a3, and_true, and_false, true_and, false_and, Bool.false_eq_true, if_false, if_true]
          repeat first | rw [if_neg (by omega)] | rw [if_pos (by omega)]
set_option maxRecDepth 100000 in
set_option maxHeartbeats 1000000 in
theorem size_hi (s : ByteArray) (w : World) (hs : 0 < s.size) (hc1 : 244 < b s 0) : Calls Tryd.prog 63 #[.string s] w fun e w' => e = .returned (.int .i64 (sz s 0)) ∧ w' = w := by
  have hb := b_eq s 0 hs
  have h1 := b_lt s 0
  obtain ⟨K, hK⟩ : ∃ K, sz s 0 = K := ⟨_, rfl⟩
  have HK := Lib.hid hK
  have hs0 : (0 : Int) < (s.size : Int) := by omega
  rw [hK]
  clear hK
  obtain ⟨c, hc⟩ : ∃ c, b s 0 = c := ⟨_, rfl⟩
  have HC := Lib.hid hc
  rw [hc] at hb h1 hc1
  clear hc
  go_enter Tryd.func63, Tryd.ntmps63
  go_wp2_with fail
  all_goals
    go_ret
    refine size_open HK.out ?_
    unfold sz
    simp only [HC.out, Nat.zero_add, and_true, and_false, true_and, false_and, Bool.false_eq_true, if_false, if_true]
    repeat first | rw [if_neg (by omega)] | rw [if_pos (by omega)]
theorem size_any (s : ByteArray) (w : World) (hs : 0 < s.size) : Calls Tryd.prog 63 #[.string s] w fun e w' => e = .returned (.int .i64 (sz s 0)) ∧ w' = w := by
  rcases (by omega : b s 0 < 128 ∨ (128 ≤ b s 0 ∧ b s 0 < 194) ∨ (194 ≤ b s 0 ∧ b s 0 ≤ 223) ∨ b s 0 = 224 ∨ (225 ≤ b s 0 ∧ b s 0 < 237) ∨ b s 0 = 237 ∨ (237 < b s 0 ∧ b s 0 ≤ 239) ∨ b s 0 = 240 ∨ (241 ≤ b s 0 ∧ b s 0 ≤ 243) ∨ b s 0 = 244 ∨ 244 < b s 0) with hr | hr | hr | hr | hr | hr | hr | hr | hr | hr | hr
  · exact size_lo s w hs hr
  · exact size_no s w hs hr
  · exact size_two s w hs hr
  · exact size_e0 s w hs hr
  · exact size_e1 s w hs hr
  · exact size_ed s w hs hr
  · exact size_ee s w hs hr
  · exact size_f0 s w hs hr
  · exact size_f1 s w hs hr
  · exact size_f4 s w hs hr
  · exact size_hi s w hs hr
end Txt
end Go.Proofs.YtgolnfgkoolpoaaDoor

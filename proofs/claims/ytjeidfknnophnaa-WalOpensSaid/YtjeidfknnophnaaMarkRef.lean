/-
The contract of the reference's Marked.
-/
import Derived.Test.YtjeidfknnophnaaWalMath
import Derived.IntWalk
namespace Go.Proofs.Ytjeidfknnophnaa
open Go.RowKit
set_option linter.unusedVariables false
namespace Wal

theorem and_one8 (x : Int) (h : 0 ≤ x ∧ x < 256) : bits .and .u8 x 1 = x % 2 := by
  obtain ⟨n, rfl⟩ := Int.eq_ofNat_of_zero_le h.1
  have hn : n < 256 := by omega
  show IntKind.u8.wrap ((BitVec.ofInt 8 (n : Int) &&& BitVec.ofInt 8 1).toNat : Int) = _
  have e : (BitVec.ofInt 8 (n : Int) &&& BitVec.ofInt 8 1).toNat = n % 2 := by
    rw [BitVec.toNat_and, BitVec.ofInt_natCast, BitVec.toNat_ofNat, Nat.mod_eq_of_lt (by omega)]
    exact Nat.and_one_is_mod n
  rw [e, IntKind.wrap_u8]
  omega
theorem mark_bits (z : Int) (h : 0 ≤ z ∧ z < 256) (p : Nat) : bits .and .u8 (z / 2 ^ p) 1 = z / 2 ^ p % 2 := by
  obtain ⟨n, rfl⟩ := Int.eq_ofNat_of_zero_le h.1
  have h2 : (0 : Nat) < 2 ^ p := Nat.two_pow_pos p
  have e : ((n : Nat) : Int) / 2 ^ p = ((n / 2 ^ p : Nat) : Int) := by simp
  rw [e]
  have := Nat.div_le_self n (2 ^ p)
  generalize n / 2 ^ p = q at *
  exact and_one8 _ ⟨by omega, by omega⟩

set_option maxRecDepth 100000 in
set_option maxHeartbeats 4000000 in
theorem refMarked_any (a : Option Addr) (len cap : Nat) (zs : List Int) (w : World) (hr : Row w a len zs) (hl : len ≤ 4096) :
    Calls Try.prog 44 #[.slice a len cap] w fun e w' => ∃ n : Nat, e = .returned (.int .i64 n) ∧ w = w' ∧ n ≤ 8 * len ∧ (∀ i, i < n → mark zs i = true) ∧ (n < 8 * len → mark zs n = false) := by
  have HR := Lib.hid hr
  have hc := hr.count
  clear hr
  go_enter Try.func44, Try.ntmps44
  go_wp2_with fail
  go_loopw [3] (fun i u => ∃ k : Nat, k ≤ 8 * len ∧ i = .int .i64 k ∧ (∀ j, j < k → mark zs j = true) ∧ w = u) (fun i _ => 8 * len - (intOf i).toNat)
  case atStart => exact ⟨0, by omega, rfl, fun j hj => absurd hj (by omega), rfl⟩
  case round =>
    obtain ⟨k, hk, rfl, hm, rfl⟩ := hrel
    have HM := Lib.hid hm
    clear hm
    by_cases hlt : k < 8 * len
    · obtain ⟨b, off, rfl, hb, hcell⟩ := HR.out.cells (by omega)
      have c0 := hcell (k / 8) (by omega)
      have hq : IntKind.i64.wrap ((k : Int).tdiv 8) = ((k / 8 : Nat) : Int) := by
        rw [IntWalk.i64_quo _ _ (by omega)]; omega
      have q0 : (0 : Int) ≤ ((k / 8 : Nat) : Int) := by omega
      have q1 : ((k / 8 : Nat) : Int) < len := by omega
      have hby := HR.out.byt.getD (k / 8)
      obtain ⟨z, hz⟩ : ∃ z, zs.getD (k / 8) 0 = z := ⟨_, rfl⟩
      rw [hz] at c0 hby
      have hd : decide ((k : Int) < 8 * (len : Int)) = true := by simp; omega
      clear hcell
      obtain ⟨y, hy⟩ : ∃ y, z / 2 ^ (7 - k % 8) = y := ⟨_, rfl⟩
      have hyb : bits .and .u8 y 1 = y % 2 := by rw [← hy]; exact mark_bits z hby _
      have hy0 := hy
      rcases (show k % 8 = 0 ∨ k % 8 = 1 ∨ k % 8 = 2 ∨ k % 8 = 3 ∨ k % 8 = 4 ∨ k % 8 = 5 ∨ k % 8 = 6 ∨ k % 8 = 7 by omega) with h8 | h8 | h8 | h8 | h8 | h8 | h8 | h8
      · have hrem : (k : Int) % 8 = 0 := by omega
        have hzy : z / 128 = y := by rw [← hy, h8]; rfl
        clear hy h8
        by_cases hbit : y % 2 = 1
        · have hand : bits .and .u8 y 1 = 1 := by rw [hyb, hbit]
          have hmk : mark zs k = true := by unfold mark; rw [hz, hy0]; simpa using hbit
          have HMK := Lib.hid hmk
          clear hyb hbit hmk hy0 hz
          go_wp2_with fail
          refine ⟨⟨k + 1, by omega, by go_num, fun j hj => ?_, by trivial⟩, ?_⟩
          · by_cases e : j = k
            · subst e; exact HMK.out
            · exact HM.out j (by omega)
          · simp [intOf]; omega
        · have hb0 : y % 2 = 0 := by omega
          have hand : bits .and .u8 y 1 = 0 := by rw [hyb, hb0]
          have hmk : mark zs k = false := by unfold mark; rw [hz, hy0]; simpa using hbit
          have HMK := Lib.hid hmk
          clear hyb hbit hb0 hmk hy0 hz
          go_wp2_with fail
          go_ret
          exact ⟨k, rfl, rfl, by omega, HM.out, fun _ => HMK.out⟩
      · have hrem : (k : Int) % 8 = 1 := by omega
        have hzy : z / 64 = y := by rw [← hy, h8]; rfl
        clear hy h8
        by_cases hbit : y % 2 = 1
        · have hand : bits .and .u8 y 1 = 1 := by rw [hyb, hbit]
          have hmk : mark zs k = true := by unfold mark; rw [hz, hy0]; simpa using hbit
          have HMK := Lib.hid hmk
          clear hyb hbit hmk hy0 hz
          go_wp2_with fail
          refine ⟨⟨k + 1, by omega, by go_num, fun j hj => ?_, by trivial⟩, ?_⟩
          · by_cases e : j = k
            · subst e; exact HMK.out
            · exact HM.out j (by omega)
          · simp [intOf]; omega
        · have hb0 : y % 2 = 0 := by omega
          have hand : bits .and .u8 y 1 = 0 := by rw [hyb, hb0]
          have hmk : mark zs k = false := by unfold mark; rw [hz, hy0]; simpa using hbit
          have HMK := Lib.hid hmk
          clear hyb hbit hb0 hmk hy0 hz
          go_wp2_with fail
          go_ret
          exact ⟨k, rfl, rfl, by omega, HM.out, fun _ => HMK.out⟩
      · have hrem : (k : Int) % 8 = 2 := by omega
        have hzy : z / 32 = y := by rw [← hy, h8]; rfl
        clear hy h8
        by_cases hbit : y % 2 = 1
        · have hand : bits .and .u8 y 1 = 1 := by rw [hyb, hbit]
          have hmk : mark zs k = true := by unfold mark; rw [hz, hy0]; simpa using hbit
          have HMK := Lib.hid hmk
          clear hyb hbit hmk hy0 hz
          go_wp2_with fail
          refine ⟨⟨k + 1, by omega, by go_num, fun j hj => ?_, by trivial⟩, ?_⟩
          · by_cases e : j = k
            · subst e; exact HMK.out
            · exact HM.out j (by omega)
          · simp [intOf]; omega
        · have hb0 : y % 2 = 0 := by omega
          have hand : bits .and .u8 y 1 = 0 := by rw [hyb, hb0]
          have hmk : mark zs k = false := by unfold mark; rw [hz, hy0]; simpa using hbit
          have HMK := Lib.hid hmk
          clear hyb hbit hb0 hmk hy0 hz
          go_wp2_with fail
          go_ret
          exact ⟨k, rfl, rfl, by omega, HM.out, fun _ => HMK.out⟩
      · have hrem : (k : Int) % 8 = 3 := by omega
        have hzy : z / 16 = y := by rw [← hy, h8]; rfl
        clear hy h8
        by_cases hbit : y % 2 = 1
        · have hand : bits .and .u8 y 1 = 1 := by rw [hyb, hbit]
          have hmk : mark zs k = true := by unfold mark; rw [hz, hy0]; simpa using hbit
          have HMK := Lib.hid hmk
          clear hyb hbit hmk hy0 hz
          go_wp2_with fail
          refine ⟨⟨k + 1, by omega, by go_num, fun j hj => ?_, by trivial⟩, ?_⟩
          · by_cases e : j = k
            · subst e; exact HMK.out
            · exact HM.out j (by omega)
          · simp [intOf]; omega
        · have hb0 : y % 2 = 0 := by omega
          have hand : bits .and .u8 y 1 = 0 := by rw [hyb, hb0]
          have hmk : mark zs k = false := by unfold mark; rw [hz, hy0]; simpa using hbit
          have HMK := Lib.hid hmk
          clear hyb hbit hb0 hmk hy0 hz
          go_wp2_with fail
          go_ret
          exact ⟨k, rfl, rfl, by omega, HM.out, fun _ => HMK.out⟩
      · have hrem : (k : Int) % 8 = 4 := by omega
        have hzy : z / 8 = y := by rw [← hy, h8]; rfl
        clear hy h8
        by_cases hbit : y % 2 = 1
        · have hand : bits .and .u8 y 1 = 1 := by rw [hyb, hbit]
          have hmk : mark zs k = true := by unfold mark; rw [hz, hy0]; simpa using hbit
          have HMK := Lib.hid hmk
          clear hyb hbit hmk hy0 hz
          go_wp2_with fail
          refine ⟨⟨k + 1, by omega, by go_num, fun j hj => ?_, by trivial⟩, ?_⟩
          · by_cases e : j = k
            · subst e; exact HMK.out
            · exact HM.out j (by omega)
          · simp [intOf]; omega
        · have hb0 : y % 2 = 0 := by omega
          have hand : bits .and .u8 y 1 = 0 := by rw [hyb, hb0]
          have hmk : mark zs k = false := by unfold mark; rw [hz, hy0]; simpa using hbit
          have HMK := Lib.hid hmk
          clear hyb hbit hb0 hmk hy0 hz
          go_wp2_with fail
          go_ret
          exact ⟨k, rfl, rfl, by omega, HM.out, fun _ => HMK.out⟩
      · have hrem : (k : Int) % 8 = 5 := by omega
        have hzy : z / 4 = y := by rw [← hy, h8]; rfl
        clear hy h8
        by_cases hbit : y % 2 = 1
        · have hand : bits .and .u8 y 1 = 1 := by rw [hyb, hbit]
          have hmk : mark zs k = true := by unfold mark; rw [hz, hy0]; simpa using hbit
          have HMK := Lib.hid hmk
          clear hyb hbit hmk hy0 hz
          go_wp2_with fail
          refine ⟨⟨k + 1, by omega, by go_num, fun j hj => ?_, by trivial⟩, ?_⟩
          · by_cases e : j = k
            · subst e; exact HMK.out
            · exact HM.out j (by omega)
          · simp [intOf]; omega
        · have hb0 : y % 2 = 0 := by omega
          have hand : bits .and .u8 y 1 = 0 := by rw [hyb, hb0]
          have hmk : mark zs k = false := by unfold mark; rw [hz, hy0]; simpa using hbit
          have HMK := Lib.hid hmk
          clear hyb hbit hb0 hmk hy0 hz
          go_wp2_with fail
          go_ret
          exact ⟨k, rfl, rfl, by omega, HM.out, fun _ => HMK.out⟩
      · have hrem : (k : Int) % 8 = 6 := by omega
        have hzy : z / 2 = y := by rw [← hy, h8]; rfl
        clear hy h8
        by_cases hbit : y % 2 = 1
        · have hand : bits .and .u8 y 1 = 1 := by rw [hyb, hbit]
          have hmk : mark zs k = true := by unfold mark; rw [hz, hy0]; simpa using hbit
          have HMK := Lib.hid hmk
          clear hyb hbit hmk hy0 hz
          go_wp2_with fail
          refine ⟨⟨k + 1, by omega, by go_num, fun j hj => ?_, by trivial⟩, ?_⟩
          · by_cases e : j = k
            · subst e; exact HMK.out
            · exact HM.out j (by omega)
          · simp [intOf]; omega
        · have hb0 : y % 2 = 0 := by omega
          have hand : bits .and .u8 y 1 = 0 := by rw [hyb, hb0]
          have hmk : mark zs k = false := by unfold mark; rw [hz, hy0]; simpa using hbit
          have HMK := Lib.hid hmk
          clear hyb hbit hb0 hmk hy0 hz
          go_wp2_with fail
          go_ret
          exact ⟨k, rfl, rfl, by omega, HM.out, fun _ => HMK.out⟩
      · have hrem : (k : Int) % 8 = 7 := by omega
        have hzy : y = z := by rw [← hy, h8]; simp
        subst hzy
        clear hy h8
        by_cases hbit : y % 2 = 1
        · have hand : bits .and .u8 y 1 = 1 := by rw [hyb, hbit]
          have hmk : mark zs k = true := by unfold mark; rw [hz, hy0]; simpa using hbit
          have HMK := Lib.hid hmk
          clear hyb hbit hmk hy0 hz
          go_wp2_with fail
          refine ⟨⟨k + 1, by omega, by go_num, fun j hj => ?_, by trivial⟩, ?_⟩
          · by_cases e : j = k
            · subst e; exact HMK.out
            · exact HM.out j (by omega)
          · simp [intOf]; omega
        · have hb0 : y % 2 = 0 := by omega
          have hand : bits .and .u8 y 1 = 0 := by rw [hyb, hb0]
          have hmk : mark zs k = false := by unfold mark; rw [hz, hy0]; simpa using hbit
          have HMK := Lib.hid hmk
          clear hyb hbit hb0 hmk hy0 hz
          go_wp2_with fail
          go_ret
          exact ⟨k, rfl, rfl, by omega, HM.out, fun _ => HMK.out⟩
    · obtain rfl : k = 8 * len := by omega
      have hd : decide (((8 * len : Nat) : Int) < 8 * (len : Int)) = false := by simp
      go_wp2_with fail
      go_ret
      exact ⟨8 * len, rfl, rfl, by omega, HM.out, fun h => by omega⟩
end Wal
end Go.Proofs.Ytjeidfknnophnaa

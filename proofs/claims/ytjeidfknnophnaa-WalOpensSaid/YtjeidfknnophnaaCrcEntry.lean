/-
The contracts of the two halvings of a byte: the code's crc.entry and the reference's Entry both tell eight halvings.
-/
import Derived.Test.YtjeidfknnophnaaProg
import Derived.Test.YtjeidfknnophnaaCrcMath
import Derived.ProofKit
import Derived.OpenShut
namespace Go.Proofs.Ytjeidfknnophnaa
open Go.RowKit
set_option linter.unusedVariables false
namespace Crc

theorem u32_eq {a b : Int} (h : a = b) : Value.int .u32 a = Value.int .u32 b := by rw [h]

/-- The number m stands for the state behind k halvings of n. -/
def Is (n : BitVec 32) (k : Nat) (m : Int) : Prop := m = num (it k n)
theorem Is.bounds {n k m} (h : Is n k m) : 0 ≤ m ∧ m < 4294967296 := by
  have g0 := num_nonneg (it k n)
  have g1 := num_lt (it k n)
  unfold Is at h; omega
theorem Is.on {n k m} (h : Is n k m) (t : (bits .and .u32 m 1 == 1) = true) : Is n (k + 1) (bits .xor .u32 (m / 2) 3988292384) := by
  unfold Is at *
  subst h
  rw [num_bit] at t
  have hx : (it k n).getLsbD 0 = true := by
    cases hb : (it k n).getLsbD 0 with
    | true => rfl
    | false => rw [hb] at t; exact absurd t (by decide)
  rw [num_shr1, show (3988292384 : Int) = num poly from rfl, num_xor]
  simp only [it]
  unfold stp; rw [if_pos hx]
theorem Is.off {n k m} (h : Is n k m) (t : (bits .and .u32 m 1 == 1) = false) : Is n (k + 1) (m / 2) := by
  unfold Is at *
  subst h
  rw [num_bit] at t
  have hx : (it k n).getLsbD 0 = false := by
    cases hb : (it k n).getLsbD 0 with
    | false => rfl
    | true => rw [hb] at t; exact absurd t (by decide)
  rw [num_shr1]
  simp only [it]
  unfold stp; rw [if_neg (by rw [hx]; decide)]

theorem entry_any (n : BitVec 32) (m : Int) (hm : m = num n) (w : World) :
    Calls Try.prog 64 #[.int .u32 m] w fun e w' => e = .returned (.int .u32 (num (tab n))) ∧ w = w' := by
  have g : Is n 0 m := hm
  have gb := g.bounds
  clear hm
  go_enter Try.func64, Try.ntmps64
  go_wp2
  go_loop [0, 3, 4] (fun x d i => ∃ k : Nat, ∃ m : Int, k ≤ 8 ∧ i = .int .i64 k ∧ x = .int .u32 m ∧ Is n k m) (fun _ _ i => 8 - (intOf i).toNat)
  case atStart => exact ⟨0, m, by omega, rfl, rfl, g⟩
  case round =>
    clear gb g m
    obtain ⟨k, m, hk, rfl, rfl, g⟩ := hrel
    obtain ⟨hm0, hm1⟩ := g.bounds
    go_wp2
    · go_round
      case rel => exact ⟨k + 1, _, by omega, by go_num, rfl, g.on (by assumption)⟩
      case measure => simp [intOf]; omega
    · go_round
      case rel => exact ⟨k + 1, _, by omega, by go_num, rfl, g.off (by assumption)⟩
      case measure => simp [intOf]; omega
    · go_ret
      have : k = 8 := by omega
      subst this
      exact ⟨by rw [g]; rfl, rfl⟩
theorem refEntry_any (n : BitVec 32) (m : Int) (hm : m = num n) (hn : m < 256) (w : World) :
    Calls Try.prog 61 #[.int .u8 m] w fun e w' => e = .returned (.int .u32 (num (tab n))) ∧ w = w' := by
  have g : Is n 0 m := hm
  have gb := g.bounds
  clear hm
  go_enter Try.func61, Try.ntmps61
  go_wp2
  go_loop [3, 6] (fun x i => ∃ k : Nat, ∃ m : Int, k ≤ 8 ∧ i = .int .i64 k ∧ x = .int .u32 m ∧ Is n k m) (fun _ i => 8 - (intOf i).toNat)
  case atStart => exact ⟨0, m, by omega, rfl, rfl, g⟩
  case round =>
    clear gb g hn
    obtain ⟨k, m, hk, rfl, rfl, g⟩ := hrel
    obtain ⟨hm0, hm1⟩ := g.bounds
    go_wp2
    · go_round
      case rel => exact ⟨k + 1, _, by omega, by go_num, rfl, g.on (by assumption)⟩
      case measure => simp [intOf]; omega
    · go_round
      case rel => exact ⟨k + 1, _, by omega, by go_num, rfl, g.off (by assumption)⟩
      case measure => simp [intOf]; omega
    · go_ret
      have : k = 8 := by omega
      subst this
      exact ⟨by rw [g]; rfl, rfl⟩
end Crc
end Go.Proofs.Ytjeidfknnophnaa

/-
The plain mathematics of the CRC-32: a halving step, eight of them, the state behind bytes; that it is linear and loses nothing. No program is named here.
-/
import Derived.WalkKit
import Derived.Laws.BitsAllLaws
namespace Go.Proofs.Ytjeidfknnophnaa
namespace Crc

def poly : BitVec 32 := 3988292384#32
/-- One halving. -/
def stp (x : BitVec 32) : BitVec 32 := if x.getLsbD 0 = true then (x >>> 1) ^^^ poly else x >>> 1
/-- n halvings. -/
def it : Nat → BitVec 32 → BitVec 32
  | 0, x => x
  | n + 1, x => stp (it n x)
def tab (x : BitVec 32) : BitVec 32 := it 8 x
/-- The state behind one more byte. -/
def upd (c b : BitVec 32) : BitVec 32 := tab ((c ^^^ b) &&& 255#32) ^^^ (c >>> 8)
def bv (z : Int) : BitVec 32 := BitVec.ofInt 32 z
def fold (c : BitVec 32) (zs : List Int) : BitVec 32 := zs.foldl (fun c z => upd c (bv z)) c
def more (s : BitVec 32) (zs : List Int) : BitVec 32 := ~~~ (fold (~~~ s) zs)
def num (x : BitVec 32) : Int := (x.toNat : Int)

theorem num_nonneg (x : BitVec 32) : 0 ≤ num x := Int.natCast_nonneg _
theorem num_lt (x : BitVec 32) : num x < 4294967296 := by unfold num; have := x.isLt; omega
theorem num_bv (z : Int) (h0 : 0 ≤ z) (h1 : z < 4294967296) : num (bv z) = z := by
  obtain ⟨n, rfl⟩ := Int.eq_ofNat_of_zero_le h0
  unfold num bv
  rw [BitVec.ofInt_natCast, BitVec.toNat_ofNat, Nat.mod_eq_of_lt (by omega)]
theorem bv_num (x : BitVec 32) : bv (num x) = x := by
  unfold num bv
  rw [BitVec.ofInt_natCast, BitVec.ofNat_toNat, BitVec.setWidth_eq]
theorem num_inj {x y : BitVec 32} (h : num x = num y) : x = y := by rw [← bv_num x, ← bv_num y, h]

theorem num_shr1 (x : BitVec 32) : num x / (2 : Int) = num (x >>> 1) := by
  unfold num; rw [BitVec.toNat_ushiftRight, Nat.shiftRight_eq_div_pow]; omega
theorem num_shr8 (x : BitVec 32) : num x / (256 : Int) = num (x >>> 8) := by
  unfold num; rw [BitVec.toNat_ushiftRight, Nat.shiftRight_eq_div_pow]; omega
theorem num_xor (x y : BitVec 32) : bits .xor .u32 (num x) (num y) = num (x ^^^ y) := by
  unfold num; rw [u32_xor_nat _ _ x.isLt y.isLt, BitVec.toNat_xor]
theorem num_low (x : BitVec 32) : num x % (256 : Int) = num (x &&& 255#32) := by
  unfold num; rw [BitVec.toNat_and]
  have : (255#32).toNat = 2 ^ 8 - 1 := rfl
  rw [this, Nat.and_two_pow_sub_one_eq_mod]; omega
theorem num_bit (x : BitVec 32) : bits .and .u32 (num x) 1 = if x.getLsbD 0 = true then 1 else 0 := by
  unfold num
  have h := u32_and_nat x.toNat 1 x.isLt (by omega)
  rw [show ((1 : Nat) : Int) = 1 from rfl] at h
  rw [h, Nat.and_one_is_mod, BitVec.getLsbD, Nat.testBit_zero]
  split <;> simp_all <;> omega
theorem num_not (x : BitVec 32) : bits .xor .u32 (num x) 4294967295 = num (~~~ x) := by
  have : (4294967295 : Int) = num (4294967295#32) := rfl
  rw [this, num_xor, show (4294967295#32) = BitVec.allOnes 32 from rfl, BitVec.xor_allOnes]
theorem num_not' (x : BitVec 32) : bits .xor .u32 4294967295 (num x) = num (~~~ x) := by
  have : (4294967295 : Int) = num (4294967295#32) := rfl
  rw [this, num_xor, show (4294967295#32) = BitVec.allOnes 32 from rfl, BitVec.allOnes_xor]

/-! ### It is linear -/
theorem shr_xor (x y : BitVec 32) (n : Nat) : (x ^^^ y) >>> n = (x >>> n) ^^^ (y >>> n) := by
  ext i; simp
theorem stp_xor (x y : BitVec 32) : stp (x ^^^ y) = stp x ^^^ stp y := by
  unfold stp
  rw [shr_xor, BitVec.getLsbD_xor]
  cases hx : x.getLsbD 0 <;> cases hy : y.getLsbD 0 <;> simp
  · rw [BitVec.xor_assoc]
  · rw [BitVec.xor_assoc, BitVec.xor_assoc, BitVec.xor_comm poly]
  · rw [BitVec.xor_assoc, ← BitVec.xor_assoc poly, BitVec.xor_comm poly, BitVec.xor_assoc, BitVec.xor_self, BitVec.xor_zero]
theorem it_xor (n : Nat) (x y : BitVec 32) : it n (x ^^^ y) = it n x ^^^ it n y := by
  induction n with
  | zero => rfl
  | succ n ih => simp only [it]; rw [ih, stp_xor]
theorem it_add (m n : Nat) (x : BitVec 32) : it (m + n) x = it m (it n x) := by
  induction m with
  | zero => rw [Nat.zero_add]; rfl
  | succ m ih => rw [Nat.succ_add]; simp only [it]; rw [ih]
/-- It loses nothing. -/
theorem stp_zero {x : BitVec 32} (h : stp x = 0#32) : x = 0#32 := by
  have hp : ∀ i, (stp x).getLsbD i = false := fun i => by rw [h]; simp
  have h31 := hp 31
  unfold stp at h31 h
  cases h0 : x.getLsbD 0 with
  | true =>
    simp [h0] at h31
    simp [poly] at h31
  | false =>
    simp only [h0, Bool.false_eq_true, if_false] at h
    apply BitVec.eq_of_getLsbD_eq
    intro i hi
    cases i with
    | zero => simpa using h0
    | succ i =>
      have := congrArg (fun v : BitVec 32 => v.getLsbD i) h
      simp at this
      rw [Nat.add_comm] at this
      simpa using this
theorem xor_eq_zero {x y : BitVec 32} (h : x ^^^ y = 0#32) : x = y := by
  have := congrArg (· ^^^ y) h
  simpa [BitVec.xor_assoc] using this
theorem stp_inj {x y : BitVec 32} (h : stp x = stp y) : x = y :=
  xor_eq_zero (stp_zero (by rw [stp_xor, h, BitVec.xor_self]))
theorem it_inj (n : Nat) {x y : BitVec 32} (h : it n x = it n y) : x = y := by
  induction n with
  | zero => exact h
  | succ n ih => exact ih (stp_inj h)
/-- Where the lowest n bits are none, n halvings only shift. -/
theorem it_shift (n : Nat) (x : BitVec 32) (h : ∀ i, i < n → x.getLsbD i = false) : it n x = x >>> n := by
  induction n with
  | zero => simp [it]
  | succ n ih =>
    simp only [it]
    rw [ih (fun i hi => h i (by omega))]
    unfold stp
    rw [show (x >>> n).getLsbD 0 = false by simpa using h n (by omega)]
    simp only [Bool.false_eq_true, if_false]
    rw [← BitVec.shiftRight_add]
theorem split_mask (x m : BitVec 32) : x = (x &&& m) ^^^ (x &&& ~~~ m) := by
  apply BitVec.eq_of_getLsbD_eq
  intro i hi
  rw [BitVec.getLsbD_xor, BitVec.getLsbD_and, BitVec.getLsbD_and, BitVec.getLsbD_not]
  cases x.getLsbD i <;> cases m.getLsbD i <;> simp [hi]
/-- One byte, on the whole state. -/
theorem upd_it (c b : BitVec 32) (hb : b >>> 8 = 0#32) : upd c b = it 8 (c ^^^ b) := by
  have e := split_mask (c ^^^ b) (255#32)
  have hs : it 8 ((c ^^^ b) &&& ~~~ 255#32) = c >>> 8 := by
    rw [it_shift 8 _ (fun i hi => by
      rw [BitVec.getLsbD_and, BitVec.getLsbD_not]
      have : (255#32).getLsbD i = true := by
        rcases i with _ | _ | _ | _ | _ | _ | _ | _ | i <;> first | rfl | omega
      rw [this]; simp)]
    have : ((c ^^^ b) &&& ~~~ 255#32) >>> 8 = (c >>> 8) ^^^ (b >>> 8) := by
      rw [← shr_xor]
      apply BitVec.eq_of_getLsbD_eq
      intro i hi
      have : (255#32).getLsbD (8 + i) = false := by
        rw [BitVec.getLsbD]; exact Nat.testBit_lt_two_pow (Nat.lt_of_lt_of_le (show (255#32).toNat < 2 ^ 8 by decide) (Nat.pow_le_pow_right (by decide) (by omega)))
      rw [BitVec.getLsbD_ushiftRight, BitVec.getLsbD_ushiftRight, BitVec.getLsbD_and, BitVec.getLsbD_not, this]
      by_cases h8 : 8 + i < 32
      · simp only [h8, decide_true, Bool.not_false, Bool.and_true]
      · rw [BitVec.getLsbD_of_ge (c ^^^ b) (8 + i) (by omega)]; rfl
    rw [this, hb, BitVec.xor_zero]
  unfold upd tab
  conv => rhs; rw [e, it_xor, hs]
theorem bv_small (z : Int) (h0 : 0 ≤ z) (h1 : z < 256) : (bv z) >>> 8 = 0#32 := by
  apply num_inj
  rw [← num_shr8, num_bv z h0 (by omega)]
  show z / 256 = 0
  omega
end Crc
end Go.Proofs.Ytjeidfknnophnaa

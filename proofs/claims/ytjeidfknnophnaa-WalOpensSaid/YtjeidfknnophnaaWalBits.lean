/-
The bits of the marks: one more is set; what a crash leaves of that.
-/
import Derived.Test.YtjeidfknnophnaaWalPure
import Derived.Laws.BitsAllLaws
namespace Go.Proofs.Ytjeidfknnophnaa
open Go.RowKit
set_option linter.unusedVariables false
namespace Wal
open Disk (Sec mixb mix)

theorem mix_at (a b p : List Int) {k : Nat} (hk : k < 64) : (mix a b p).getD k 0 = mixb (a.getD k 0) (b.getD k 0) (p.getD k 0) := by simp [mix, hk]
theorem mix_len (a b p : List Int) : (mix a b p).length = 64 := by simp [mix]

/-- The bit q of a byte. -/
def tb (z : Int) (q : Nat) : Bool := z.toNat.testBit q
theorem tb_div (z : Int) (h : 0 ≤ z) (q : Nat) : (z / 2 ^ q % 2 == 1) = tb z q := by
  obtain ⟨n, rfl⟩ := Int.eq_ofNat_of_zero_le h
  unfold tb
  rw [Int.toNat_natCast, Nat.testBit_eq_decide_div_mod_eq]
  have e : ((n : Int) / 2 ^ q % 2) = ((n / 2 ^ q % 2 : Nat) : Int) := by simp
  rw [e, Bool.eq_iff_iff]
  simp only [beq_iff_eq, decide_eq_true_eq]
  omega
theorem mark_tb {m : List Int} (h : Byte m) (i : Nat) : mark m i = tb (m.getD (i / 8) 0) (7 - i % 8) := by
  unfold mark; exact tb_div _ (h.getD _).1 _
theorem tb_ext {a b : Int} (ha : 0 ≤ a ∧ a < 256) (hb : 0 ≤ b ∧ b < 256) (h : ∀ q, q < 8 → tb a q = tb b q) : a = b := by
  obtain ⟨n, rfl⟩ := Int.eq_ofNat_of_zero_le ha.1
  obtain ⟨k, rfl⟩ := Int.eq_ofNat_of_zero_le hb.1
  congr 1
  apply Nat.eq_of_testBit_eq
  intro q
  by_cases hq : q < 8
  · have := h q hq
    simpa [tb] using this
  · have hp : 2 ^ 8 ≤ 2 ^ q := Nat.pow_le_pow_right (by decide) (by omega)
    rw [Nat.testBit_lt_two_pow (by omega), Nat.testBit_lt_two_pow (by omega)]
theorem or8_byte {a b : Int} (ha : 0 ≤ a ∧ a < 256) (hb : 0 ≤ b ∧ b < 256) : (0 ≤ bits .or .u8 a b ∧ bits .or .u8 a b < 256) ∧ ∀ q, tb (bits .or .u8 a b) q = (tb a q || tb b q) := by
  obtain ⟨n, rfl⟩ := Int.eq_ofNat_of_zero_le ha.1
  obtain ⟨k, rfl⟩ := Int.eq_ofNat_of_zero_le hb.1
  rw [u8_or_nat n k (by omega) (by omega)]
  have := Nat.or_lt_two_pow (n := 8) (show n < 2 ^ 8 by omega) (show k < 2 ^ 8 by omega)
  exact ⟨by omega, fun q => by simp [tb]⟩
theorem and8_byte {a b : Int} (ha : 0 ≤ a ∧ a < 256) (hb : 0 ≤ b ∧ b < 256) : (0 ≤ bits .and .u8 a b ∧ bits .and .u8 a b < 256) ∧ ∀ q, tb (bits .and .u8 a b) q = (tb a q && tb b q) := by
  obtain ⟨n, rfl⟩ := Int.eq_ofNat_of_zero_le ha.1
  obtain ⟨k, rfl⟩ := Int.eq_ofNat_of_zero_le hb.1
  rw [u8_and_nat n k (by omega) (by omega)]
  have := Nat.and_lt_two_pow (n := 8) n (show k < 2 ^ 8 by omega)
  exact ⟨by omega, fun q => by simp [tb]⟩
theorem andNot8_byte {a b : Int} (ha : 0 ≤ a ∧ a < 256) (hb : 0 ≤ b ∧ b < 256) : (0 ≤ bits .andNot .u8 a b ∧ bits .andNot .u8 a b < 256) ∧ ∀ q, q < 8 → tb (bits .andNot .u8 a b) q = (tb a q && !tb b q) := by
  obtain ⟨n, rfl⟩ := Int.eq_ofNat_of_zero_le ha.1
  obtain ⟨k, rfl⟩ := Int.eq_ofNat_of_zero_le hb.1
  rw [u8_andNot_nat n k (by omega) (by omega)]
  have := Nat.and_lt_two_pow (n := 8) n (show 255 - k < 2 ^ 8 by omega)
  refine ⟨by omega, fun q hq => ?_⟩
  have e : (255 - k).testBit q = !k.testBit q := by
    have := Nat.testBit_two_pow_sub_succ (x := k) (n := 8) (by omega) q
    rw [show 2 ^ 8 - (k + 1) = 255 - k by omega] at this
    rw [this]; simp [hq]
  simp [tb, e]
theorem mixb_tb {a b p : Int} (ha : 0 ≤ a ∧ a < 256) (hb : 0 ≤ b ∧ b < 256) (hp : 0 ≤ p ∧ p < 256) : (0 ≤ mixb a b p ∧ mixb a b p < 256) ∧ ∀ q, q < 8 → tb (mixb a b p) q = if tb p q then tb b q else tb a q := by
  have h1 := andNot8_byte ha hp
  have h2 := and8_byte hb hp
  have h3 := or8_byte h1.1 h2.1
  refine ⟨h3.1, fun q hq => ?_⟩
  unfold mixb
  rw [h3.2, h1.2 q hq, h2.2]
  cases tb p q <;> cases tb a q <;> cases tb b q <;> rfl
theorem mixb_self {a p : Int} (ha : 0 ≤ a ∧ a < 256) (hp : 0 ≤ p ∧ p < 256) : mixb a a p = a := by
  have h := mixb_tb ha ha hp
  exact tb_ext h.1 ha fun q hq => by rw [h.2 q hq]; simp

/-- The weight of the bit i in its byte. -/
def wgt (i : Nat) : Int := 2 ^ (7 - i % 8)
theorem wgt_byte (i : Nat) : 0 ≤ wgt i ∧ wgt i < 256 := by
  unfold wgt
  rcases (show i % 8 = 0 ∨ i % 8 = 1 ∨ i % 8 = 2 ∨ i % 8 = 3 ∨ i % 8 = 4 ∨ i % 8 = 5 ∨ i % 8 = 6 ∨ i % 8 = 7 by omega) with h | h | h | h | h | h | h | h <;> rw [h] <;> decide
theorem wgt_tb (i q : Nat) : tb (wgt i) q = decide (7 - i % 8 = q) := by
  unfold tb wgt
  have : ((2 : Int) ^ (7 - i % 8)).toNat = 2 ^ (7 - i % 8) := by
    have : ((2 : Int) ^ (7 - i % 8)) = ((2 ^ (7 - i % 8) : Nat) : Int) := by simp
    rw [this, Int.toNat_natCast]
  rw [this, Nat.testBit_two_pow]
/-- These marks, with the record i marked as well. -/
def setMark (m : List Int) (i : Nat) : List Int := m.set (i / 8) (bits .or .u8 (m.getD (i / 8) 0) (wgt i))
theorem setMark_len (m : List Int) (i : Nat) : (setMark m i).length = m.length := by simp [setMark]
theorem setMark_byte {m : List Int} (h : Byte m) (i : Nat) : Byte (setMark m i) := fun z hz => by
  rcases List.mem_or_eq_of_mem_set hz with h' | h'
  · exact h z h'
  · rw [h']; exact (or8_byte (h.getD _) (wgt_byte i)).1
theorem setMark_sec {m : List Int} (h : Sec m) (i : Nat) : Sec (setMark m i) := ⟨by rw [setMark_len]; exact h.len, setMark_byte h.byt i⟩
theorem setMark_getD {m : List Int} (hm : Sec m) {i : Nat} (hi : i < 512) (k : Nat) : (setMark m i).getD k 0 = if k = i / 8 then bits .or .u8 (m.getD (i / 8) 0) (wgt i) else m.getD k 0 := by
  have hl := hm.len
  unfold setMark
  by_cases e : k = i / 8
  · subst e; simp [show i / 8 < m.length by omega]
  · rw [if_neg e]; simp [List.getElem?_set_ne (Ne.symm e)]
theorem mark_setMark {m : List Int} (hm : Sec m) {i j : Nat} (hi : i < 512) (hj : j < 512) : mark (setMark m i) j = (decide (j = i) || mark m j) := by
  rw [mark_tb (setMark_byte hm.byt i), mark_tb hm.byt, setMark_getD hm hi]
  by_cases e : j / 8 = i / 8
  · rw [if_pos e, (or8_byte (Byte.getD hm.byt _) (wgt_byte i)).2, wgt_tb, e, Bool.or_comm]
    congr 1
    rw [decide_eq_decide]; omega
  · rw [if_neg e, show decide (j = i) = false from decide_eq_false (by rintro rfl; exact e rfl), Bool.false_or]
/-- A crash leaves the old marks, or the new. -/
theorem mix_mark {m p : List Int} (hm : Sec m) (hp : Sec p) {i : Nat} (hi : i < 512) : mix m (setMark m i) p = m ∨ mix m (setMark m i) p = setMark m i := by
  have hl := hm.len
  have ext : ∀ x : List Int, x.length = 64 → (∀ k, k < 64 → mixb (m.getD k 0) ((setMark m i).getD k 0) (p.getD k 0) = x.getD k 0) → mix m (setMark m i) p = x := by
    intro x hx h
    apply List.ext_getElem (by rw [mix_len, hx])
    intro k h1 h2
    have h3 := mix_at m (setMark m i) p (k := k) (by omega)
    rw [h k (by omega)] at h3
    simpa [h1, h2] using h3
  have base : ∀ k, k ≠ i / 8 → mixb (m.getD k 0) ((setMark m i).getD k 0) (p.getD k 0) = m.getD k 0 ∧ (setMark m i).getD k 0 = m.getD k 0 := fun k hk => by
    have e := setMark_getD hm hi k
    rw [if_neg hk] at e
    rw [e]
    exact ⟨mixb_self (Byte.getD hm.byt _) (Byte.getD hp.byt _), rfl⟩
  have hb := Byte.getD hm.byt (i / 8)
  have ho := or8_byte hb (wgt_byte i)
  have hx := mixb_tb hb ho.1 (Byte.getD hp.byt (i / 8))
  have e8 := setMark_getD hm hi (i / 8)
  rw [if_pos rfl] at e8
  cases hpb : tb (p.getD (i / 8) 0) (7 - i % 8) with
  | false =>
    left
    refine ext m hl fun k hk => ?_
    by_cases e : k = i / 8
    · subst e
      rw [e8]
      refine tb_ext hx.1 hb fun q hq => ?_
      rw [hx.2 q hq, ho.2, wgt_tb]
      by_cases eq : 7 - i % 8 = q
      · subst eq; rw [hpb]; rfl
      · simp [eq]
    · exact (base k e).1
  | true =>
    right
    refine ext (setMark m i) (by rw [setMark_len, hl]) fun k hk => ?_
    by_cases e : k = i / 8
    · subst e
      rw [e8]
      refine tb_ext hx.1 ho.1 fun q hq => ?_
      rw [hx.2 q hq, ho.2, wgt_tb]
      by_cases eq : 7 - i % 8 = q
      · subst eq; rw [hpb]; simp
      · simp [eq]
    · rw [(base k e).1, (base k e).2]
theorem zero_mark (i : Nat) (hi : i < 512) : mark Disk.zero i = false := by
  have hz : Byte Disk.zero := Disk.zero_sec.byt
  rw [mark_tb hz]
  have : Disk.zero.getD (i / 8) 0 = 0 := by
    simp only [Disk.zero, List.getD_eq_getElem?_getD, List.getElem?_replicate]
    split <;> rfl
  rw [this]; simp [tb]
end Wal
end Go.Proofs.Ytjeidfknnophnaa

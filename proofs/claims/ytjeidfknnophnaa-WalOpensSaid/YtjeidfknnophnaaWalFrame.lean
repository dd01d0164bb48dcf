/-
The contract of frame: the bytes of a record's sectors.
-/
import Derived.Test.YtjeidfknnophnaaWalConcat
namespace Go.Proofs.Ytjeidfknnophnaa
open Go.RowKit
set_option linter.unusedVariables false
namespace Wal

theorem more_append (s : BitVec 32) (xs ys : List Int) : Crc.more (Crc.more s xs) ys = Crc.more s (xs ++ ys) := by
  unfold Crc.more
  rw [BitVec.not_not]
  simp [Crc.fold]
theorem run_make_n (n : Nat) (h : n ≤ 1000000) (w : World) :
    (Instr.makeSlice 25 (.int .i64 n) (.int .i64 n)).run Try.prog w = .ok (.slice (some ⟨w.heap.size, 0, none⟩) n n) (w.alloc (.cells (bcells (List.replicate n 0)).toArray 5)) := by
  obtain ⟨i0, hi, hz0, hz1, hz2⟩ := info_parts infoU8
  have := run_make (P := Try.prog) w 25 5 i0 _ Try.underlying25 hi hz0 .i64 .i64 n n (by omega) (by omega) (by rw [hz2]; omega) (by omega)
  rw [this, hz1]
  simp only [Int.toNat_natCast, Nat.mul_one]
  congr 3
  apply Array.ext'
  rw [show (Value.int .u8 0).cells = #[Value.int .u8 0] from rfl, toList_madeCells_one]
  simp [bcells]
theorem row_zeros (w : World) (n : Nat) (h : n ≤ 1000000) : Row (w.alloc (.cells (bcells (List.replicate n 0)).toArray 5)) (some ⟨w.heap.size, 0, none⟩) n (List.replicate n 0) := by
  refine Row.ofIs (Blk.Is.new w _ _) 0 n _ (by simp) (by omega) (zeros_byte n) fun j hj => ?_
  have := bcells_at (List.replicate n 0) j (by simpa using hj)
  rw [Nat.zero_add]; simpa using this
theorem rowIn_of {w : World} {b i : Nat} {a : Option Addr} {n cap : Nat} {zs : List Int} (hc : w.cell? ⟨b, i, none⟩ = some (.slice a n cap)) (hr : Row w a n zs) (hl : n ≤ cap) (hn : a = none → cap = 0) : RowIn w b 0 i zs := by
  have := hr.count
  refine ⟨a, cap, ?_, ?_, by omega, hn⟩
  · rw [Nat.zero_add, this]; exact hc
  · rw [this]; exact hr

set_option maxRecDepth 100000 in
theorem frame_any (a : Option Addr) (len cap : Nat) (zs : List Int) (w : World) (hr : Row w a len zs) (hn : a = none → cap = 0) (hcap : len ≤ cap) (hl : len ≤ 8192) :
    Calls Try.prog 48 #[.slice a len cap] w (Own1 w (record zs)) := by
  have hc := hr.count
  obtain ⟨L, hL⟩ : ∃ L, be32 (len : Int) = L := ⟨_, rfl⟩
  have hLl : L.length = 4 := by rw [← hL]; rfl
  have hneed := needN_pos hl
  have hrl := record_lenN (zs := zs) (by omega)
  have hrl2 := record_len zs
  rw [hc] at hrl hrl2
  obtain ⟨p, hp⟩ : ∃ p, pad (len + 8) = p := ⟨_, rfl⟩
  have hpl := pad_lt (len + 8)
  rw [hp] at hrl2 hpl
  have hpe : (needN len : Int) * 64 - 8 - len = p := by omega
  have h63 : needN len * 64 = len + 8 + p := by omega
  obtain ⟨N, hN⟩ : ∃ N, needN len = N := ⟨_, rfl⟩
  have hq := needN_any len
  rw [hN] at hneed hpe hq h63
  have hmk := run_make_n p (by omega)
  have hrz := fun w => row_zeros w p (by omega)
  have HR := Lib.hid hr
  have HN := Lib.hid hn
  have HQ := Lib.hid hq
  have HC := Lib.hid hc
  have HL := Lib.hid hL
  have HP := Lib.hid hp
  have HMK := Lib.hid hmk
  have HRZ := Lib.hid hrz
  have HPE := Lib.hid hpe
  clear hr hn hq hc hL hp hN hrl hrl2 hmk hrz hpe
  obtain ⟨S, hS⟩ : ∃ S, sum (L ++ zs) = S := ⟨_, rfl⟩
  have hsb := sum_bounds (L ++ zs)
  have hmore : Crc.num (Crc.more (Crc.more 0#32 L) zs) = S := by rw [more_append]; exact hS
  rw [hS] at hsb
  have HS := Lib.hid hS
  have HM := Lib.hid hmore
  clear hS hmore
  go_enter Try.func48, Try.ntmps48
  go_wp2_with fail
  refine (number_any _ _ (by omega)).mono ?_
  rintro e w1 ⟨a1, rfl, m1, b1⟩
  rw [HL.out] at m1
  have R1 := Lib.hid (mineOf m1)
  have B1 := Lib.hid b1
  clear m1 b1
  go_wp2_with fail
  refine (Crc.sum_any _ _ _ _ _ R1.out).mono ?_
  rintro e w2 ⟨rfl, b2⟩
  have hnum : 0 ≤ Crc.num (Crc.more 0#32 L) ∧ Crc.num (Crc.more 0#32 L) < 4294967296 := ⟨Crc.num_nonneg _, Crc.num_lt _⟩
  have R2 := Lib.hid (R1.out.below b2)
  have B2 := Lib.hid (B1.out.trans (b2.mono B1.out.size))
  have X2 := Lib.hid (HR.out.below B2.out)
  clear R1 B1 b2
  obtain ⟨q, hqq⟩ : ∃ q, Crc.num (Crc.more 0#32 L) = q := ⟨_, rfl⟩
  rw [hqq] at hnum
  rw [hqq]
  have hmo := fun w hr => Crc.more_any (Crc.more 0#32 L) q hqq.symm a len cap zs w hr
  rw [HM.out] at hmo
  have HMO := Lib.hid hmo
  clear hmo hqq
  go_wp2_with fail
  refine (HMO.out _ X2.out).mono ?_
  rintro e w3 ⟨rfl, b3⟩
  have R3 := Lib.hid (R2.out.below b3)
  have B3 := Lib.hid (B2.out.trans (b3.mono B2.out.size))
  clear R2 B2 X2 b3 HMO
  go_wp2_with fail
  refine (number_any _ _ hsb).mono ?_
  rintro e w4 ⟨a4, rfl, m4, b4⟩
  have R4 := Lib.hid (mineOf m4)
  have R3 := Lib.hid (R3.out.below b4)
  have B4 := Lib.hid (B3.out.trans (b4.mono B3.out.size))
  clear m4 b4 B3
  go_wp2_with fail
  refine (HQ.out _ (by omega)).mono ?_
  rintro e w' ⟨rfl, rfl⟩
  have hmk := HMK.out
  have hpe := HPE.out
  go_wp2_with fail
  have hX4 := HR.out.below B4.out
  have bA : Below w4.heap.size w4 (w4.alloc (.cells (bcells (List.replicate p 0)).toArray 5)) := (Below.refl _ _).alloc (Nat.le_refl _) _
  have rz := HRZ.out w4
  obtain ⟨w5, h5⟩ : ∃ w5, w5 = w4.alloc (.cells (bcells (List.replicate p 0)).toArray 5) := ⟨_, rfl⟩
  have s5 : w5.heap.size = w4.heap.size + 1 := by rw [h5]; simp
  rw [← h5] at bA rz
  rw [← h5]
  rw [← s5]
  have bB : Below w5.heap.size w5 (w5.alloc (.cells #[.slice (some ⟨a1, 0, none⟩) 4 4, .slice (some ⟨a4, 0, none⟩) 4 4, .slice a len cap, .slice (some ⟨w4.heap.size, 0, none⟩) p p] 25)) := (Below.refl _ _).alloc (Nat.le_refl _) _
  have k5 := Blk.Is.new w5 25 #[.slice (some ⟨a1, 0, none⟩) 4 4, .slice (some ⟨a4, 0, none⟩) 4 4, .slice a len cap, .slice (some ⟨w4.heap.size, 0, none⟩) p p]
  have hrows : Rows (w5.alloc (.cells #[.slice (some ⟨a1, 0, none⟩) 4 4, .slice (some ⟨a4, 0, none⟩) 4 4, .slice a len cap, .slice (some ⟨w4.heap.size, 0, none⟩) p p] 25)) (.slice (some ⟨w5.heap.size, 0, none⟩) 4 4) [L, be32 S, zs, List.replicate p 0] := by
    refine ⟨by simp, _, _, rfl, fun _ => ⟨_, _, rfl, fun i hi => ?_⟩⟩
    have hi4 : i < 4 := hi
    rcases (show i = 0 ∨ i = 1 ∨ i = 2 ∨ i = 3 by omega) with rfl | rfl | rfl | rfl
    · exact rowIn_of (k5.at rfl) ((R3.out.below bA).below bB) (Nat.le_refl _) (fun h => by cases h)
    · exact rowIn_of (k5.at rfl) ((R4.out.below bA).below bB) (Nat.le_refl _) (fun h => by cases h)
    · exact rowIn_of (k5.at rfl) ((hX4.below bA).below bB) hcap HN.out
    · exact rowIn_of (k5.at rfl) (rz.below bB) (Nat.le_refl _) (fun h => by cases h)
  have hfl : [L, be32 S, zs, List.replicate p 0].flatten = record zs := by
    have e1 : be32 (zs.length : Int) = L := by rw [HC.out]; exact HL.out
    have hpd : pad (body zs).length = p := by rw [body_len, HC.out]; exact HP.out
    have hbd : body zs = L ++ (be32 S ++ zs) := by rw [body, head, e1, HS.out, List.append_assoc]
    rw [record, hpd, hbd]
    simp
  have hll : [L, be32 S, zs, List.replicate p 0].flatten.length = len + 8 + p := by
    rw [hfl, record_len, HC.out, HP.out]
  have hb6 : Below w.heap.size w (w5.alloc (.cells #[.slice (some ⟨a1, 0, none⟩) 4 4, .slice (some ⟨a4, 0, none⟩) 4 4, .slice a len cap, .slice (some ⟨w4.heap.size, 0, none⟩) p p] 25)) := by
    have h1 := B4.out.trans (bA.mono B4.out.size)
    exact h1.trans (bB.mono h1.size)
  have hcon := concat_any _ _ _ hrows (by omega) (by omega)
  rw [hfl] at hcon
  have HCON := Lib.hid hcon
  have B6 := Lib.hid hb6
  clear hX4 bA rz h5 s5 bB k5 hrows hfl hll hb6 hcon R3 R4 B4 hmk hpe HPE HRZ HMK
  refine HCON.out.mono ?_
  rintro e w7 ⟨v, rfl, m7, b7⟩
  have M7 := Lib.hid (m7.mono B6.out.size)
  have B7 := Lib.hid (B6.out.trans (b7.mono B6.out.size))
  clear m7 b7
  go_wp2
  go_ret
  exact ⟨v, rfl, M7.out, B7.out⟩
end Wal
end Go.Proofs.Ytjeidfknnophnaa

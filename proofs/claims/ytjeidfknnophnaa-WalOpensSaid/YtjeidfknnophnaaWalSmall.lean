/-
The contracts of wal's Need, number, parse, bytes.Equal, isArea.
-/
import Derived.Test.YtjeidfknnophnaaWalPure
import Derived.Test.YtjeidfknnophnaaWalRef
import Derived.Test.YtjeidfknnophnaaDiskMem
import Derived.Laws.BitsLemmas
namespace Go.Proofs.Ytjeidfknnophnaa
open Go.RowKit
set_option linter.unusedVariables false
namespace Wal
open Disk (Dk St Sec Secs)

theorem need_any (n : Int) (w : World) (h : n ≤ 9223372036854775807) : Calls Try.prog 12 #[.int .i64 n] w fun e w' => e = .returned (.int .i64 (need n)) ∧ w = w' := by
  by_cases h0 : n < 0
  · have hn : need n = 0 := by unfold need; rw [if_pos (Or.inl h0)]
    rw [hn]
    clear hn
    go_enter Try.func12, Try.ntmps12
    go_wp2
    go_ret
    exact ⟨rfl, rfl⟩
  by_cases h1 : 8192 < n
  · have hn : need n = 0 := by unfold need; rw [if_pos (Or.inr h1)]
    rw [hn]
    clear hn
    go_enter Try.func12, Try.ntmps12
    go_wp2
    go_ret
    exact ⟨rfl, rfl⟩
  · have hn : need n = (n + 71) / 64 := by unfold need; rw [if_neg (by omega)]
    have HN := Lib.hid hn
    clear hn
    go_enter Try.func12, Try.ntmps12
    go_wp2
    go_ret
    refine ⟨?_, rfl⟩
    rw [HN.out, show n + 8 + 64 - 1 = n + 71 by omega]
    rfl
theorem needN_any (n : Nat) (w : World) (h : n ≤ 9223372036854775807) : Calls Try.prog 12 #[.int .i64 n] w fun e w' => e = .returned (.int .i64 (needN n)) ∧ w = w' := by
  have := need_any n w (by omega)
  rwa [need_nat] at this

theorem number_any (n : Int) (w : World) (h : 0 ≤ n ∧ n < 4294967296) : Calls Try.prog 57 #[.int .u32 n] w fun e w' => Four n w e w' := by
  have e : n / 16777216 = n / 16777216 % 256 := by omega
  have E := Lib.hid e
  clear e
  go_enter Try.func57, Try.ntmps57
  go_wp2
  go_ret
  refine ⟨w.heap.size, rfl, ⟨⟨rfl, .inr ⟨w.heap.size, 4, _, rfl, Nat.le_refl _, Blk.Is.new w _ _, by simp [be32], by unfold maxLen; omega, by simp, ?_⟩⟩, be32_byte n⟩, (Below.refl _ _).alloc (Nat.le_refl _) _⟩
  simp [be32, bcells]
  exact E.out

/-- What parse has read. -/
def pv (zs : List Int) : Int := zs.foldl (fun n z => n * 256 + z) 0
theorem pv_snoc (zs : List Int) (z : Int) : pv (zs ++ [z]) = pv zs * 256 + z := by simp [pv]
theorem pv_bounds {zs : List Int} (hb : Byte zs) : ∀ k, k ≤ zs.length → 0 ≤ pv (zs.take k) ∧ pv (zs.take k) < 256 ^ k := by
  intro k
  induction k with
  | zero => intro _; simp [pv]
  | succ k ih =>
    intro hk
    obtain ⟨h0, h1⟩ := ih (by omega)
    have hz := hb.getD k
    rw [Crc.take_snoc zs k (by omega), pv_snoc, Int.pow_succ]
    omega
theorem pv_four {zs : List Int} (h : zs.length = 4) : pv zs = num32 zs := by
  match zs, h with
  | [a, b, c, d], _ =>
    show (((0 * 256 + a) * 256 + b) * 256 + c) * 256 + d = a * 16777216 + b * 65536 + c * 256 + d
    omega
theorem wraps_i64 (n : Int) (h0 : 0 ≤ n) (h1 : n < 2 ^ 63) : IntKind.i64.wrap n = n := by rw [IntKind.wrap_i64]; omega
theorem or_join (n z : Int) (h0 : 0 ≤ n) (h1 : n < 16777216) (z0 : 0 ≤ z) (z1 : z < 256) : bits .or .i64 (n * 256) z = n * 256 + z :=
  bits_join .i64 63 (by decide) wraps_i64 8 _ _ (by omega) (by omega) (by omega) z0 (by omega) (by omega)
/-- The value behind k bytes. -/
def Pv (zs : List Int) (k : Nat) (m : Int) : Prop := m = pv (zs.take k)
theorem Pv.next {zs : List Int} {k : Nat} {m z : Int} (h : Pv zs k m) (hb : Byte zs) (hl : zs.length = 4) (hk : k < 4) (hz : zs.getD k 0 = z) : 0 ≤ m ∧ m < 16777216 ∧ bits .or .i64 (m * 256) z = m * 256 + z ∧ Pv zs (k + 1) (m * 256 + z) := by
  unfold Pv at *
  subst h
  have h1 := pv_bounds hb k (by omega)
  have h2 : (256 : Int) ^ k ≤ 16777216 := by
    rcases (show k = 0 ∨ k = 1 ∨ k = 2 ∨ k = 3 by omega) with rfl | rfl | rfl | rfl <;> decide
  have hz' := hb.getD k
  rw [hz] at hz'
  refine ⟨h1.1, by omega, or_join _ _ h1.1 (by omega) hz'.1 hz'.2, ?_⟩
  rw [Crc.take_snoc zs k (by omega), pv_snoc, hz]

theorem parse_any (a : Option Addr) (cap : Nat) (zs : List Int) (w : World) (hr : Row w a 4 zs) :
    Calls Try.prog 54 #[.slice a 4 cap] w fun e w' => e = .returned (.int .i64 (num32 zs)) ∧ w = w' := by
  have hc := hr.count
  have h0 : Pv zs 0 0 := rfl
  have HR := Lib.hid hr
  have H0 := Lib.hid h0
  have HC := Lib.hid hc
  clear hr hc h0
  go_enter Try.func54, Try.ntmps54
  go_wp2
  go_loop [3, 5, 8] (fun x d i => ∃ k : Nat, ∃ m : Int, k ≤ 4 ∧ i = .int .i64 k ∧ x = .int .i64 m ∧ Pv zs k m) (fun _ _ i => 4 - (intOf i).toNat)
  case atStart => exact ⟨0, 0, by omega, rfl, rfl, H0.out⟩
  case round =>
    clear H0
    obtain ⟨k, m, hk, rfl, rfl, hp⟩ := hrel
    by_cases hlt : k < 4
    · obtain ⟨b, off, rfl, hb, hcells⟩ := HR.out.cells (by omega)
      have hcell := hcells k hlt
      have hby := HR.out.byt.getD k
      obtain ⟨z, hz⟩ : ∃ z, zs.getD k 0 = z := ⟨_, rfl⟩
      obtain ⟨m0, m1, hor, hnext⟩ := hp.next HR.out.byt HC.out hlt hz
      rw [hz] at hcell hby
      have HN := Lib.hid hnext
      clear hp hcells hz hnext
      go_wp2
      go_round
      case rel => exact ⟨k + 1, _, by omega, by go_num, rfl, HN.out⟩
      case measure => simp [intOf]; omega
    · obtain rfl : k = 4 := by omega
      go_wp2
      go_ret
      refine ⟨?_, rfl⟩
      have : m = num32 zs := by
        unfold Pv at hp
        rw [hp, ← HC.out, List.take_length, pv_four HC.out]
      rw [this]; rfl

theorem bytesEqual_any (a b : Option Addr) (la ca lb cb : Nat) (xs ys : List Int) (w : World) (h1 : Row w a la xs) (h2 : Row w b lb ys) :
    Calls Try.prog 56 #[.slice a la ca, .slice b lb cb] w fun e w' => e = .returned (.bool (decide (xs = ys))) ∧ w = w' := by
  have e1 := h1.conv ca
  have e2 := h2.conv cb
  have hbeq := str_beq h1.byt h2.byt
  have HB := Lib.hid hbeq
  clear h1 h2 hbeq
  go_enter Try.func56, Try.ntmps56
  go_wp2
  go_ret
  exact ⟨by rw [HB.out]; rfl, rfl⟩

/-- Is it an area? -/
def isArea (n : Nat) (a b : Int) : Bool := decide (0 ≤ a) && (decide (a < b) && decide (b ≤ n))
theorem isArea_any (d : Dk) (s : St) (a b : Int) (w : World) (h : Disk.At w d s) :
    Calls Try.prog 39 #[d.ptr, .int .i64 a, .int .i64 b] w fun e w' => e = .returned (.bool (isArea d.n a b)) ∧ w = w' := by
  have HL := Lib.hid (Disk.len_any d s w h)
  unfold Dk.ptr at *
  by_cases h0 : 0 ≤ a
  · by_cases h1 : a < b
    · have hf : isArea d.n a b = decide (b ≤ d.n) := by simp [isArea, h0, h1]
      rw [hf]
      clear hf
      go_enter Try.func39, Try.ntmps39
      go_wp2_with fail
      refine HL.out.mono ?_
      rintro e w' ⟨rfl, rfl⟩
      go_wp2
      go_ret
      exact ⟨rfl, rfl⟩
    · have hf : isArea d.n a b = false := by simp [isArea, h0, h1]
      have hd : decide (a < b) = false := by simpa using h1
      rw [hf]
      clear hf h1
      go_enter Try.func39, Try.ntmps39
      go_wp2
      go_ret
      exact ⟨rfl, rfl⟩
  · have hf : isArea d.n a b = false := by simp [isArea, h0]
    have hd : decide (0 ≤ a) = false := by simpa using h0
    rw [hf]
    clear hf h0
    go_enter Try.func39, Try.ntmps39
    go_wp2
    go_ret
    exact ⟨rfl, rfl⟩
theorem nilArea_any (a b : Int) (w : World) :
    Calls Try.prog 39 #[.pointer none, .int .i64 a, .int .i64 b] w fun e w' => e = .returned (.bool false) ∧ w = w' := by
  go_enter Try.func39, Try.ntmps39
  go_wp2
  go_ret
  exact ⟨rfl, rfl⟩
end Wal
end Go.Proofs.Ytjeidfknnophnaa

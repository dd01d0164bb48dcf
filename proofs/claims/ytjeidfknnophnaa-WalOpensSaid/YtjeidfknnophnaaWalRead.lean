/-
The contract of read: the bytes of sectors.
-/
import Derived.Test.YtjeidfknnophnaaWalWrite
namespace Go.Proofs.Ytjeidfknnophnaa
open Go.RowKit
set_option linter.unusedVariables false
namespace Wal
open Disk (Dk St Sec Secs)

theorem read_in {s : St} (ho : s.off = false) {N i : Nat} (hN : s.now.length = N) (hi : i < N) : s.read (i : Int) = (s.now.getD i [], 0) := by
  unfold St.read
  rw [ho, hN]
  simp [Disk.hasB, hi]
/-- What read hands back. -/
def Got (w : World) (zs : List Int) (e : Ending) (w' : World) : Prop := ∃ v, e = .returned (.tuple #[v, .int .i64 0]) ∧ Mine w' w.heap.size v zs ∧ Below w.heap.size w w'

set_option maxRecDepth 100000 in
theorem read_any (d : Dk) (s : St) (i n : Nat) (w : World) (h : Disk.At w d s) (ho : s.off = false) (hi : i + n ≤ d.n) :
    Calls Try.prog 55 #[d.ptr, .int .i64 i, .int .i64 n] w (Got w (bytes s.now i (i + n))) := by
  have hN := h.now.secs.count
  have hs := h.now.secs
  have hf := h.now.few
  have H := Lib.hid h
  have HN := Lib.hid hN
  have HS := Lib.hid hs
  have HO := Lib.hid ho
  clear h hN hs ho
  unfold Dk.ptr
  go_enter Try.func55, Try.ntmps55
  go_wp2_with fail
  go_loopw [8, 13] (fun v j u => ∃ k : Nat, k ≤ n ∧ j = .int .i64 k ∧ Mine u w.heap.size v (bytes s.now i (i + k)) ∧ Below w.heap.size w u) (fun _ j _ => n - (intOf j).toNat)
  case atStart => exact ⟨0, by omega, rfl, by rw [Nat.add_zero, bytes_self]; exact mine_none _ _, Below.refl _ _⟩
  case round =>
    obtain ⟨k, hk, rfl, hm, hb⟩ := hrel
    obtain ⟨m0, a0, cap0, rfl, hcap0, hlen0, _⟩ := hm.rows
    have hbl := bytes_len HS.out i (i + k) (by omega)
    have hM := Lib.hid hm
    have hB := Lib.hid hb
    have hBS := hb.size
    clear hm hb
    by_cases hlt : k < n
    · have hrd := Disk.read_any d s ((i : Int) + k) _ (H.out.below hB.out)
      rw [show ((i : Int) + k) = ((i + k : Nat) : Int) by omega, read_in HO.out HN.out (by omega), show ((i + k : Nat) : Int) = (i : Int) + k by omega] at hrd
      dsimp only at hrd
      have hl64 := (HS.out.at (show i + k < d.n by omega)).len
      obtain ⟨r, hr⟩ : ∃ r, s.now.getD (i + k) [] = r := ⟨_, rfl⟩
      rw [hr] at hrd hl64
      have HG := Lib.hid hr
      have HRD := Lib.hid hrd
      clear hrd hr
      go_wp2_with fail
      refine HRD.out.mono ?_
      rintro e w1 ⟨v1, rfl, hm1, hb1⟩
      obtain ⟨n1, a1, cap1, rfl, hcap1, hlen1, hrow1⟩ := hm1.rows
      have hM1 := Lib.hid (hM.out.below hb1)
      have hR1 := Lib.hid hrow1
      have hB1 := Lib.hid (hB.out.trans (hb1.mono hBS))
      have hnil : a1 = none → cap1 = 0 := fun e => by
        subst e
        obtain ⟨_, _, hx, _⟩ := hrow1.cells (by omega)
        cases hx
      clear hm1 hb1 hrow1 HRD hM hB
      go_wp2_with (at_builtin; refine append_bytes rfl (.tmp 27) (.tmp 28) rfl w.heap.size _ _ rfl hM1.out a1 n1 cap1 rfl _ hR1.out hnil ?_ ?_ ?_)
      · omega
      · exact hB1.out.size
      intro v2 w2 m2 g2
      have hb2 := below_grow hB1.out hM1.out (Nat.le_refl _) hB1.out.size g2
      rw [← HG.out, ← bytes_succ HS.out i (i + k) (by omega) (by omega)] at m2
      obtain ⟨n2, a2, cap2, rfl, _, _, _⟩ := m2.rows
      have M2 := Lib.hid m2
      have B2 := Lib.hid hb2
      clear m2 hb2 g2 hM1 hR1 hB1 hnil
      go_wp2
      refine ⟨⟨k + 1, by omega, by go_num, M2.out, B2.out⟩, ?_⟩
      simp [intOf]; omega
    · obtain rfl : k = n := by omega
      go_wp2
      go_ret2
      exact ⟨_, rfl, hM.out, hB.out⟩
end Wal
end Go.Proofs.Ytjeidfknnophnaa

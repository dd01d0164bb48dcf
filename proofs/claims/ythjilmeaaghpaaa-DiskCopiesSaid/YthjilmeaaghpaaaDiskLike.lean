/-
like: both disks read the same.
-/
import Derived.Test.YthjilmeaaghpaaaDiskDo
import Derived.BigQuiet
namespace Go.Proofs.Ythjilmeaaghpaaa
open Go.RowKit
set_option linter.unusedVariables false
namespace Pair
open Disk (Sec Secs St hasB Dk)
open Ref (Rk)

theorem At.n {B w dk m sd sr} (h : At B w dk m sd sr) : dk.n = m.n := by
  rw [← h.d.now.secs.count, ← h.r.now.secs.count, h.like.now]
theorem At.below {B w w' dk m sd sr} (h : At B w dk m sd sr) (hb : Below w.heap.size w w') : At B w' dk m sd sr := ⟨h.d.below hb, h.r.below hb, h.like, h.df, h.rf⟩
theorem At.drewN {B w dk m sd sr} (h : At B w dk m sd sr) (n : Nat) : At B (w.drewN n) dk m sd sr := h.below ⟨rfl, rfl, rfl, Nat.le_refl _, fun _ _ => rfl⟩
theorem below_drewN (w : World) (n : Nat) : Below w.heap.size w (w.drewN n) := ⟨rfl, rfl, rfl, Nat.le_refl _, fun _ _ => rfl⟩

set_option maxRecDepth 100000 in
theorem like_any (B : Nat) (dk : Dk) (m : Rk) (sd sr : St) (w : World) (h : At B w dk m sd sr) :
    Calls Try.prog 14 #[dk.ptr, m.ptr] w fun e w' => e = .returned (.bool true) ∧ Below w.heap.size w w' := by
  have hL : ∀ n, Calls Try.prog 17 #[dk.ptr] (w.drewN n) fun e w'' => e = .returned (.int .i64 m.n) ∧ w'' = w.drewN n := fun n => by
    have := Disk.len_any dk sd _ (h.drewN n).d
    rw [h.n] at this
    exact this.mono fun e w' hh => ⟨hh.1, hh.2.symm⟩
  have hC : ∀ n, Calls Try.prog 12 #[dk.ptr] (w.drewN n) fun e w'' => e = .returned (.int .i64 sr.calls) ∧ w'' = w.drewN n := fun n => by
    have := Disk.calls_any dk sd _ (h.drewN n).d
    rw [h.like.calls] at this
    exact this.mono fun e w' hh => ⟨hh.1, hh.2.symm⟩
  have hD : ∀ n, Calls Try.prog 13 #[dk.ptr] (w.drewN n) fun e w'' => e = .returned (.bool sr.off) ∧ w'' = w.drewN n := fun n => by
    have := Disk.down_any dk sd _ (h.drewN n).d
    rw [h.like.off] at this
    exact this.mono fun e w' hh => ⟨hh.1, hh.2.symm⟩
  obtain ⟨a0, cap0, hv0, hcap0⟩ := h.r.now.shape
  have c0 := h.r.flds.c0
  have c2 := h.r.flds.c2
  have c4 := h.r.flds.c4
  rw [hv0] at c0
  have hfew := h.r.now.few
  have hbs : (sr.off != sr.off) = false := by simp
  have HL := Lib.hid hL
  have HC := Lib.hid hC
  have HD := Lib.hid hD
  have HH := Lib.hid h
  clear hL hC hD h hv0
  unfold Dk.ptr at *
  unfold Rk.ptr
  go_enter Try.func14, Try.ntmps14
  go_wp2_with fail
  go_quiet ((first
    | (go_at_call 17; exact Calls.quiet_of_same (HL.out _))
    | (go_at_call 12; exact Calls.quiet_of_same (HC.out _))
    | (go_at_call 13; exact Calls.quiet_of_same (HD.out _))))
  have hb0 := below_drewN w nq
  have HH1 := Lib.hid (HH.out.drewN nq)
  have c1 : (w.drewN nq).cell? ⟨m.p, 0, none⟩ = some (.slice a0 m.n cap0) := c0
  generalize w.drewN nq = w1 at *
  clear HL HC HD c0 c2 c4 hbs HH
  go_wp2_with fail
  go_loopw [41] (fun i u => ∃ k : Nat, k ≤ m.n ∧ i = .int .i64 k ∧ Below w1.heap.size w1 u) (fun i _ => m.n - (intOf i).toNat)
  case atStart => exact ⟨0, by omega, rfl, Below.refl _ _⟩
  case round =>
    obtain ⟨k, hk, rfl, hb⟩ := hrel
    clear c1
    by_cases hlt : k < m.n
    · have hh := HH1.out.below hb
      have hrd := hh.like.read k
      have HHd := Lib.hid hh.d
      have HHr := Lib.hid hh.r
      have HRD := Lib.hid hrd
      clear hh hrd
      go_wp2_with fail
      refine (Disk.read_any dk sd k _ HHd.out).mono ?_
      rintro e w2 ⟨v1, rfl, hm1, b1⟩
      obtain ⟨n1, a1, cap1, rfl, _, _, row1⟩ := hm1.rows
      have HR1 := Lib.hid (HHr.out.below b1)
      have HROW := Lib.hid row1
      clear hm1 row1
      go_wp2_with fail
      refine (Ref.ref_read_any m sr k _ HR1.out).mono ?_
      rintro e w3 ⟨v2, rfl, hm2, b2⟩
      obtain ⟨n2, a2, cap2, rfl, _, _, row2⟩ := hm2.rows
      have e1 := (HROW.out.below b2).conv cap1
      have e2 := row2.conv cap2
      rw [HRD.out] at e1
      have hb3 : Below w1.heap.size w1 w3 := hb.trans ((b1.trans (b2.mono b1.size)).mono hb.size)
      rw [HRD.out]
      generalize strOfNums (sr.read k).1 = str at *
      generalize (sr.read k).2 = er at *
      clear hm2 row2 b1 b2 hb HRD
      go_wp2
      go_roundw
      case rel => exact ⟨k + 1, by omega, by go_num, hb3⟩
      case measure => simp [intOf]; omega
    · obtain rfl : k = m.n := by omega
      go_wp2
      go_ret
      exact ⟨rfl, hb0.trans (hb.mono hb0.size)⟩
end Pair
end Go.Proofs.Ythjilmeaaghpaaa

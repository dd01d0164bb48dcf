/-
The contract of writeSure: sectors written, then made sure.
-/
import Derived.Test.YtjeidfknnophnaaWalLog
import Derived.Test.YtjeidfknnophnaaDiskCrash
namespace Go.Proofs.Ytjeidfknnophnaa
open Go.RowKit
set_option linter.unusedVariables false
namespace Wal
open Disk (Dk St Sec Secs)

/-- The disk behind n sectors' writes from place i on, and a flush; the first error ends it. -/
def wsure (s : St) (i : Nat) (zs : List Int) : Nat → St × Int
  | 0 => (s.flush, s.flushErr)
  | n + 1 => if s.writeErr i 64 = 0 then wsure (s.write i (zs.take 64)) (i + 1) (zs.drop 64) n else (s.write i (zs.take 64), s.writeErr i 64)
theorem count_calls (s : St) : s.count.calls = s.calls + 1 := rfl
theorem write_calls (s : St) (i : Int) (zs : List Int) : (s.write i zs).calls = s.calls + 1 := by
  unfold St.write; split <;> rfl
theorem run_slice_head (a : Option Addr) (len cap c : Nat) (hc : c ≤ cap) (w : World) :
    (Instr.slice 25 (.slice a len cap) none (some (.int .i64 c)) none).run Try.prog w = .ok (.slice a c cap) w := by
  have hsz : (sizeOf 5).run Try.prog w = .ok 1 w := by
    obtain ⟨i0, hi, hz0, hz1, hz2⟩ := info_parts infoU8
    simp [sizeOf, typeInfo, hi, hz1]
  have h0 : ∀ x : Addr, x.add 0 = x := fun x => by
    obtain ⟨b, o, p⟩ := x
    cases p <;> simp [Addr.add]
  cases a <;> simp [h0, Instr.slice, Instr.sliceBounds, Instr.sliceBound, asIntOf, run_underlying Try.underlying25, hsz, hc]
/-- The walk's own keeping. -/
structure Wr (w u : World) (d : Dk) (s : St) (i : Nat) (zs : List Int) (n k : Nat) (t : St) (a : Option Addr) (cap : Nat) : Prop where
  st : Disk.At u d t
  row : Row u a (64 * (n - k)) (zs.drop (64 * k))
  chg : Blk.Chg d.Has w u
  calls : t.calls = s.calls + k
  rest : wsure s i zs n = wsure t (i + k) (zs.drop (64 * k)) (n - k)
  apart : 0 < n - k → ∀ x, a = some x → ¬ d.Has x.block
  le : 64 * (n - k) ≤ cap
theorem Wr.drewN {w u d s i zs n k t a cap} (h : Wr w u d s i zs n k t a cap) (m : Nat) : Wr w (u.drewN m) d s i zs n k t a cap :=
  ⟨h.st.below (drewN_below u m), h.row.below (drewN_below u m), h.chg.trans (Blk.Chg.ofBelow' (drewN_below u m)), h.calls, h.rest, h.apart, h.le⟩
theorem Wr.next {w u u' d s i zs n k t a cap} (h : Wr w u d s i zs n k t a cap) (hk : k < n) (he : t.writeErr ((i : Int) + k) 64 = 0) (hd : Disk.At u' d (t.write ((i : Int) + k) ((zs.drop (64 * k)).take 64))) (hc : Blk.Chg d.Has u u') :
    Wr w u' d s i zs n (k + 1) (t.write ((i : Int) + k) ((zs.drop (64 * k)).take 64)) (tailAddr a cap 64) (cap - 64) := by
  have hr := (h.row.keep hc (fun h0 b off e => h.apart (by omega) _ e)).tail (cap := cap) 64 (by omega) h.le
  have e1 : 64 * (n - k) - 64 = 64 * (n - (k + 1)) := by omega
  have e2 : (zs.drop (64 * k)).drop 64 = zs.drop (64 * (k + 1)) := by rw [List.drop_drop]; congr 1
  rw [e1, e2] at hr
  refine ⟨hd, hr, h.chg.trans hc, by rw [write_calls, h.calls]; omega, ?_, fun h0 y hy => ?_, by have := h.le; omega⟩
  · rw [h.rest, show n - k = (n - (k + 1)) + 1 by omega]
    conv => lhs; unfold wsure
    rw [if_pos (by exact_mod_cast he), e2]
    rfl
  · obtain ⟨x, hx, hb⟩ := tailAddr_block hy
    rw [← hb]; exact h.apart (by omega) x hx

set_option maxRecDepth 100000 in
theorem writeSure_any (d : Dk) (s : St) (i n : Nat) (a : Option Addr) (cap : Nat) (zs : List Int) (w : World) (h : Disk.At w d s) (hr : Row w a (64 * n) zs) (ha : 0 < n → ∀ x, a = some x → ¬ d.Has x.block)
    (hle : 64 * n ≤ cap) (hc : s.calls + n < 4611686018427387900) (hi : i + n < 4611686018427387904) :
    Calls Try.prog 43 #[d.ptr, .int .i64 i, .slice a (64 * n) cap] w fun e w' => e = .returned (.int .i64 (wsure s i zs n).2) ∧ Disk.At w' d (wsure s i zs n).1 ∧ Blk.Chg d.Has w w' := by
  have h0 : Wr w w d s i zs n 0 s a cap := ⟨h, by simpa using hr, Blk.Chg.refl _ _, rfl, by simp, fun h0 => ha (by omega), by simpa using hle⟩
  have hsl := fun (a : Option Addr) (len cap : Nat) (h : 64 ≤ cap) w => run_slice_head a len cap 64 h w
  have H0 := Lib.hid h0
  have HSL := Lib.hid hsl
  clear h0 h hr ha hsl
  unfold Dk.ptr
  go_enter Try.func43, Try.ntmps43
  go_wp2_with fail
  go_loopw [1, 2] (fun at' b u => ∃ k : Nat, ∃ (t : St) (a : Option Addr) (cap : Nat), k ≤ n ∧ at' = .int .i64 ((i + k : Nat) : Int) ∧ b = .slice a (64 * (n - k)) cap ∧ Wr w u d s i zs n k t a cap) (fun _ b _ => lenOf b)
  case atStart => exact ⟨0, s, a, cap, by omega, rfl, by simp, H0.out⟩
  case round =>
    clear H0
    obtain ⟨k, t, a, cap, hk, rfl, rfl, hw⟩ := hrel
    have HW := Lib.hid hw
    have hcal := hw.calls
    have hle' := hw.le
    clear hw hle
    by_cases hlt : k < n
    · obtain ⟨m, hm⟩ : ∃ m, m = 64 * (n - k) := ⟨_, rfl⟩
      have hm0 : 64 ≤ m := by omega
      have hmc : m ≤ cap := by omega
      obtain ⟨bb, bo, rfl, _⟩ := HW.out.row.cells (by omega)
      have h64 := HSL.out (some ⟨bb, bo, none⟩) m cap (by omega)
      have hrow := HW.out.row.take 64 (by omega)
      have hwr := Disk.write_any d t ((i : Int) + k) _ 64 cap _ _ HW.out.st (by rw [hcal]; omega) hrow (fun b off e => HW.out.apart (by omega) _ e)
      have hadd : IntKind.i64.wrap (((i + k : Nat) : Int) + 1) = ((i + (k + 1) : Nat) : Int) := by rw [IntWalk.i64_in _ (by omega)]; omega
      rw [show ((i : Int) + k) = ((i + k : Nat) : Int) by omega] at hwr
      rw [← hm]
      have HWR := Lib.hid hwr
      have HM := Lib.hid hm
      have HA := Lib.hid hadd
      clear hrow hwr hm hadd
      go_wp2_with fail
      refine HWR.out.mono ?_
      rintro e w1 ⟨rfl, hd, hchg⟩
      have hcases : t.writeErr ((i + k : Nat) : Int) 64 = 0 ∨ t.writeErr ((i + k : Nat) : Int) 64 ≠ 0 := by omega
      obtain ⟨er, her⟩ : ∃ er, t.writeErr ((i + k : Nat) : Int) 64 = er := ⟨_, rfl⟩
      rw [her] at hcases
      rw [her]
      rcases hcases with rfl | hne
      · have hnx := HW.out.next hlt (by rw [← her]; congr 1) (by rw [show ((i : Int) + k) = ((i + k : Nat) : Int) by omega]; exact hd) hchg
        have HN := Lib.hid hnx
        have hadd := HA.out
        clear hnx hd hchg her
        go_wp2_with fail
        go_quiet (fail)
        go_wp2
        refine ⟨⟨k + 1, _, _, _, by omega, by go_num, ?_, HN.out.drewN nq⟩, ?_⟩
        · rw [HM.out, show 64 * (n - k) - 64 = 64 * (n - (k + 1)) by omega]
          simp [tailAddr, Addr.add_mid]
        · simp only [lenOf]; omega
      · have hb : (er != 0) = true := by simpa using hne
        have hrest := HW.out.rest
        have e1 : wsure s i zs n = (t.write ((i + k : Nat) : Int) ((zs.drop (64 * k)).take 64), er) := by
          rw [hrest, show n - k = (n - (k + 1)) + 1 by omega]
          conv => lhs; unfold wsure
          rw [her, if_neg hne]
        have E1 := Lib.hid e1
        have HD := Lib.hid hd
        have HC := Lib.hid (HW.out.chg.trans hchg)
        clear hrest e1 hd hchg her hne
        go_wp2
        go_ret
        rw [E1.out]
        exact ⟨rfl, HD.out, HC.out⟩
    · obtain rfl : k = n := by omega
      have hfl := Disk.flush_any d t _ HW.out.st (by omega)
      have hrest := HW.out.rest
      rw [Nat.sub_self] at hrest
      have HF := Lib.hid hfl
      have HR := Lib.hid hrest
      have HC := Lib.hid HW.out.chg
      clear hfl hrest HW
      rw [Nat.sub_self, Nat.mul_zero]
      go_wp2_with fail
      refine HF.out.mono ?_
      rintro e w1 ⟨rfl, hd, hchg⟩
      go_wp2
      go_ret
      rw [HR.out]
      exact ⟨rfl, hd, HC.out.trans hchg⟩
end Wal
end Go.Proofs.Ytjeidfknnophnaa

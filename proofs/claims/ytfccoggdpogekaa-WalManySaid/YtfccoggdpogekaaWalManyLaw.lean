/-
WalMany's walk.
-/
import Derived.Test.YtfccoggdpogekaaWalRun
import Derived.Test.YtfccoggdpogekaaWalOrderLaw
namespace Go.Proofs.Ytfccoggdpogekaa
open Go.RowKit
set_option linter.unusedVariables false
namespace Wal
open Disk (Dk St Sec Secs fresh)

theorem used_ones {rs : List (List Int)} (h : ∀ r ∈ rs, r.length = 1) : used rs = rs.length := by
  induction rs with
  | nil => rfl
  | cons r rs ih =>
    rw [used_cons, ih (fun x hx => h x (List.mem_cons_of_mem _ hx)), h r (by simp)]
    show 1 + rs.length = _
    simp; omega
/-- k records of one byte were appended. -/
def ManyAt (w u : World) (d : Dk) (p : Nat) (k : Nat) : Prop := ∃ s l rs, Run w u d p s l 0 600 rs ∧ s.fuse = 0 ∧ rs.length = min k 512 ∧ (∀ r ∈ rs, r.length = 1) ∧ s.calls ≤ 2 + 4 * k
set_option maxRecDepth 100000 in
set_option maxHeartbeats 2000000 in
theorem walMany_walk (n : Int) (w : World) (w0 : (Lit.int .i64 n).wf = true) :
    Calls Try.prog 6 #[.int .i64 n] w fun e w' => e = .returned (.bool true) ∧ Below w.heap.size w w' := by
  obtain ⟨N, hN, hN12⟩ := modN n 12 (by omega) (by omega)
  rw [show ((12 : Nat) : Int) = 12 from rfl] at hN
  have HNN := Lib.hid hN
  clear w0 hN
  go_enter Try.func6, Try.ntmps6
  go_wp2_with fail
  refine (Disk.new_any 600 _).mono ?_
  rintro e w1 ⟨d, rfl, hdn, hf, hd1, b1⟩
  rw [show Disk.sizeOf 600 = 600 from rfl] at hd1 hdn
  have hfm := format_ok d (fresh 600) 0 600 w1 hd1 rfl rfl (by omega) (by omega) (by show 0 < _; decide)
  have HFM := Lib.hid hfm
  have HDN := Lib.hid hdn
  clear hfm hd1 hdn
  unfold Dk.ptr at *
  go_wp2_with fail
  refine HFM.out.mono ?_
  rintro e w2 ⟨rfl, t, hd2, hr2, hcal, hfu, hnow, c2⟩
  have b2 : Below w.heap.size w w2 := b1.trans (c2.below (fun k hk => hf.has hk) b1.size)
  have hop := open_good d t 0 600 [] w2 hd2 hr2
  unfold Dk.ptr at hop
  have HD2 := Lib.hid hd2
  have HR2 := Lib.hid hr2
  have HC := Lib.hid (show t.calls = 2 from hcal)
  have HFU := Lib.hid hfu
  have HOP := Lib.hid hop
  clear hd2 hr2 hcal hfu hnow c2 hop HFM
  go_wp2_with fail
  refine HOP.out.mono ?_
  rintro e w3 ⟨p, v, rfl, ho⟩
  have hrun := (run_open HD2.out hf b2 HR2.out ho).1
  have hm0 : ManyAt w w3 d p 0 := ⟨_, _, [], hrun, HFU.out, rfl, by simp, by rw [HC.out]; omega⟩
  have HM0 := Lib.hid hm0
  clear hm0 hrun ho HOP HD2 HR2 HC HFU b2 b1
  go_wp2_with fail
  rw [HNN.out]
  clear HNN
  go_wp2_with fail
  try rw [IntWalk.wrap64_in ((505 : Int) + N) (by omega)]
  obtain ⟨M, hM⟩ : ∃ M : Nat, 505 + N = M := ⟨_, rfl⟩
  rw [show (505 : Int) + (N : Int) = (M : Int) by omega]
  have hM1 : M ≤ 516 := by omega
  have hM2 : 505 ≤ M := by omega
  clear hM hN12
  go_loopw [33] (fun i u => ∃ k : Nat, k ≤ M ∧ i = .int .i64 k ∧ ManyAt w u d p k) (fun i _ => M - (intOf i).toNat)
  case atStart => exact ⟨0, by omega, rfl, HM0.out⟩
  case round =>
    clear HM0
    obtain ⟨k, hk, rfl, s, l, rs, hrun, h0, hlen, hone, hcal⟩ := hrel
    have hus := used_ones hone
    by_cases hlt : k < M
    · have hlt' : (k : Int) < M := by omega
      by_cases h5 : k < 512
      · have h5' : ¬ ((512 : Int) ≤ k) := by omega
        have bA : Below wr.heap.size wr (wr.alloc (.cells #[.int .u8 ((k : Int) % 256)] 5)) := (Below.refl _ _).alloc (Nat.le_refl _) _
        have hap := run_calm (hrun.below bA) h0 (some ⟨wr.heap.size, 0, none⟩) 1 1 [(k : Int) % 256] (row_one wr _ (by omega) (0, 0)) (by intro h; cases h) (Nat.le_refl _) (fun _ y e => by cases e; exact .inr ⟨_, Blk.Is.new wr _ _⟩) (by omega) (by omega) (by rw [hus]; show 0 + 1 + rs.length + 1 ≤ 600; omega) (by omega)
        have HAP := Lib.hid hap
        have HL := Lib.hid hlen
        have HO := Lib.hid hone
        have H0 := Lib.hid h0
        clear hap hrun bA hlen hone hus h0
        go_wp2_with fail
        refine HAP.out.mono ?_
        rintro e w5 ⟨rfl, ⟨s', l', hg⟩, hch⟩
        have hnext : ManyAt w w5 d p (k + 1) := by
          refine ⟨s', l', _, hg.run, hg.fuse H0.out, ?_, fun r hr => ?_, ?_⟩
          · rw [List.length_append, HL.out, List.length_singleton]; omega
          · rcases List.mem_append.1 hr with hr | hr
            · exact HO.out r hr
            · rw [List.mem_singleton.1 hr]; rfl
          · rw [hg.calls]; show s.calls + needN 1 + 3 ≤ _; rw [show needN 1 = 1 from rfl]; omega
        have HNX := Lib.hid hnext
        clear hnext hg hch HAP HL HO
        go_wp2
        refine ⟨⟨k + 1, by omega, by go_num, HNX.out⟩, ?_⟩
        simp [intOf]; omega
      · have h5' : (512 : Int) ≤ k := by omega
        have bA : Below wr.heap.size wr (wr.alloc (.cells #[.int .u8 ((k : Int) % 256)] 5)) := (Below.refl _ _).alloc (Nat.le_refl _) _
        have hra := hrun.below bA
        have hap := run_room hra (some ⟨wr.heap.size, 0, none⟩) 1 1 (by omega) (.inl (by rw [hlen]; omega))
        have hkeep : ∀ u', Below (wr.alloc (.cells #[.int .u8 ((k : Int) % 256)] 5)).heap.size (wr.alloc (.cells #[.int .u8 ((k : Int) % 256)] 5)) u' → ManyAt w u' d p (k + 1) := fun u' hu' =>
          ⟨s, l, rs, hra.below hu', h0, by rw [hlen]; omega, hone, by omega⟩
        have HAP := Lib.hid hap
        have HK := Lib.hid hkeep
        clear hap hkeep hra hrun bA hlen hone hus h0
        go_wp2_with fail
        refine HAP.out.mono ?_
        rintro e w5 ⟨rfl, hb5⟩
        have HNX := Lib.hid (HK.out _ hb5)
        clear hb5 HAP HK
        go_wp2
        refine ⟨⟨k + 1, by omega, by go_num, HNX.out⟩, ?_⟩
        simp [intOf]; omega
    · have hkn : k = M := by omega
      have hlt' : ¬ ((k : Int) < M) := by omega
      have hop := open_good d s 0 600 rs wr hrun.disk hrun.rdy
      have hbel := hrun.bel
      unfold Dk.ptr at hop
      have HOP := Lib.hid hop
      have HB := Lib.hid hbel
      have hcase : M ≤ 512 ∧ rs.length = M ∨ 512 < M ∧ rs.length = 512 := by omega
      clear hop hrun hbel hone hus h0 hcal hkn hlen
      go_wp2_with fail
      refine HOP.out.mono ?_
      rintro e w5 ⟨p5, v5, rfl, ho5⟩
      obtain ⟨a5, c5, rfl, _⟩ := ho5.recs.shape
      have B5 := Lib.hid (HB.out.trans (ho5.below.mono HB.out.size))
      clear ho5 HOP HB
      obtain ⟨m, hm⟩ : ∃ m, rs.length = m := ⟨_, rfl⟩
      rw [hm] at hcase
      rw [hm]
      clear hm
      rcases hcase with ⟨hle, rfl⟩ | ⟨hgt, rfl⟩
      · have hle' : (m : Int) ≤ 512 := by omega
        have hee : ((m : Int) == (m : Int)) = true := by simp
        go_wp2_with fail
        refine (awake_any _).mono ?_
        rintro e w6 ⟨rfl, b6⟩
        go_wp2
        go_ret
        exact ⟨rfl, B5.out.trans (b6.mono B5.out.size)⟩
      · have hle' : (512 : Int) < M := by omega
        go_wp2_with fail
        refine (awake_any _).mono ?_
        rintro e w6 ⟨rfl, b6⟩
        go_wp2
        go_ret
        exact ⟨rfl, B5.out.trans (b6.mono B5.out.size)⟩
end Wal
end Go.Proofs.Ytfccoggdpogekaa

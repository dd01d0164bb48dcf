/-
WalOrder's walk.
-/
import Derived.Test.YtjeidfknnophnaaWalAwake
namespace Go.Proofs.Ytjeidfknnophnaa
open Go.RowKit
set_option linter.unusedVariables false
namespace Wal
open Disk (Dk St Sec Secs fresh)

theorem modN (n : Int) (m : Nat) (h0 : 0 < m) (h : m ≤ 1000000) : ∃ N : Nat, wrap64 ((IntKind.u64.wrap n).tmod m) = (N : Int) ∧ N < m := by
  have h1 : 0 ≤ IntKind.u64.wrap n := by rw [IntKind.wrap_u64]; omega
  obtain ⟨k, hk⟩ := Int.eq_ofNat_of_zero_le h1
  rw [hk]
  have e : ((k : Int)).tmod m = ((k % m : Nat) : Int) := by rw [Int.tmod_eq_emod_of_nonneg (by omega)]; simp
  have hlt : k % m < m := Nat.mod_lt _ h0
  rw [e, IntWalk.wrap64_in ((k % m : Nat) : Int) (by omega)]
  exact ⟨k % m, rfl, hlt⟩
/-- What Format hands back, where no fuse burns. -/
def Fmt (w : World) (d : Dk) (s : St) (a b : Nat) (e : Ending) (w' : World) : Prop :=
  e = .returned (.int .i64 0) ∧ ∃ t : St, Disk.At w' d t ∧ Rdy d.n t a b [] ∧ t.calls = s.calls + 2 ∧ t.fuse = 0 ∧ t.now = put s.now a Disk.zero 1 ∧ Blk.Chg d.Has w w'
theorem format_ok (d : Dk) (s : St) (a b : Nat) (w : World) (h : Disk.At w d s) (ho : s.off = false) (hf : s.fuse = 0) (h1 : a < b) (h2 : b ≤ d.n) (hc : s.calls < 4611686018427000000) :
    Calls Try.prog 20 #[d.ptr, .int .i64 a, .int .i64 b] w (Fmt w d s a b) := by
  obtain ⟨g1, g2, g3, g4, g5⟩ := format_good h.now.secs ho hf a b h1 h2
  refine (format_yes d s a b w h h1 h2 (by omega)).mono fun e w' ⟨he, hd, hch⟩ => ⟨by rw [he, g1], _, hd, g2, g3, g4, g5, hch⟩

set_option maxRecDepth 100000 in
set_option maxHeartbeats 2000000 in
theorem walOrder_walk (n size : Int) (w : World) (w0 : (Lit.int .i64 n).wf = true) (w1 : (Lit.int .i64 size).wf = true) :
    Calls Try.prog 11 #[.int .i64 n, .int .i64 size] w fun e w' => e = .returned (.bool true) ∧ Below w.heap.size w w' := by
  obtain ⟨N, hN, hN12⟩ := modN n 12 (by omega) (by omega)
  obtain ⟨Z, hZ, hZ9⟩ := modN size 9000 (by omega) (by omega)
  rw [show ((12 : Nat) : Int) = 12 from rfl] at hN
  rw [show ((9000 : Nat) : Int) = 9000 from rfl] at hZ
  clear w0 w1
  go_enter Try.func11, Try.ntmps11
  go_wp2_with fail
  rw [hZ]
  clear hN hZ
  refine (Disk.new_any 14 _).mono ?_
  rintro e w1 ⟨d, rfl, hdn, hf, hd1, b1⟩
  rw [show Disk.sizeOf 14 = 14 from rfl] at hd1 hdn
  have hfm := format_ok d (fresh 14) 0 (N + 1) w1 hd1 rfl rfl (by omega) (by omega) (by show 0 < _; decide)
  rw [show (((N + 1 : Nat)) : Int) = (N : Int) + 1 by omega, show ((0 : Nat) : Int) = 0 from rfl] at hfm
  have HFM := Lib.hid hfm
  have HDN := Lib.hid hdn
  clear hfm hd1 hdn
  unfold Dk.ptr at *
  go_wp2_with fail
  refine HFM.out.mono ?_
  rintro e w2 ⟨rfl, t, hd2, hr2, hcal, hfu, hnow, c2⟩
  have b2 : Below w.heap.size w w2 := b1.trans (c2.below (fun k hk => hf.has hk) b1.size)
  have hop := open_good d t 0 (N + 1) [] w2 hd2 hr2
  rw [show (((N + 1 : Nat)) : Int) = (N : Int) + 1 by omega, show ((0 : Nat) : Int) = 0 from rfl] at hop
  unfold Dk.ptr at hop
  have hcal2 : t.calls = 2 := hcal
  have HD2 := Lib.hid hd2
  have HR2 := Lib.hid hr2
  have HC := Lib.hid hcal2
  have HFU := Lib.hid hfu
  have HOP := Lib.hid hop
  clear hd2 hr2 hcal hcal2 hfu hnow c2 hop HFM
  go_wp2_with fail
  refine HOP.out.mono ?_
  rintro e w3 ⟨p, v, rfl, ho⟩
  have b3 := b2.trans (ho.below.mono b2.size)
  have L3 := Lib.hid ho.log
  have HP := Lib.hid ho.new
  have D3 := Lib.hid (HD2.out.below ho.below)
  have B3 := Lib.hid b3
  have hcl := Disk.calls_any d t w3 D3.out
  rw [HC.out, show ((2 : Nat) : Int) = 2 from rfl] at hcl
  unfold Dk.ptr at hcl
  have HCL := Lib.hid hcl
  clear ho HD2 HOP b3 hcl
  go_wp2_with fail
  refine HCL.out.mono ?_
  rintro e w' ⟨rfl, rfl⟩
  clear HCL
  have hmk := run_make_n Z (by omega)
  have bA : Below w3.heap.size w3 (w3.alloc (.cells (bcells (List.replicate Z 0)).toArray 5)) := (Below.refl _ _).alloc (Nat.le_refl _) _
  have hrz := row_zeros w3 Z (by omega)
  have hkz := Blk.Is.new w3 5 (bcells (List.replicate Z 0)).toArray
  have hz0 : (0 : Int) ≤ Z := by omega
  obtain ⟨w4, hw4⟩ : ∃ w4, w4 = w3.alloc (.cells (bcells (List.replicate Z 0)).toArray 5) := ⟨_, rfl⟩
  have hmk3 := hmk w3
  rw [← hw4] at bA hrz hkz hmk3
  have L4 := Lib.hid (L3.out.below bA)
  have D4 := Lib.hid (D3.out.below bA)
  have B4 := Lib.hid (B3.out.trans (bA.mono B3.out.size))
  have hps : p < w3.heap.size := L3.out.obj.lt
  have hds : ∀ k, d.Has k → k < w3.heap.size := fun k hk => At_lt D3.out hk
  have HPS := Lib.hid hps
  have HDS := Lib.hid hds
  have RZ := Lib.hid hrz
  clear hw4 hmk bA hrz hkz L3 D3 B3 hps hds
  by_cases h8 : 8192 < Z
  · have hap := append_long p d.p _ (some ⟨w3.heap.size, 0, none⟩) Z Z w4 L4.out h8 (by omega)
    have hc4 := Disk.calls_any d t w4 D4.out
    rw [HC.out, show ((2 : Nat) : Int) = 2 from rfl] at hc4
    have hln := logLen_any p d.p _ w4 L4.out
    have hfr := free_any p d.p _ w4 L4.out
    rw [show ((opened 0 (N + 1) (t.now.getD 0 []) []).to - (opened 0 (N + 1) (t.now.getD 0 []) []).next : Nat) = N by show N + 1 - (0 + 1 + 0) = N; omega] at hfr
    rw [show (((opened 0 (N + 1) (t.now.getD 0 []) []).count : Nat) : Int) = 0 from rfl] at hln
    unfold Dk.ptr at hc4
    have HAP := Lib.hid hap
    have HC4 := Lib.hid hc4
    have HLN := Lib.hid hln
    have HFR := Lib.hid hfr
    have hee : ((N : Int) == (N : Int)) = true := by simp
    have h8' : (8192 : Int) < Z := by omega
    clear hap hc4 hln hfr L4 D4 RZ HPS HDS HR2 HFU
    go_wp2_with fail
    refine HAP.out.mono ?_
    rintro e w' ⟨rfl, rfl⟩
    go_wp2_with fail
    refine HC4.out.mono ?_
    rintro e w' ⟨rfl, rfl⟩
    go_wp2_with fail
    refine HLN.out.mono ?_
    rintro e w' ⟨rfl, rfl⟩
    go_wp2_with fail
    refine HFR.out.mono ?_
    rintro e w5 hT
    obtain ⟨rfl, b5⟩ := hT.below
    have B5 := Lib.hid (B4.out.trans (b5.mono B4.out.size))
    clear hT b5
    go_wp2_with fail
    refine (awake_any _).mono ?_
    rintro e w6 ⟨rfl, b6⟩
    go_wp2
    go_ret
    exact ⟨rfl, B5.out.trans (b6.mono B5.out.size)⟩
  · have h8' : ¬ ((8192 : Int) < Z) := by omega
    have hnd := needN_pos (n := Z) (by omega)
    have hrn := fun w => refNeed_any (Z : Int) w (by omega)
    simp only [need_nat] at hrn
    by_cases hroom : N < needN Z
    · have hap := append_room p d.p _ (some ⟨w3.heap.size, 0, none⟩) Z Z w4 L4.out (by omega) (.inr (by show N + 1 < 0 + 1 + 0 + needN Z; omega))
      obtain ⟨M, hM⟩ : ∃ M, needN Z = M := ⟨_, rfl⟩
      rw [hM] at hrn hnd hroom
      have hNM : (N : Int) < M := by omega
      have HAP := Lib.hid hap
      have HRN := Lib.hid hrn
      have HM := Lib.hid hM
      clear hap hrn hM RZ HPS HDS HR2 HFU
      go_wp2_with fail
      refine (HRN.out _).mono ?_
      rintro e w' ⟨rfl, rfl⟩
      go_wp2_with fail
      refine HAP.out.mono ?_
      rintro e w5 ⟨rfl, b5⟩
      have L5 := L4.out.below b5
      have hc5 := Disk.calls_any d t w5 (D4.out.below b5)
      rw [HC.out, show ((2 : Nat) : Int) = 2 from rfl] at hc5
      have hln := logLen_any p d.p _ w5 L5
      have hfr := free_any p d.p _ w5 L5
      rw [show ((opened 0 (N + 1) (t.now.getD 0 []) []).to - (opened 0 (N + 1) (t.now.getD 0 []) []).next : Nat) = N by show N + 1 - (0 + 1 + 0) = N; omega] at hfr
      rw [show (((opened 0 (N + 1) (t.now.getD 0 []) []).count : Nat) : Int) = 0 from rfl] at hln
      unfold Dk.ptr at hc5
      have HC5 := Lib.hid hc5
      have HLN := Lib.hid hln
      have HFR := Lib.hid hfr
      have B5 := Lib.hid (B4.out.trans (b5.mono B4.out.size))
      have hee : ((N : Int) == (N : Int)) = true := by simp
      clear hc5 hln hfr L4 D4 HAP L5 b5 B4
      go_wp2_with fail
      refine HC5.out.mono ?_
      rintro e w' ⟨rfl, rfl⟩
      go_wp2_with fail
      refine HLN.out.mono ?_
      rintro e w' ⟨rfl, rfl⟩
      go_wp2_with fail
      refine HFR.out.mono ?_
      rintro e w6 hT
      obtain ⟨rfl, b6⟩ := hT.below
      have B6 := Lib.hid (B5.out.trans (b6.mono B5.out.size))
      clear hT b6
      go_wp2_with fail
      refine (awake_any _).mono ?_
      rintro e w7 ⟨rfl, b7⟩
      go_wp2
      go_ret
      exact ⟨rfl, B6.out.trans (b7.mono B6.out.size)⟩
    · have hlv := HR2.out.live
      have hl0 : (List.replicate Z (0 : Int)).length = Z := by simp
      have hap := append_ok p d t _ 0 (N + 1) [] (some ⟨w3.heap.size, 0, none⟩) Z Z (List.replicate Z 0) w4 L4.out D4.out hlv RZ.out (by intro h; cases h) (Nat.le_refl _)
        (by
          rintro _ b off e (h | h)
          · cases e; have := HPS.out; omega
          · cases e; have := HDS.out _ h; omega) (by omega) (by simp) (by show 0 + 1 + 0 + needN Z ≤ N + 1; omega) (by rw [HC.out]; decide)
      obtain ⟨e1, e2, e3, e4, e5⟩ := append_calm hlv HFU.out (List.replicate Z 0) (by omega) (zeros_byte Z) (by rw [hl0]; show 0 + 1 + 0 + needN Z ≤ N + 1; omega) (by simp)
      obtain ⟨q, hq⟩ : ∃ q, appendS t (opened 0 (N + 1) (t.now.getD 0 []) []) (List.replicate Z 0) = q := ⟨_, rfl⟩
      rw [hq] at e1 e2 e3
      rw [hl0, HC.out] at e3
      have hlog := e2.log
      obtain ⟨M, hM⟩ : ∃ M, needN Z = M := ⟨_, rfl⟩
      have hap2 : Calls Try.prog 29 #[.pointer (some ⟨p, 0, none⟩), .slice (some ⟨w3.heap.size, 0, none⟩) Z Z] w4 fun e w' => e = .returned (.int .i64 0) ∧ Disk.At w' d q.1 ∧ LAt w' p d.p q.2.1 ∧ Blk.Chg (fun k => k = p ∨ d.Has k) w4 w' :=
        hap.mono fun e w' h => ⟨by rw [h.told, hq, e1], by rw [← hq]; exact h.disk, by rw [← hq]; exact h.log, h.chg⟩
      rw [hM] at hrn hnd hroom e3
      have hcnt : q.2.1.count = 1 := by rw [hlog]; rfl
      have hfree : q.2.1.to - q.2.1.next = N - M := by
        rw [hlog]
        show N + 1 - (0 + 1 + used ([] ++ [List.replicate Z 0])) = N - M
        rw [used_snoc, hl0, hM, used_nil]; omega
      have hcq : ((q.1.calls : Nat) : Int) = 2 + (M : Int) + 3 := by rw [e3]; omega
      have hNM : ¬ ((N : Int) < M) := by omega
      have HAP := Lib.hid hap2
      have HRN := Lib.hid hrn
      have HCNT := Lib.hid hcnt
      have HFREE := Lib.hid hfree
      have HCQ := Lib.hid hcq
      have hee : ((((N - M : Nat)) : Int) == (N : Int) - (M : Int)) = true := by simp; omega
      clear hap hap2 hrn hM hq e1 e2 e3 e4 e5 hlog hcnt hfree hcq hlv hl0 RZ HR2 HFU
      go_wp2_with fail
      refine (HRN.out _).mono ?_
      rintro e w' ⟨rfl, rfl⟩
      go_wp2_with fail
      refine HAP.out.mono ?_
      rintro e w5 ⟨rfl, hd5, hl5, hc5⟩
      have b5 : Below w.heap.size w w5 := B4.out.trans (hc5.below (fun k hk => by
        rcases hk with rfl | hk
        · have := HP.out; have := b2.size; omega
        · exact hf.has hk) B4.out.size)
      have hca := Disk.calls_any d q.1 w5 hd5
      rw [HCQ.out] at hca
      have hln := logLen_any p d.p _ w5 hl5
      have hfr := free_any p d.p _ w5 hl5
      rw [HFREE.out] at hfr
      rw [HCNT.out, show ((1 : Nat) : Int) = 1 from rfl] at hln
      unfold Dk.ptr at hca
      have HCA := Lib.hid hca
      have HLN := Lib.hid hln
      have HFR := Lib.hid hfr
      have B5 := Lib.hid b5
      clear hca hln hfr hd5 hl5 hc5 b5 HAP L4 D4 B4
      go_wp2_with fail
      refine HCA.out.mono ?_
      rintro e w' ⟨rfl, rfl⟩
      go_wp2_with fail
      refine (HRN.out _).mono ?_
      rintro e w' ⟨rfl, rfl⟩
      go_wp2_with fail
      refine HLN.out.mono ?_
      rintro e w' ⟨rfl, rfl⟩
      go_wp2_with fail
      refine HFR.out.mono ?_
      rintro e w6 hT
      obtain ⟨rfl, b6⟩ := hT.below
      have B6 := Lib.hid (B5.out.trans (b6.mono B5.out.size))
      clear hT b6
      go_wp2_with fail
      refine (HRN.out _).mono ?_
      rintro e w' ⟨rfl, rfl⟩
      go_wp2_with fail
      refine (awake_any _).mono ?_
      rintro e w7 ⟨rfl, b7⟩
      go_wp2
      go_ret
      exact ⟨rfl, B6.out.trans (b7.mono B6.out.size)⟩
end Wal
end Go.Proofs.Ytjeidfknnophnaa

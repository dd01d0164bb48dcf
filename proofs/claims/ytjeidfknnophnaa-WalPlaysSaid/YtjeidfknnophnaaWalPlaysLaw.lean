/-
WalPlays' walk.
-/
import Derived.Test.YtjeidfknnophnaaWalPlay
import Derived.Test.YtjeidfknnophnaaWalRef
namespace Go.Proofs.Ytjeidfknnophnaa
open Go.RowKit
set_option linter.unusedVariables false
namespace Wal
open Disk (Dk St Sec Secs fresh)

theorem mineBlock {w : World} {B : Nat} {v : Value} {zs : List Int} (h : Mine w B v zs) (h0 : 0 < zs.length) : ∃ g cap cur, v = .slice (some ⟨g, 0, none⟩) zs.length cap ∧ zs.length ≤ cap ∧ B ≤ g ∧ Blk.Is w g 5 cur ∧ Row w (some ⟨g, 0, none⟩) zs.length zs := by
  obtain ⟨a, cap, hv, hle, hrow⟩ := h.row
  rcases id h.1.2 with ⟨e, _⟩ | ⟨g, cap', cur, e, hg, hh, _⟩
  · rw [hv] at e; simp only [Value.slice.injEq] at e; omega
  · rw [hv] at e; simp only [Value.slice.injEq] at e
    obtain ⟨rfl, _, rfl⟩ := e
    exact ⟨g, cap, cur, hv, hle, hg, hh, hrow⟩
theorem part_row {w : World} {g : Nat} {len : Nat} {zs : List Int} (h : Row w (some ⟨g, 0, none⟩) len zs) (off : Nat) (ho : off + 64 ≤ len) {cur : Array Value} (hi : Blk.Is w g 5 cur) : Row w (some ⟨g, off, none⟩) 64 ((zs.drop off).take 64) := by
  have hc := h.count
  obtain ⟨b, o, e, _, hcell⟩ := h.cells (by omega)
  cases e
  refine Row.ofIs hi off 64 _ (by rw [List.length_take, List.length_drop]; omega) (by omega) ((h.byt.drop off).take 64) fun j hj => ?_
  have h1 := hcell (off + j) (by omega)
  rw [Nat.zero_add, hi.cell] at h1
  rw [h1]
  congr 2
  simp [hj]

theorem Row.sameIs {w w' : World} {g len : Nat} {zs : List Int} {cur : Array Value} (h : Row w (some ⟨g, 0, none⟩) len zs) (hi : Blk.Is w g 5 cur) (hi' : Blk.Is w' g 5 cur) : Row w' (some ⟨g, 0, none⟩) len zs := by
  by_cases h0 : 0 < len
  · obtain ⟨b, o, e, _, hcell⟩ := h.cells h0
    cases e
    refine Row.ofIs hi' 0 len zs h.count h.short h.byt fun j hj => ?_
    have := hcell j hj
    rwa [hi.cell] at this
  · have h1 : len = 0 := by omega
    have h2 := h.count
    subst h1
    obtain rfl : zs = [] := List.length_eq_zero_iff.1 h2
    exact Row.empty _ _
set_option maxRecDepth 100000 in
set_option maxHeartbeats 4000000 in
theorem walPlays_walk (fz : Int) (v1 : Value) (ms : List (List Int)) (w : World) (h1 : Arg w.heap.size w v1 ms) :
    Calls Try.prog 5 #[.int .i64 fz, v1] w fun e w' => e = .returned (.bool true) ∧ Below w.heap.size w w' := by
  obtain ⟨hms, a1, cap1, rfl, hmc⟩ := h1
  obtain ⟨nm, hnm⟩ : ∃ n, ms.length = n := ⟨_, rfl⟩
  rw [hnm] at hms hmc
  rw [hnm]
  obtain ⟨F, hF, hF30⟩ := modN fz 30 (by omega) (by omega)
  rw [show ((30 : Nat) : Int) = 30 from rfl] at hF
  have HM := Lib.hid hmc
  clear hmc hnm
  go_enter Try.func5, Try.ntmps5
  go_wp2_with fail
  try rw [hF]
  clear hF
  obtain ⟨M, hM⟩ : ∃ M, F + 1 = M := ⟨_, rfl⟩
  rw [show (F : Int) + 1 = (M : Int) by omega]
  have hM1 : 1 ≤ M := by omega
  have hM30 : M ≤ 30 := by omega
  clear hM hF30
  refine (Disk.new_any _ _).mono ?_
  rintro e w1 ⟨d, rfl, hdn, hf, hd1, b1⟩
  have hsz : Disk.sizeOf ((M : Int) + 2) = M + 2 := by unfold Disk.sizeOf; omega
  rw [hsz] at hd1 hdn
  have HSZ := Lib.hid hsz
  have HDN := Lib.hid hdn
  have HD1 := Lib.hid hd1
  clear hsz hdn hd1
  unfold Dk.ptr
  go_wp2_with fail
  refine (Ref.ref_new_any _ _ (by omega)).mono ?_
  rintro e w2 ⟨m, rfl, hmn, hmB, hm2, b2⟩
  rw [HSZ.out] at hmn hm2
  have hfm := format_ok d (fresh (M + 2)) 1 (M + 1) w2 (HD1.out.below b2) rfl rfl (by omega) (by rw [HDN.out]; omega) (by show 0 < _; decide)
  rw [show (((M + 1 : Nat)) : Int) = (M : Int) + 1 by omega] at hfm
  unfold Dk.ptr at hfm
  have HFM := Lib.hid hfm
  have HM2 := Lib.hid hm2
  have HMN := Lib.hid hmn
  have HMB := Lib.hid (show w.heap.size ≤ m.B by rw [hmB]; exact b1.size)
  have hd2 := HD1.out.below b2
  have HD2 := Lib.hid hd2
  have B2 := Lib.hid (b1.trans (b2.mono b1.size))
  clear hfm hm2 hmn hmB hd2 b1 b2 HD1 HSZ
  unfold Ref.Rk.ptr
  go_wp2_with fail
  refine HFM.out.mono ?_
  rintro e w3 ⟨rfl, t, hd3, hr3, hcal, hfu, hnow, c3⟩
  have b3 : Below w.heap.size w w3 := B2.out.trans (c3.below (fun k hk => hf.has hk) B2.out.size)
  have hop := open_good d t 1 (M + 1) [] w3 hd3 hr3
  rw [show (((M + 1 : Nat)) : Int) = (M : Int) + 1 by omega] at hop
  unfold Dk.ptr at hop
  have hm3 := refKeeps HD2.out HM2.out c3
  have hz : t.now = (fresh (M + 2)).now := by
    rw [hnow]
    show ((List.replicate (M + 2) Disk.zero).set 1 (Disk.zero.take 64)) = List.replicate (M + 2) Disk.zero
    rw [List.take_of_length_le (by rw [Disk.zero_sec.len]; exact Nat.le_refl _), List.set_replicate_self]
  have HZ := Lib.hid hz
  have HOP := Lib.hid hop
  have HD3 := Lib.hid hd3
  have HR3 := Lib.hid hr3
  have HC := Lib.hid (show t.calls = 2 from hcal)
  have HFU := Lib.hid hfu
  have HM3 := Lib.hid hm3
  have B3 := Lib.hid b3
  clear hz hop hd3 hr3 hcal hfu hnow c3 b3 hm3 HFM HM2 HD2 B2
  go_wp2_with fail
  refine HOP.out.mono ?_
  rintro e w4 ⟨p, v, rfl, ho⟩
  have hrun := (run_open HD3.out hf B3.out HR3.out ho).1
  have hm4 := HM3.out.below ho.below
  obtain ⟨z, hmk, hzz⟩ : ∃ z, (∀ w : World, (Instr.makeSlice 25 (.int .i64 64) (.int .i64 64)).run Try.prog w = .ok (.slice (some ⟨w.heap.size, 0, none⟩) 64 64) (w.alloc (.cells z 5))) ∧ z = (bcells Disk.zero).toArray := ⟨_, Disk.run_make_bytes, rfl⟩
  have hplay : Play w (w4.alloc (.cells z 5)) d p m w4.heap.size M 0 1 0 := by
    have bA : Below w4.heap.size w4 (w4.alloc (.cells z 5)) := (Below.refl _ _).alloc (Nat.le_refl _) _
    have h1 : t.now.getD 1 [] = Disk.zero := by
      rw [HZ.out]
      show (List.replicate (M + 2) Disk.zero).getD 1 [] = _
      rw [List.getD_eq_getElem?_getD, List.getElem?_replicate, if_pos (by omega)]
      rfl
    refine ⟨t, _, [], fresh (M + 2), hrun.below bA, HFU.out, rfl, by simp, by rw [HC.out]; omega, hm4.below bA, ⟨HZ.out.symm, rfl, rfl, by show 0 ≤ _; omega⟩, HDN.out, HMN.out, HMB.out, ?_, hrun.bel.size, ?_⟩
    · rw [h1, ← hzz]; exact Blk.Is.new w4 _ _
    · exact (hm4.noRow _ (Nat.le_refl _)).chg (S := fun _ => False) (Blk.Chg.ofBelow' bA) (by simp)
  have HPL := Lib.hid hplay
  have HN := Lib.hid HMN.out
  clear hplay hrun hm4 ho hzz HOP HD3 HR3 HC HFU HM3 B3 HZ HMB HDN
  go_wp2_with fail
  obtain ⟨g, hg⟩ : ∃ g, w4.heap.size = g := ⟨_, rfl⟩
  rw [hg] at HPL
  rw [hg]
  clear hg
  go_loopw [11, 12, 14] (fun us cn i u => ∃ k usn cnn : Nat, k ≤ 40 ∧ k ≤ nm ∧ i = .int .i64 k ∧ us = .int .i64 usn ∧ cn = .int .i64 cnn ∧ Play w u d p m g M k usn cnn) (fun _ _ i _ => 40 - (intOf i).toNat)
  case atStart => exact ⟨0, 1, 0, by omega, by omega, rfl, rfl, rfl, HPL.out⟩
  case round =>
    clear HPL
    obtain ⟨k, us, cn, hk40, hkn, rfl, rfl, rfl, hpl⟩ := hrel
    obtain ⟨hus, hcn, hbel⟩ := hpl.bounds
    have HP := Lib.hid hpl
    clear hpl
    by_cases hend : k < nm ∧ k < 40
    · obtain ⟨hkn', hk40'⟩ := hend
      have hlt : (k : Int) < (nm : Int) := by omega
      have hlt4 : (k : Int) < 40 := by omega
      have hk0 : (0 : Int) ≤ k := by omega
      obtain ⟨mb, mo, rfl, hmb, hmat⟩ := HM.out (by omega)
      obtain ⟨ai, ci, g1, g2, g3, g4, g5⟩ := hmat k hkn'
      have hshort := g2.short
      obtain ⟨r, hr⟩ : ∃ r, ms.getD k [] = r := ⟨_, rfl⟩
      rw [hr] at g1 g2 g3 g5 hshort
      have hlen := g2.count
      obtain ⟨len, hm⟩ : ∃ m, r.length = m := ⟨_, rfl⟩
      rw [hm] at g1 g2 g3 g5 hshort hlen
      have cM : ∀ u, Below w.heap.size w u → u.cell? ⟨mb, mo + k, none⟩ = some (.slice ai len ci) := fun u hu => by rw [hu.cell (by exact hmb)]; exact g1
      have rM : ∀ u, Below w.heap.size w u → Row u ai len r := fun u hu => g2.keep (S := fun k => w.heap.size ≤ k) (Blk.Chg.ofBelow hu fun k _ hk => hk) (fun hl b off e => by have h7 := g5 hl _ e; show ¬ w.heap.size ≤ b; have h8 : b < w.heap.size := h7; omega)
      have cM1 := cM _ hbel
      have hnd := fun w => refNeed_any (len : Int) w (by omega)
      simp only [need_nat] at hnd
      obtain ⟨N, hN⟩ : ∃ N, needN len = N := ⟨_, rfl⟩
      rw [hN] at hnd
      have HND := Lib.hid hnd
      have HRM := Lib.hid rM
      have HCM := Lib.hid cM
      have HG5 := Lib.hid g5
      have HG3 := Lib.hid g3
      have HG4 := Lib.hid g4
      have HNN := Lib.hid hN
      have HLL := Lib.hid hm
      have HBE := Lib.hid hbel
      clear hnd rM cM g1 g2 g3 g4 g5 hmat hr hm hbel hlen hN
      by_cases h8 : 8192 < len
      · have h8' : (8192 : Int) < (len : Int) := by omega
        go_wp2_with fail
        refine (HND.out _).mono ?_
        rintro e w' ⟨rfl, rfl⟩
        have hap := HP.out.long ai len ci h8 hshort
        have HAP := Lib.hid hap
        clear hap HP
        go_wp2_with fail
        refine HAP.out.mono ?_
        rintro e w7 ⟨rfl, hpl⟩
        obtain ⟨hus2, hcn2, hbel2⟩ := hpl.bounds
        obtain ⟨htl, htf⟩ := hpl.told
        have HTL := Lib.hid htl
        have HTF := Lib.hid htf
        have HP2 := Lib.hid hpl
        clear htl htf hpl HAP hbel2
        go_wp2_with fail
        refine HTL.out.mono ?_
        rintro e w8 ⟨rfl, rfl⟩
        go_wp2_with fail
        refine HTF.out.mono ?_
        rintro e w9 ⟨rfl, b9⟩
        have HP3 := Lib.hid (HP2.out.below b9)
        clear b9 HTL HTF HP2 HCM HRM HND
        go_wp2_with fail
        refine ⟨⟨k + 1, _, _, by omega, by omega, by go_num, rfl, rfl, HP3.out⟩, ?_⟩
        simp [intOf]; omega
      · have h8' : ¬ ((8192 : Int) < (len : Int)) := by omega
        have hnl := needN_le len
        rw [HNN.out] at hnl
        by_cases hro : M < us + N
        · have hro' : (M : Int) < (us : Int) + (N : Int) := by omega
          have hap := HP.out.room ai len ci (by omega) (by rw [HNN.out]; exact hro)
          have HAP := Lib.hid hap
          clear hap HP
          go_wp2_with fail
          refine (HND.out _).mono ?_
          rintro e w' ⟨rfl, rfl⟩
          go_wp2_with fail
          refine HAP.out.mono ?_
          rintro e w7 ⟨rfl, hpl⟩
          obtain ⟨hus2, hcn2, hbel2⟩ := hpl.bounds
          obtain ⟨htl, htf⟩ := hpl.told
          have HTL := Lib.hid htl
          have HTF := Lib.hid htf
          have HP2 := Lib.hid hpl
          clear htl htf hpl HAP hbel2
          go_wp2_with fail
          refine HTL.out.mono ?_
          rintro e w8 ⟨rfl, rfl⟩
          go_wp2_with fail
          refine HTF.out.mono ?_
          rintro e w9 ⟨rfl, b9⟩
          have HP3 := Lib.hid (HP2.out.below b9)
          clear b9 HTL HTF HP2 HCM HRM HND
          go_wp2_with fail
          refine ⟨⟨k + 1, _, _, by omega, by omega, by go_num, rfl, rfl, HP3.out⟩, ?_⟩
          simp [intOf]; omega
        · have hro' : ¬ ((M : Int) < (us : Int) + (N : Int)) := by omega
          go_wp2_with fail
          refine (HND.out _).mono ?_
          rintro e w' ⟨rfl, rfl⟩
          have HR0 := Lib.hid (HRM.out _ HBE.out)
          go_wp2_with fail
          refine (refRecord_any ai len ci r _ HR0.out HG4.out (by omega)).mono ?_
          rintro e wv ⟨vx, rfl, hmx, hbx⟩
          have hrl : (record r).length = 64 * N := by rw [record_lenN (by rw [HLL.out]; omega), HLL.out, HNN.out]
          have hN1 : 1 ≤ N := by have := (needN_pos (n := len) (by omega)).1; rw [HNN.out] at this; exact this
          obtain ⟨gx, cx, cur, rfl, hcx, hgx, hix, hrx⟩ := mineBlock hmx (by rw [hrl]; omega)
          rw [hrl] at hcx hrx
          rw [hrl]
          have hwr := (HP.out.below hbx).writing r
          obtain ⟨L, hL⟩ : ∃ L, 64 * N = L := ⟨_, rfl⟩
          rw [hL] at hcx hrx
          rw [hL]
          have HRX := Lib.hid hrx
          have HIX := Lib.hid hix
          have HWR := Lib.hid hwr
          clear hmx hbx hwr hrx hix HP hrl HR0 hgx
          go_wp2_with fail
          go_loopw [72] (fun i u => ∃ j : Nat, j ≤ N ∧ i = .int .i64 j ∧ Writing w wv u d p m g M k us cn r j ∧ Blk.Is u gx 5 cur ∧ Row u (some ⟨gx, 0, none⟩) L (record r)) (fun i _ => N - (intOf i).toNat)
          case atStart => exact ⟨0, by omega, rfl, HWR.out, HIX.out, HRX.out⟩
          case round =>
            clear HWR HIX HRX
            obtain ⟨j, hj, rfl, hwr, hix, hrx⟩ := hrel
            by_cases hjn : j < N
            · have hj1 : (j : Int) < (N : Int) := by omega
              have hpr : Row wr (some ⟨gx, j * 64, none⟩) 64 (((record r).drop (64 * j)).take 64) := by
                have := part_row hrx (64 * j) (by omega) hix
                rw [show 64 * j = j * 64 from Nat.mul_comm _ _] at this ⊢
                exact this
              have hst := hwr.step (by omega) (by rw [HLL.out]; omega) (by rw [HLL.out, HNN.out]; exact hjn) (by rw [HLL.out, HNN.out]; omega) (some ⟨gx, j * 64, none⟩) (cx - j * 64) hpr (fun x e => by cases e; exact ⟨_, hix⟩) (by intro h; cases h)
              rw [show (((1 + us + j : Nat)) : Int) = 1 + (us : Int) + (j : Int) by omega] at hst
              unfold Ref.Rk.ptr at hst
              have HST := Lib.hid hst
              have HW2 := Lib.hid hwr
              have HIX := Lib.hid hix
              have HRX := Lib.hid hrx
              clear hst hwr hix hrx hpr
              go_wp2_with fail
              rw [show (j + 1) * 64 - j * 64 = 64 by omega]
              refine HST.out.mono ?_
              rintro e w8 ⟨rfl, hnx, hch⟩
              have hi2 := HW2.out.keepB hch HIX.out
              have hr2 : Row w8 (some ⟨gx, 0, none⟩) L (record r) := Row.sameIs HRX.out HIX.out hi2
              have HNX := Lib.hid hnx
              have HI2 := Lib.hid hi2
              have HR2 := Lib.hid hr2
              clear hnx hch hi2 hr2 HST HW2 HIX HRX
              go_wp2
              refine ⟨⟨j + 1, by omega, by go_num, HNX.out, HI2.out, HR2.out⟩, ?_⟩
              simp [intOf]; omega
            · obtain rfl : j = N := by omega
              have hj1 : ¬ ((j : Int) < (j : Int)) := by omega
              obtain ⟨mk, hms2, hmi, hgb⟩ := hwr.marks
              have hq : IntKind.i64.wrap ((cn : Int).tdiv 8) = ((cn / 8 : Nat) : Int) := by
                rw [IntWalk.i64_quo _ _ (by omega)]; omega
              have q0 : (0 : Int) ≤ ((cn / 8 : Nat) : Int) := by omega
              have q1 : ((cn / 8 : Nat) : Int) < 64 := by omega
              have hfr := hmi.free (cn / 8)
              have hce := hmi.at (i := cn / 8) (v := .int .u8 (mk.getD (cn / 8) 0)) (by
                have := bcells_at mk (cn / 8) (by rw [hms2.len]; omega)
                simpa using this)
              have hlast := fun y hy => (show Writing w wv wr d p m g M k us cn r (needN r.length) by rw [HLL.out, HNN.out]; exact hwr).last (by omega) (by rw [HLL.out]; omega) (by rw [HLL.out, HNN.out]; omega) (by omega) hmi y hy
              unfold Ref.Rk.ptr at hlast
              obtain ⟨z, hz⟩ : ∃ z, mk.getD (cn / 8) 0 = z := ⟨_, rfl⟩
              rw [hz] at hce hlast
              have hw : wgt cn = 2 ^ (7 - cn % 8) := rfl
              have HLAST := Lib.hid hlast
              clear hz hlast hms2 hmi hwr hix hrx
              rcases (show cn % 8 = 0 ∨ cn % 8 = 1 ∨ cn % 8 = 2 ∨ cn % 8 = 3 ∨ cn % 8 = 4 ∨ cn % 8 = 5 ∨ cn % 8 = 6 ∨ cn % 8 = 7 by omega) with h88 | h88 | h88 | h88 | h88 | h88 | h88 | h88
              all_goals
                have hrem : (cn : Int) % 8 = ((cn % 8 : Nat) : Int) := by omega
                rw [h88] at hrem hw
                simp only [Nat.sub_zero, Nat.reduceSub, Int.reducePow, Int.cast_ofNat_Int] at hrem hw
                obtain ⟨y, hy⟩ : ∃ y, bits .or .u8 z (wgt cn) = y := ⟨_, rfl⟩
                have HL2 := Lib.hid (HLAST.out y hy.symm)
                rw [hw] at hy
                clear hw h88
                go_wp2_with fail
                refine HL2.out.mono ?_
                rintro e w8 ⟨rfl, hrd⟩
                have hb8 := hrd.bel
                have cM2 := HCM.out _ hb8
                have hap := hrd.append (by omega) ai len ci (HRM.out _ hb8) HG4.out HG3.out HG5.out (by omega) (by omega) (by rw [HNN.out]; omega)
                rw [HNN.out] at hap
                have HAP := Lib.hid hap
                clear hap hrd hb8 HL2 HLAST hce hfr hy cM1
                go_wp2_with fail
                refine HAP.out.mono ?_
                rintro e w7 ⟨rfl, hpl⟩
                obtain ⟨hus2, hcn2, hbel2⟩ := hpl.bounds
                obtain ⟨htl, htf⟩ := hpl.told
                have HTL := Lib.hid htl
                have HTF := Lib.hid htf
                have HP2 := Lib.hid hpl
                clear htl htf hpl HAP hbel2
                go_wp2_with fail
                refine HTL.out.mono ?_
                rintro e w8 ⟨rfl, rfl⟩
                go_wp2_with fail
                refine HTF.out.mono ?_
                rintro e w9 ⟨rfl, b9⟩
                have HP3 := Lib.hid (HP2.out.below b9)
                clear b9 HTL HTF HP2 HCM HRM HND
                go_wp2_with fail
                refine ⟨⟨k + 1, _, _, by omega, by omega, by go_num, rfl, rfl, HP3.out⟩, ?_⟩
                simp [intOf]; omega
    · obtain ⟨s, l, rs, sr, h1, h2, h3, h4, h5, h6, h7, h8, h9, h10, h11, h12, h13⟩ := HP.out
      have hall := fun u (hu : Below wr.heap.size wr u) => all_any d s u (h1.disk.below hu) h1.live.off
      have harea := fun u (hu : Below wr.heap.size wr u) => area_any m sr u (h6.below hu)
      rw [h8] at hall
      rw [h9, h7.now, show (((M + 2 : Nat)) : Int) = (M : Int) + 2 by omega] at harea
      unfold Dk.ptr at hall
      unfold Ref.Rk.ptr at harea
      have HALL := Lib.hid hall
      have HAREA := Lib.hid harea
      have HBE := Lib.hid hbel
      obtain ⟨zs, hzs⟩ : ∃ zs, bytes s.now 0 (M + 2) = zs := ⟨_, rfl⟩
      rw [hzs] at HALL HAREA
      clear h1 h2 h3 h4 h5 h6 h7 h8 h9 h10 h11 h12 h13 hall harea hbel HP hzs hus hcn
      have hcase : (¬ ((k : Int) < (nm : Int))) ∨ ((k : Int) < (nm : Int) ∧ ¬ ((k : Int) < 40)) := by omega
      rcases hcase with hc | ⟨hc, hc4⟩
      all_goals
        go_wp2_with fail
        refine wp_region_held (S := fun u => Below wr.heap.size wr u) (by kernel_rfl) ?_
        change wpAnyH _ _ _ _ _ 13 _ _ _
        refine wpAnyH_take (i := 0) (v := .pointer (some ⟨d.p, 0, none⟩)) rfl (by kernel_rfl) (by kernel_rfl) (by kernel_rfl) (fun _ _ _ h => h) (.inl ⟨rfl, fun w _ => rfl⟩) ((Below.refl _ _).drew) ?_
        simp only [Act.put, List.getElem_toArray, List.getElem_cons_zero, List.setIfInBounds_toArray, List.set_cons_zero, List.set_cons_succ]
        refine wpAnyH_take (i := 3) (v := .pointer (some ⟨m.p, 0, none⟩)) rfl (by kernel_rfl) (by kernel_rfl) (by kernel_rfl) (fun _ _ _ h => h) (.inl ⟨rfl, fun w _ => rfl⟩) ((Below.refl _ _).drew) ?_
        simp only [Act.put, List.getElem_toArray, List.getElem_cons_zero, List.getElem_cons_succ, List.setIfInBounds_toArray, List.set_cons_zero, List.set_cons_succ]
        refine wpAnyH_take (i := 4) (v := .int .i64 M) rfl (by kernel_rfl) (by kernel_rfl) (by kernel_rfl) (fun _ _ _ h => h) (.inl ⟨rfl, fun w _ => rfl⟩) ((Below.refl _ _).drew) ?_
        simp only [Act.put, List.getElem_toArray, List.getElem_cons_zero, List.getElem_cons_succ, List.setIfInBounds_toArray, List.set_cons_zero, List.set_cons_succ]
        refine wpAnyH_take (i := 5) (v := .int .i64 (IntKind.i64.wrap ((M : Int) + 2))) rfl (by kernel_rfl) (by kernel_rfl) (by kernel_rfl) (fun _ _ _ h => h) (.inl ⟨rfl, fun w _ => rfl⟩) ((Below.refl _ _).drew) ?_
        simp only [Act.put, List.getElem_toArray, List.setIfInBounds_toArray]
        rw [IntWalk.i64_in ((M : Int) + 2) (by omega)]
        change wpAnyH _ _ _ _ _ 9 _ _ wr.drew
        have hW : Below wr.heap.size wr wr.drew := (Below.refl _ _).drew
        have HAa := Lib.hid True.intro
        have HBb := Lib.hid True.intro
        refine wpAnyH_all (rs := [1]) (by kernel_rfl) (by simp) ?_
        intro i hi
        obtain rfl := List.mem_singleton.1 hi
        clear hi
        refine Reg.wpOp_list rfl ?_
        go_wp2_with fail
        refine (HALL.out _ hW).mono ?_
        rintro e wA ⟨vA, rfl, hmA, hbA⟩
        obtain ⟨nA, aA, cA, rfl, _, _, hrA⟩ := hmA.rows
        have HAa := Lib.hid hrA
        have hW := hW.trans (hbA.mono hW.size)
        clear hmA hrA hbA
        go_wp2_with fail
        change _ ∧ _
        refine ⟨hW, ?_⟩
        refine wpAnyH_all (rs := [2, 6]) (by kernel_rfl) (by simp) ?_
        intro i hi
        simp only [List.mem_cons, List.not_mem_nil, or_false] at hi
        rcases hi with rfl | rfl
        · refine Reg.wpOp_list rfl ?_
          have hcv := HAa.out.conv cA
          go_wp2_with fail
          clear hcv
          change _ ∧ _
          refine ⟨hW, ?_⟩
          refine wpAnyH_all (rs := [6]) (by kernel_rfl) (by simp) ?_
          intro i hi
          obtain rfl := List.mem_singleton.1 hi
          clear hi
          refine Reg.wpOp_list rfl ?_
          go_wp2_with fail
          refine (HAREA.out _ hW).mono ?_
          rintro e wB ⟨vB, rfl, hmB, hbB⟩
          obtain ⟨nB, aB, cB, rfl, _, _, hrB⟩ := hmB.rows
          have HBb := Lib.hid hrB
          have HAa := Lib.hid (HAa.out.below hbB)
          have hW := hW.trans (hbB.mono hW.size)
          clear hmB hrB hbB
          go_wp2_with fail
          change _ ∧ _
          refine ⟨hW, ?_⟩
          refine wpAnyH_all (rs := [7]) (by kernel_rfl) (by simp) ?_
          intro i hi
          obtain rfl := List.mem_singleton.1 hi
          clear hi
          refine Reg.wpOp_list rfl ?_
          have hcv := HBb.out.conv cB
          go_wp2_with fail
          clear hcv
          change _ ∧ _
          refine ⟨hW, ?_⟩
          clear HALL HAREA HAa HBb
          refine wpAnyH_all (rs := [8]) (by kernel_rfl) (by simp) ?_
          intro i hi
          obtain rfl := List.mem_singleton.1 hi
          clear hi
          refine Reg.wpOp_list rfl ?_
          go_wp2_with fail
          change _ ∧ _
          refine ⟨hW, ?_⟩
          refine wpAnyH_all (rs := [9]) (by kernel_rfl) (by simp) ?_
          intro i hi
          obtain rfl := List.mem_singleton.1 hi
          clear hi
          refine Reg.wpOp_list rfl ?_
          go_wp2_with fail
          change _ ∧ _
          refine ⟨hW, ?_⟩
          refine wpAnyH_all (rs := [10]) (by kernel_rfl) (by simp) ?_
          intro i hi
          obtain rfl := List.mem_singleton.1 hi
          clear hi
          refine Reg.wpOp_list rfl ?_
          go_wp2_with fail
          refine (awake_any _).mono ?_
          rintro e wZ ⟨rfl, bZ⟩
          have hW := hW.trans (bZ.mono hW.size)
          go_wp2_with fail
          change _ ∧ _
          refine ⟨hW, ?_⟩
          refine wpAnyH_all (rs := [11]) (by kernel_rfl) (by simp) ?_
          intro i hi
          obtain rfl := List.mem_singleton.1 hi
          clear hi
          refine Reg.wpOp_list rfl ?_
          go_wp2_with fail
          change _ ∧ _
          refine ⟨hW, ?_⟩
          refine wpAnyH_all (rs := [12]) (by kernel_rfl) (by simp) ?_
          intro i hi
          obtain rfl := List.mem_singleton.1 hi
          clear hi
          refine Reg.wpOp_list rfl ?_
          go_wp2_with fail
          change _ ∧ _
          refine ⟨hW, ?_⟩
          refine wpAnyH_done (by kernel_rfl) ?_ _
          go_wp2_with fail
          go_ret
          exact ⟨rfl, HBE.out.trans (hW.mono HBE.out.size)⟩
        · refine Reg.wpOp_list rfl ?_
          go_wp2_with fail
          refine (HAREA.out _ hW).mono ?_
          rintro e wB ⟨vB, rfl, hmB, hbB⟩
          obtain ⟨nB, aB, cB, rfl, _, _, hrB⟩ := hmB.rows
          have HBb := Lib.hid hrB
          have HAa := Lib.hid (HAa.out.below hbB)
          have hW := hW.trans (hbB.mono hW.size)
          clear hmB hrB hbB
          go_wp2_with fail
          change _ ∧ _
          refine ⟨hW, ?_⟩
          refine wpAnyH_all (rs := [2, 7]) (by kernel_rfl) (by simp) ?_
          intro i hi
          simp only [List.mem_cons, List.not_mem_nil, or_false] at hi
          rcases hi with rfl | rfl
          · refine Reg.wpOp_list rfl ?_
            have hcv := HAa.out.conv cA
            go_wp2_with fail
            clear hcv
            change _ ∧ _
            refine ⟨hW, ?_⟩
            refine wpAnyH_all (rs := [7]) (by kernel_rfl) (by simp) ?_
            intro i hi
            obtain rfl := List.mem_singleton.1 hi
            clear hi
            refine Reg.wpOp_list rfl ?_
            have hcv := HBb.out.conv cB
            go_wp2_with fail
            clear hcv
            change _ ∧ _
            refine ⟨hW, ?_⟩
            clear HALL HAREA HAa HBb
            refine wpAnyH_all (rs := [8]) (by kernel_rfl) (by simp) ?_
            intro i hi
            obtain rfl := List.mem_singleton.1 hi
            clear hi
            refine Reg.wpOp_list rfl ?_
            go_wp2_with fail
            change _ ∧ _
            refine ⟨hW, ?_⟩
            refine wpAnyH_all (rs := [9]) (by kernel_rfl) (by simp) ?_
            intro i hi
            obtain rfl := List.mem_singleton.1 hi
            clear hi
            refine Reg.wpOp_list rfl ?_
            go_wp2_with fail
            change _ ∧ _
            refine ⟨hW, ?_⟩
            refine wpAnyH_all (rs := [10]) (by kernel_rfl) (by simp) ?_
            intro i hi
            obtain rfl := List.mem_singleton.1 hi
            clear hi
            refine Reg.wpOp_list rfl ?_
            go_wp2_with fail
            refine (awake_any _).mono ?_
            rintro e wZ ⟨rfl, bZ⟩
            have hW := hW.trans (bZ.mono hW.size)
            go_wp2_with fail
            change _ ∧ _
            refine ⟨hW, ?_⟩
            refine wpAnyH_all (rs := [11]) (by kernel_rfl) (by simp) ?_
            intro i hi
            obtain rfl := List.mem_singleton.1 hi
            clear hi
            refine Reg.wpOp_list rfl ?_
            go_wp2_with fail
            change _ ∧ _
            refine ⟨hW, ?_⟩
            refine wpAnyH_all (rs := [12]) (by kernel_rfl) (by simp) ?_
            intro i hi
            obtain rfl := List.mem_singleton.1 hi
            clear hi
            refine Reg.wpOp_list rfl ?_
            go_wp2_with fail
            change _ ∧ _
            refine ⟨hW, ?_⟩
            refine wpAnyH_done (by kernel_rfl) ?_ _
            go_wp2_with fail
            go_ret
            exact ⟨rfl, HBE.out.trans (hW.mono HBE.out.size)⟩
          · refine Reg.wpOp_list rfl ?_
            have hcv := HBb.out.conv cB
            go_wp2_with fail
            clear hcv
            change _ ∧ _
            refine ⟨hW, ?_⟩
            refine wpAnyH_all (rs := [2]) (by kernel_rfl) (by simp) ?_
            intro i hi
            obtain rfl := List.mem_singleton.1 hi
            clear hi
            refine Reg.wpOp_list rfl ?_
            have hcv := HAa.out.conv cA
            go_wp2_with fail
            clear hcv
            change _ ∧ _
            refine ⟨hW, ?_⟩
            clear HALL HAREA HAa HBb
            refine wpAnyH_all (rs := [8]) (by kernel_rfl) (by simp) ?_
            intro i hi
            obtain rfl := List.mem_singleton.1 hi
            clear hi
            refine Reg.wpOp_list rfl ?_
            go_wp2_with fail
            change _ ∧ _
            refine ⟨hW, ?_⟩
            refine wpAnyH_all (rs := [9]) (by kernel_rfl) (by simp) ?_
            intro i hi
            obtain rfl := List.mem_singleton.1 hi
            clear hi
            refine Reg.wpOp_list rfl ?_
            go_wp2_with fail
            change _ ∧ _
            refine ⟨hW, ?_⟩
            refine wpAnyH_all (rs := [10]) (by kernel_rfl) (by simp) ?_
            intro i hi
            obtain rfl := List.mem_singleton.1 hi
            clear hi
            refine Reg.wpOp_list rfl ?_
            go_wp2_with fail
            refine (awake_any _).mono ?_
            rintro e wZ ⟨rfl, bZ⟩
            have hW := hW.trans (bZ.mono hW.size)
            go_wp2_with fail
            change _ ∧ _
            refine ⟨hW, ?_⟩
            refine wpAnyH_all (rs := [11]) (by kernel_rfl) (by simp) ?_
            intro i hi
            obtain rfl := List.mem_singleton.1 hi
            clear hi
            refine Reg.wpOp_list rfl ?_
            go_wp2_with fail
            change _ ∧ _
            refine ⟨hW, ?_⟩
            refine wpAnyH_all (rs := [12]) (by kernel_rfl) (by simp) ?_
            intro i hi
            obtain rfl := List.mem_singleton.1 hi
            clear hi
            refine Reg.wpOp_list rfl ?_
            go_wp2_with fail
            change _ ∧ _
            refine ⟨hW, ?_⟩
            refine wpAnyH_done (by kernel_rfl) ?_ _
            go_wp2_with fail
            go_ret
            exact ⟨rfl, HBE.out.trans (hW.mono HBE.out.size)⟩


end Wal
end Go.Proofs.Ytjeidfknnophnaa

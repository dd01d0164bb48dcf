/-
DiskCopies' walk.
-/
import Derived.Test.YthjilmeaaghpaaaDiskTwo
namespace Go.Proofs.Ythjilmeaaghpaaa
open Go.RowKit
set_option linter.unusedVariables false
namespace Pair
open Disk (Sec Secs St hasB Dk)
open Ref (Rk)

set_option maxRecDepth 100000 in
set_option maxHeartbeats 8000000 in
theorem diskCopies_walk (l : Value) (len : Nat) (cl : Nat → Cl) (x : Value) (la : Nat) (ca : Nat → Cl) (y : Value) (lb : Nat) (cb : Nat → Cl) (w : World) (hs : Script w l len cl) (ha : Script w x la ca) (hb : Script w y lb cb) :
    Calls Try.prog 5 #[l, x, y] w fun e w' => e = .returned (.bool true) ∧ Below w.heap.size w w' := by
  obtain ⟨al, cap, rfl, hcells⟩ := hs.shape
  obtain ⟨ax, capx, rfl, hcx⟩ := ha.shape
  obtain ⟨ay, capy, rfl, hcy⟩ := hb.shape
  have HCL := Lib.hid hcells
  have HCX := Lib.hid hcx
  have HCY := Lib.hid hcy
  have hsa := ha.short
  have hsb := hb.short
  have hshort := hs.short
  clear hs ha hb hcells hcx hcy
  go_enter Try.func5, Try.ntmps5
  go_wp2_with fail
  refine (Disk.new_any _ _).mono ?_
  rintro e w1 ⟨dk, rfl, hdn, hdf, hd1, b1⟩
  have HDN := Lib.hid (show dk.n = 5 from hdn)
  have HD1 := Lib.hid hd1
  clear hd1 hdn
  go_wp2_with fail
  refine (Ref.ref_new_any _ _ (by omega)).mono ?_
  rintro e w2 ⟨m, rfl, hmn, hmB, hr2, b2⟩
  have HMN := Lib.hid (show m.n = 5 from hmn)
  have hat : At w.heap.size w2 dk m _ _ := ⟨HD1.out.below b2, hr2, like_fresh _, hdf, by rw [hmB]; exact b1.size⟩
  have HAT := Lib.hid hat
  have HB2 := Lib.hid (b1.trans (b2.mono b1.size))
  clear HD1 hmB hr2 b1 b2 hat hdf hmn
  unfold Dk.ptr Rk.ptr
  go_wp2_with fail
  go_loopw [9] (fun i u => ∃ t : Nat, ∃ sd sr : St, t ≤ len ∧ t ≤ 30 ∧ i = .int .i64 t ∧ At w.heap.size u dk m sd sr ∧ sd.calls ≤ t ∧ Below w.heap.size w u) (fun i _ => 30 - (intOf i).toNat)
  case atStart => exact ⟨0, _, _, by omega, by omega, rfl, HAT.out, Nat.le_refl 0, HB2.out⟩
  case round =>
    clear HAT HB2
    obtain ⟨t, sd, sr, ht, ht30, rfl, hat, hcal, hbel⟩ := hrel
    have HAT := Lib.hid hat
    have HBEL := Lib.hid hbel
    clear hat hbel
    by_cases hgo : t < len ∧ t < 30
    · obtain ⟨htl, ht3⟩ := hgo
      obtain ⟨b, off, rfl, hof⟩ := HCL.out (by omega)
      obtain ⟨hok, hc0, hc1, hc2, hc3, hc4⟩ := elem HBEL.out hof htl
      have hd : decide ((t : Int) < (len : Int)) = true := by simpa using htl
      have hdo : Calls Try.prog 11 #[.pointer (some ⟨dk.p, 0, none⟩), .pointer (some ⟨m.p, 0, none⟩), .agg #[.int .i64 (cl t).d, .int .i64 (cl t).i, .int .u8 (cl t).b, .bool (cl t).sh, .slice (cl t).pa (cl t).pl (cl t).pc]] wr fun e u' => Done w.heap.size wr dk m sd e u' :=
        do_any w.heap.size dk m sd sr (cl t) wr HAT.out (by omega) hok
      have HDO := Lib.hid hdo
      clear hdo hok hof
      go_wp2_with fail
      refine HDO.out.mono ?_
      rintro e uD ⟨rfl, ⟨sd', sr', hat', hcal'⟩, hcg'⟩
      have HN1 := Lib.hid hat'
      have HN2 := Lib.hid (HBEL.out.trans (chg_below HAT.out HBEL.out.size hcg'))
      clear hat' hcg' hc0 hc1 hc2 hc3 hc4
      go_wp2
      refine ⟨⟨t + 1, sd', sr', by omega, by omega, by go_num, HN1.out, by omega, HN2.out⟩, ?_⟩
      simp [intOf]; omega
    · obtain ⟨tt, htt, hcond⟩ : ∃ tt : Int, (t : Int) = tt ∧ (decide (tt < (len : Int)) = false ∨ decide (tt < (len : Int)) = true ∧ tt = 30) := by
        refine ⟨_, rfl, ?_⟩
        rcases (show t = len ∨ t < len ∧ t = 30 by omega) with rfl | ⟨htl, rfl⟩
        · left; simp
        · right; exact ⟨by simp; omega, rfl⟩
      have hcal2 : sd.calls ≤ 30 := by omega
      rw [htt]
      clear htt hgo hcal ht ht30
      rcases hcond with hd | ⟨hd, rfl⟩
      all_goals
        go_wp2_with fail
        refine (Disk.copy_any dk sd _ HAT.out.d (by have := HDN.out; omega)).mono ?_
        rintro e w5 ⟨dk2, rfl, hn2, hf2, hc2, b5⟩
        have h5 := HAT.out.below b5
        have hbel5 := HBEL.out.trans (b5.mono HBEL.out.size)
        obtain ⟨a0, cap0, hv0, _⟩ := h5.r.now.shape
        obtain ⟨a1, cap1, hv1, _⟩ := h5.r.sure.shape
        obtain ⟨c0, c1, c2, c3, c4, f⟩ := h5.r.flds
        rw [hv0] at c0
        rw [hv1] at c1
        have hlt : m.p < w5.heap.size := h5.r.obj.lt
        have k0 : ∀ u, Below w5.heap.size w5 u → u.cell? ⟨m.p, 0, none⟩ = some (.slice a0 m.n cap0) := fun u hu => by rw [hu.cell (by exact hlt)]; exact c0
        have k1 : ∀ u, Below w5.heap.size w5 u → u.cell? ⟨m.p, 1, none⟩ = some (.slice a1 m.n cap1) := fun u hu => by rw [hu.cell (by exact hlt)]; exact c1
        have k2 : ∀ u, Below w5.heap.size w5 u → u.cell? ⟨m.p, 2, none⟩ = some (.int .i64 sr.calls) := fun u hu => by rw [hu.cell (by exact hlt)]; exact c2
        have k3 : ∀ u, Below w5.heap.size w5 u → u.cell? ⟨m.p, 3, none⟩ = some (.int .i64 sr.fuse) := fun u hu => by rw [hu.cell (by exact hlt)]; exact c3
        have k4 : ∀ u, Below w5.heap.size w5 u → u.cell? ⟨m.p, 4, none⟩ = some (.bool sr.off) := fun u hu => by rw [hu.cell (by exact hlt)]; exact c4
        have t0 : ∀ u, Below w5.heap.size w5 u → Ref.Tbl u m.B (.slice a0 m.n cap0) m.n sr.now := fun u hu => by rw [← hv0]; exact h5.r.now.below hu
        have t1 : ∀ u, Below w5.heap.size w5 u → Ref.Tbl u m.B (.slice a1 m.n cap1) m.n sr.sure := fun u hu => by rw [← hv1]; exact h5.r.sure.below hu
        have tb : ∀ u, Below w5.heap.size w5 u → m.B ≤ u.heap.size := fun u hu => by have := h5.r.base; have := hu.size; omega
        have T0 := Lib.hid t0
        have T1 := Lib.hid t1
        have TB := Lib.hid tb
        have H5 := Lib.hid h5
        have HC2 := Lib.hid hc2
        have HB5 := Lib.hid b5
        have HBEL5 := Lib.hid hbel5
        have hpos : 0 < m.n := by have := HMN.out; omega
        clear f c0 c1 c2 c3 c4 t0 t1 tb h5 hc2 b5 hbel5 hv0 hv1
        unfold Dk.ptr
        go_wp2_with fail
        go_region_held3 (fun u => Below w5.heap.size w5 u)
          (first | exact (Below.refl _ _).drew | (refine Below.trans ?_ (Below.mono hb1 ?_); assumption; exact Below.size (by assumption)) | (refine Below.trans ?_ (Below.mono hb2 ?_); assumption; exact Below.size (by assumption)) | exact Below.alloc (by assumption) (Below.size (by assumption)) _)
          (first
            | ((refine Ref.step_append_tbl rfl (.tmp 39) rfl m.B (.slice a0 m.n cap0) m.n sr.now rfl (T0.out _ (by first | assumption | exact (Below.refl _ _).drew)) hpos (TB.out _ (by first | assumption | exact (Below.refl _ _).drew)) ?_; intro a2 c2 u1 ht1 hn1 hb1))
            | ((refine Ref.step_append_tbl rfl (.tmp 44) rfl m.B (.slice a1 m.n cap1) m.n sr.sure rfl (T1.out _ (by first | assumption | exact (Below.refl _ _).drew)) hpos (TB.out _ (by first | assumption | exact (Below.refl _ _).drew)) ?_; intro a3 c3 u2 ht2 hn2' hb2)))
        have held := (show Below w5.heap.size w5 (u2.alloc (.cells #[.slice a2 m.n c2, .slice a3 m.n c3, .int .i64 sr.calls, .int .i64 sr.fuse, .bool sr.off] 34)) by assumption)
        have hb51 : Below w5.heap.size w5 u1 := (Below.refl _ _).drew.trans hb1
        have hb52 : Below w5.heap.size w5 u2 := hb51.trans (hb2.mono hb51.size)
        have hr := (H5.out.r.below hb52).boxed (ht1.below hb2) ht2 (fun b e1 e2 => by
          obtain ⟨_, cc, kk⟩ := Ref.tbl_block ht1 e1
          have := kk.lt
          have := hn2' b e2
          omega)
        have hsz1 := hb51.size
        have hsz2 := hb52.size
        have hsz5 := HB5.out.size
        have hszw := HBEL.out.size
        have hn1' : ∀ b, (Value.slice a2 m.n c2).ownBlock = some b → w5.heap.size ≤ b := hn1
        have htwo : Two w.heap.size wr.heap.size (u2.alloc (.cells #[.slice a2 m.n c2, .slice a3 m.n c3, .int .i64 sr.calls, .int .i64 sr.fuse, .bool sr.off] 34)) dk m dk2 ⟨m.B, u2.heap.size, .slice a2 m.n c2, .slice a3 m.n c3, m.n⟩ 30 :=
          ⟨⟨sd, sr, H5.out.below held, hcal2⟩, ⟨sd, sr, ⟨HC2.out.below held, hr, H5.out.like, ⟨by have := hf2.1; omega, by have := hf2.2.1; omega, by have := hf2.2.2; omega⟩, H5.out.rf⟩, hcal2⟩,
            fun b hb => HAT.out.lt hb, fun b hb => by
              rcases hb with hb | (hb | hb | hb)
              · exact hf2.has hb
              · have : b = u2.heap.size := hb
                omega
              · have := hn1' b hb; omega
              · have := hn2' b hb; omega, hszw⟩
        obtain ⟨m2, hm2⟩ : ∃ m2 : Rk, (⟨m.B, u2.heap.size, .slice a2 m.n c2, .slice a3 m.n c3, m.n⟩ : Rk) = m2 := ⟨_, rfl⟩
        have hm2p : u2.heap.size = m2.p := by rw [← hm2]
        have hbel6 := HBEL5.out.trans (held.mono HBEL5.out.size)
        obtain ⟨u6, hu6⟩ : ∃ u6, u2.alloc (.cells #[.slice a2 m.n c2, .slice a3 m.n c3, .int .i64 sr.calls, .int .i64 sr.fuse, .bool sr.off] 34) = u6 := ⟨_, rfl⟩
        obtain ⟨S, hS⟩ : ∃ S, wr.heap.size = S := ⟨_, rfl⟩
        rw [hm2, hu6, hS] at htwo
        rw [hu6] at hbel6
        rw [hu6, hm2p]
        have HTW0 := Lib.hid htwo
        have HBEL6 := Lib.hid hbel6
        obtain ⟨T, hT⟩ : ∃ T, wrap64 ((la : Int) + (lb : Int)) = T := ⟨_, rfl⟩
        clear held hb51 hb52 hr hsz1 hsz2 hsz5 hszw hn1' hn1 hn2' htwo hm2 hm2p hbel6 hu6 hS k0 k1 k2 k3 k4 T0 T1 TB H5 HC2 HB5 HBEL5 ht1 ht2 hb1 hb2 hf2 hn2 hlt HAT HBEL
        go_wp2_with fail
        go_loopw [12] (fun i u => ∃ t c : Nat, t ≤ 40 ∧ i = .int .i64 t ∧ Two w.heap.size S u dk m dk2 m2 c ∧ c ≤ 30 + 2 * t ∧ Below w.heap.size w u) (fun i _ => 40 - (intOf i).toNat)
        case atStart => exact ⟨0, 30, by omega, rfl, HTW0.out, by omega, HBEL6.out⟩
        case round =>
          clear HTW0 HBEL6
          obtain ⟨t, c, ht40, rfl, htw, hc30, hbel2⟩ := hrel
          have HTW := Lib.hid htw
          have HBEL2 := Lib.hid hbel2
          clear htw hbel2
          by_cases hgo : (t : Int) < T ∧ t < 40
          · obtain ⟨hgT, hg40⟩ := hgo
            have hdT : decide ((t : Int) < T) = true := by simpa using hgT
            by_cases h1 : t < la
            · have hd1 : decide ((t : Int) < (la : Int)) = true := by simpa using h1
              by_cases h2 : t < lb
              · have hd2 : decide ((t : Int) < (lb : Int)) = true := by simpa using h2
                obtain ⟨b1, off1, rfl, hof1⟩ := HCX.out (by omega)
                obtain ⟨hok1, c01, c11, c21, c31, c41⟩ := elem HBEL2.out hof1 h1
                obtain ⟨sd1, sr1, hp1, hpc1⟩ := HTW.out.p
                have hdo1 : Calls Try.prog 11 #[.pointer (some ⟨dk.p, 0, none⟩), .pointer (some ⟨m.p, 0, none⟩), .agg #[.int .i64 (ca t).d, .int .i64 (ca t).i, .int .u8 (ca t).b, .bool (ca t).sh, .slice (ca t).pa (ca t).pl (ca t).pc]] wr fun e u' => Done w.heap.size wr dk m sd1 e u' :=
                  do_any w.heap.size dk m sd1 sr1 (ca t) wr hp1 (by omega) hok1
                have HDO1 := Lib.hid hdo1
                have HP1 := Lib.hid hp1
                clear hdo1 hok1 hof1 hp1
                go_wp2_with fail
                refine HDO1.out.mono ?_
                rintro e uD1 ⟨rfl, ⟨sd'1, sr'1, hat'1, hcal'1⟩, hcg'1⟩
                have HTW1 := Lib.hid (HTW.out.first hat'1 (by omega) hcg'1)
                have HBEL1 := Lib.hid (HBEL2.out.trans (chg_below HP1.out HBEL2.out.size hcg'1))
                clear hat'1 hcg'1 c01 c11 c21 c31 c41 HP1 HDO1
                obtain ⟨b2, off2, rfl, hof2⟩ := HCY.out (by omega)
                obtain ⟨hok2, c02, c12, c22, c32, c42⟩ := elem HBEL1.out hof2 h2
                obtain ⟨sd2, sr2, hp2, hpc2⟩ := HTW1.out.q
                have hdo2 : Calls Try.prog 11 #[.pointer (some ⟨dk2.p, 0, none⟩), .pointer (some ⟨m2.p, 0, none⟩), .agg #[.int .i64 (cb t).d, .int .i64 (cb t).i, .int .u8 (cb t).b, .bool (cb t).sh, .slice (cb t).pa (cb t).pl (cb t).pc]] uD1 fun e u' => Done w.heap.size uD1 dk2 m2 sd2 e u' :=
                  do_any w.heap.size dk2 m2 sd2 sr2 (cb t) uD1 hp2 (by omega) hok2
                have HDO2 := Lib.hid hdo2
                have HP2 := Lib.hid hp2
                clear hdo2 hok2 hof2 hp2
                go_wp2_with fail
                refine HDO2.out.mono ?_
                rintro e uD2 ⟨rfl, ⟨sd'2, sr'2, hat'2, hcal'2⟩, hcg'2⟩
                have HTW2 := Lib.hid (HTW1.out.second hat'2 (by omega) hcg'2)
                have HBELZ := Lib.hid (HBEL1.out.trans (chg_below HP2.out HBEL1.out.size hcg'2))
                clear hat'2 hcg'2 c02 c12 c22 c32 c42 HP2 HDO2
                go_wp2
                refine ⟨⟨t + 1, c + 2, by omega, by go_num, HTW2.out, by omega, HBELZ.out⟩, ?_⟩
                simp [intOf]; omega
              · have hd2 : decide ((t : Int) < (lb : Int)) = false := by simp; omega
                obtain ⟨b1, off1, rfl, hof1⟩ := HCX.out (by omega)
                obtain ⟨hok1, c01, c11, c21, c31, c41⟩ := elem HBEL2.out hof1 h1
                obtain ⟨sd1, sr1, hp1, hpc1⟩ := HTW.out.p
                have hdo1 : Calls Try.prog 11 #[.pointer (some ⟨dk.p, 0, none⟩), .pointer (some ⟨m.p, 0, none⟩), .agg #[.int .i64 (ca t).d, .int .i64 (ca t).i, .int .u8 (ca t).b, .bool (ca t).sh, .slice (ca t).pa (ca t).pl (ca t).pc]] wr fun e u' => Done w.heap.size wr dk m sd1 e u' :=
                  do_any w.heap.size dk m sd1 sr1 (ca t) wr hp1 (by omega) hok1
                have HDO1 := Lib.hid hdo1
                have HP1 := Lib.hid hp1
                clear hdo1 hok1 hof1 hp1
                go_wp2_with fail
                refine HDO1.out.mono ?_
                rintro e uD1 ⟨rfl, ⟨sd'1, sr'1, hat'1, hcal'1⟩, hcg'1⟩
                have HTW1 := Lib.hid (HTW.out.first hat'1 (by omega) hcg'1)
                have HBEL1 := Lib.hid (HBEL2.out.trans (chg_below HP1.out HBEL2.out.size hcg'1))
                clear hat'1 hcg'1 c01 c11 c21 c31 c41 HP1 HDO1
                go_wp2
                refine ⟨⟨t + 1, c + 1, by omega, by go_num, HTW1.out, by omega, HBEL1.out⟩, ?_⟩
                simp [intOf]; omega
            · have hd1 : decide ((t : Int) < (la : Int)) = false := by simp; omega
              by_cases h2 : t < lb
              · have hd2 : decide ((t : Int) < (lb : Int)) = true := by simpa using h2
                obtain ⟨b2, off2, rfl, hof2⟩ := HCY.out (by omega)
                obtain ⟨hok2, c02, c12, c22, c32, c42⟩ := elem HBEL2.out hof2 h2
                obtain ⟨sd2, sr2, hp2, hpc2⟩ := HTW.out.q
                have hdo2 : Calls Try.prog 11 #[.pointer (some ⟨dk2.p, 0, none⟩), .pointer (some ⟨m2.p, 0, none⟩), .agg #[.int .i64 (cb t).d, .int .i64 (cb t).i, .int .u8 (cb t).b, .bool (cb t).sh, .slice (cb t).pa (cb t).pl (cb t).pc]] wr fun e u' => Done w.heap.size wr dk2 m2 sd2 e u' :=
                  do_any w.heap.size dk2 m2 sd2 sr2 (cb t) wr hp2 (by omega) hok2
                have HDO2 := Lib.hid hdo2
                have HP2 := Lib.hid hp2
                clear hdo2 hok2 hof2 hp2
                go_wp2_with fail
                refine HDO2.out.mono ?_
                rintro e uD2 ⟨rfl, ⟨sd'2, sr'2, hat'2, hcal'2⟩, hcg'2⟩
                have HTW2 := Lib.hid (HTW.out.second hat'2 (by omega) hcg'2)
                have HBELZ := Lib.hid (HBEL2.out.trans (chg_below HP2.out HBEL2.out.size hcg'2))
                clear hat'2 hcg'2 c02 c12 c22 c32 c42 HP2 HDO2
                go_wp2
                refine ⟨⟨t + 1, c + 1, by omega, by go_num, HTW2.out, by omega, HBELZ.out⟩, ?_⟩
                simp [intOf]; omega
              · have hd2 : decide ((t : Int) < (lb : Int)) = false := by simp; omega
                have hT2 : T = (la : Int) + (lb : Int) := by rw [← hT]; exact IntWalk.wrap64_in _ (by omega)
                rw [hT2] at hdT
                go_wp2
                refine ⟨⟨t + 1, c, by omega, by go_num, HTW.out, by omega, HBEL2.out⟩, ?_⟩
                simp [intOf]; omega
          · obtain ⟨t2, ht2, hcond2⟩ : ∃ t2 : Int, (t : Int) = t2 ∧ (decide (t2 < T) = false ∨ decide (t2 < T) = true ∧ t2 = 40) := by
              refine ⟨_, rfl, ?_⟩
              by_cases hgT : (t : Int) < T
              · right; exact ⟨by simpa using hgT, by omega⟩
              · left; simpa using hgT
            rw [ht2]
            clear ht2 hgo ht40 hc30
            obtain ⟨sd1, sr1, hp1, hpc1⟩ := HTW.out.p
            obtain ⟨sd2, sr2, hp2, hpc2⟩ := HTW.out.q
            have hl1 := like_any w.heap.size dk m sd1 sr1 wr hp1
            have hl2 := fun u (hu : Below wr.heap.size wr u) => like_any w.heap.size dk2 m2 sd2 sr2 u (hp2.below hu)
            unfold Dk.ptr Rk.ptr at hl1 hl2
            have HL1 := Lib.hid hl1
            have HL2 := Lib.hid hl2
            clear hl1 hl2 hp1 hp2 hpc1 hpc2
            rcases hcond2 with hd2 | ⟨hd2, rfl⟩
            all_goals
              go_wp2_with fail
              refine HL1.out.mono ?_
              rintro e u7 ⟨rfl, b7⟩
              go_wp2_with fail
              refine (HL2.out _ b7).mono ?_
              rintro e u8 ⟨rfl, b8⟩
              go_wp2_with fail
              refine (Disk.awake_any _).mono ?_
              rintro e u9 ⟨rfl, b9⟩
              go_wp2
              go_ret
              have b89 := b8.trans (b9.mono b8.size)
              have b79 := b7.trans (b89.mono b7.size)
              exact ⟨rfl, HBEL2.out.trans (b79.mono HBEL2.out.size)⟩
end Pair
end Go.Proofs.Ythjilmeaaghpaaa

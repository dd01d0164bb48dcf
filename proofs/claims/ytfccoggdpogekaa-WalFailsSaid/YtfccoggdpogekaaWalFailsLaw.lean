/-
WalFails' walk.
-/
import Derived.Test.YtfccoggdpogekaaWalCrashKit
namespace Go.Proofs.Ytfccoggdpogekaa
open Go.RowKit
set_option linter.unusedVariables false
namespace Wal
open Disk (Dk St Sec Secs fresh)

/-- A disk whose next crash leaves a log, of at most 21 records. -/
def Dead (N : Nat) (s : St) : Prop := (∃ rs r, rs.length ≤ 20 ∧ Cut N s 0 30 rs r) ∨ ∃ rs, rs.length ≤ 21 ∧ Rdy N s 0 30 rs
theorem rdy_crash {N s a b rs} (h : Rdy N s a b rs) (p : List Int) : Rdy N (s.crashed p) a b rs ∧ (s.crashed p).fuse = 0 ∧ (s.crashed p).calls = s.calls := live_crash h.live p
theorem dead_crash {N s} (h : Dead N s) (p : List Int) : ∃ rs, rs.length ≤ 21 ∧ Rdy N (s.crashed p) 0 30 rs ∧ (s.crashed p).fuse = 0 ∧ (s.crashed p).calls = s.calls := by
  rcases h with ⟨rs, r, hl, hc⟩ | ⟨rs, hl, hr⟩
  · obtain ⟨hx, h1, h2⟩ := cut_crash hc p
    rcases hx with hx | hx
    · exact ⟨rs, by omega, hx, h1, h2⟩
    · exact ⟨rs ++ [r], by simp; omega, hx, h1, h2⟩
  · obtain ⟨hx, h1, h2⟩ := rdy_crash hr p
    exact ⟨rs, hl, hx, h1, h2⟩
/-- Behind an Append that the disk has refused. -/
def FallS (w u : World) (d : Dk) (p : Nat) (l : LSt) : Prop := ∃ s, Disk.At u d s ∧ LAt u p d.p l ∧ l.failed = true ∧ l.count < 512 ∧ Below w.heap.size w u ∧ Dead d.n s ∧ s.calls ≤ 10000 ∧ w.heap.size ≤ p
theorem FallS.below {w u u' d p l} (h : FallS w u d p l) (hb : Below u.heap.size u u') : FallS w u' d p l := by
  obtain ⟨s, h1, h2, h3, h4, h5, h6, h7, h8⟩ := h
  exact ⟨s, h1.below hb, h2.below hb, h3, h4, h5.trans (hb.mono h5.size), h6, h7, h8⟩
/-- Between two Appends. -/
def FailR (w u : World) (d : Dk) (p : Nat) (vr : Value) (rows : List (List Int)) (k : Nat) (fb : Bool) : Prop :=
  Recs u w.heap.size vr rows ∧ ((fb = false ∧ ∃ s l rs, Run w u d p s l 0 30 rs ∧ rs.length ≤ k ∧ s.calls ≤ 10 + 200 * k) ∨ (fb = true ∧ ∃ l, FallS w u d p l))
theorem row_list (w : World) (zs : List Int) (hz : Byte zs) (hl : zs.length ≤ 100) (fr : Nat × Nat) : Row (w.alloc (.cells (bcells zs).toArray 5 fr)) (some ⟨w.heap.size, 0, none⟩) zs.length zs := by
  refine ⟨rfl, by omega, hz, fun _ => ⟨_, _, rfl, by simp, fun j hj => ?_⟩⟩
  have := cell_of_row (w.alloc (.cells (bcells zs).toArray 5 fr)) w.heap.size (0 + j) (bcells zs).toArray 5 fr (heap_alloc_new w _)
  rw [this]
  have := bcells_at zs j hj
  rw [Nat.zero_add]; simpa using this
theorem append_fresh {w u d p s l a b rs} (h : Run w u d p s l a b rs) (h0 : s.fuse = 0) (ad : Option Addr) (len cap : Nat) (r : List Int) (hr : Row u ad len r) (hn : ad = none → cap = 0) (hcap : len ≤ cap)
    (ha : 0 < len → ∀ x off, ad = some ⟨x, off, none⟩ → ¬ (x = p ∨ d.Has x)) (h8 : len ≤ 8192) (hc : rs.length < 512) (hf : a + 1 + used rs + needN len ≤ b) (hcal : s.calls < 4611686018427000000) :
    Calls Try.prog 29 #[.pointer (some ⟨p, 0, none⟩), .slice ad len cap] u fun e u' => e = .returned (.int .i64 0) ∧ ∃ s' l', Grew w d p s l a b rs r u' s' l' := by
  have hcnt := hr.count
  refine (append_ok p d s l a b rs ad len cap r u h.log h.disk h.live hr hn hcap ha h8 hc hf hcal).mono fun e u' ha' => ?_
  have hb' : Below w.heap.size w u' := h.bel.trans (ha'.chg.below (fun k hk => h.has hk) h.bel.size)
  obtain ⟨e1, e2, e3, e4, e5⟩ := append_calm h.live h0 r (by omega) hr.byt (by rw [hcnt]; exact hf) hc
  exact ⟨by rw [ha'.told, e1], _, _, ⟨ha'.disk, ha'.log, e2, h.dnew, h.pnew, hb'⟩, fun _ => e4, e3, e5⟩
def again : List Int := [97, 103, 97, 105, 110]
theorem again_byte : Byte again := by intro z hz; simp [again] at hz; omega
theorem again_str : (strOfNums again).toList = [97, 103, 97, 105, 110] := by rw [ByteArray.toList_eq]; simp [strOfNums, again]

set_option maxRecDepth 100000 in
set_option maxHeartbeats 16000000 in
theorem walFails_walk (v0 : Value) (ls : List (List Int)) (v1 : Value) (ms : List (List Int)) (fz : Int) (w : World) (h0 : Arg w.heap.size w v0 ls) (h1 : Arg w.heap.size w v1 ms) :
    Calls Try.prog 10 #[v0, v1, .int .i64 fz] w fun e w' => e = .returned (.bool true) ∧ Below w.heap.size w w' := by
  obtain ⟨hms, a1, cap1, rfl, hmc⟩ := h1
  obtain ⟨nm, hnm⟩ : ∃ n, ms.length = n := ⟨_, rfl⟩
  rw [hnm] at hms hmc
  rw [hnm]
  obtain ⟨F, hF, hF20⟩ := modN fz 20 (by omega) (by omega)
  rw [show ((20 : Nat) : Int) = 20 from rfl] at hF
  have H0 := Lib.hid h0
  have HM := Lib.hid hmc
  have HFF := Lib.hid hF
  clear h0 hmc hnm hF
  go_enter Try.func10, Try.ntmps10
  go_wp2_with fail
  refine (Disk.new_any 40 _).mono ?_
  rintro e w1 ⟨d, rfl, hdn, hf, hd1, b1⟩
  rw [show Disk.sizeOf 40 = 40 from rfl] at hd1 hdn
  have hfm := format_ok d (fresh 40) 0 30 w1 hd1 rfl rfl (by omega) (by omega) (by show 0 < _; decide)
  have HFM := Lib.hid hfm
  have HDN := Lib.hid hdn
  clear hfm hd1 hdn
  unfold Dk.ptr at *
  go_wp2_with fail
  refine HFM.out.mono ?_
  rintro e w2 ⟨rfl, t, hd2, hr2, hcal, hfu, hnow, c2⟩
  have b2 : Below w.heap.size w w2 := b1.trans (c2.below (fun k hk => hf.has hk) b1.size)
  have hop := open_good d t 0 30 [] w2 hd2 hr2
  unfold Dk.ptr at hop
  have HD2 := Lib.hid hd2
  have HR2 := Lib.hid hr2
  have HC := Lib.hid (show t.calls = 2 from hcal)
  have HOP := Lib.hid hop
  have B2 := Lib.hid b2
  clear hd2 hr2 hcal hfu hnow c2 hop HFM b1 b2
  go_wp2_with fail
  refine HOP.out.mono ?_
  rintro e w3 ⟨p, v, rfl, ho⟩
  have hrun := (run_open HD2.out hf B2.out HR2.out ho).1
  have hfu := Disk.fuse_any d t ((F : Int) + 1) w3 hrun.disk (by omega)
  unfold Dk.ptr at hfu
  have HRUN := Lib.hid hrun
  have HFU := Lib.hid hfu
  clear hfu hrun ho HOP HD2 HR2 B2
  have hF := HFF.out
  go_wp2_with fail
  try rw [hF]
  clear hF
  refine HFU.out.mono ?_
  rintro e w4 ⟨rfl, hd4, c4⟩
  have c4' : Blk.Chg d.Has w3 w4 := c4.mono fun k _ hk => .inl hk
  have hrun4 : Run w w4 d p { t with fuse := max ((F : Int) + 1) 0 } _ 0 30 [] :=
    ⟨hd4, HRUN.out.log.chg c4' (HRUN.out.log.ne HRUN.out.disk), ⟨HRUN.out.live.secs, HRUN.out.live.off, HRUN.out.live.sure, HRUN.out.live.holds, HRUN.out.live.log⟩, HRUN.out.dnew, HRUN.out.pnew, HRUN.out.bel.trans (c4'.below (fun k hk => hf.has hk) HRUN.out.bel.size)⟩
  have HR4 := Lib.hid hrun4
  clear hrun4 hd4 c4 c4' HRUN HFU HFF
  go_wp2_with fail
  refine (small_any w.heap.size v0 ls _ (H0.out.below HR4.out.bel) HR4.out.bel.size).mono ?_
  rintro e w5 ⟨vr, rfl, hrec, b5⟩
  obtain ⟨hl20, hr300⟩ := small_ok ls
  obtain ⟨rows, hrows⟩ : ∃ rows, smallL ls = rows := ⟨_, rfl⟩
  rw [hrows] at hrec hl20 hr300
  have hst : FailR w w5 d p vr rows 0 false := ⟨hrec, .inl ⟨rfl, _, _, [], HR4.out.below b5, by simp, by show t.calls ≤ _; rw [HC.out]; omega⟩⟩
  obtain ⟨ra, rc, rfl, _⟩ := hrec.shape
  have HST := Lib.hid hst
  have H300 := Lib.hid hr300
  clear hst hrec hrows hr300 b5 HR4 H0 HC
  go_wp2_with fail
  go_loopw [11, 50] (fun fb i u => ∃ k : Nat, ∃ b : Bool, k ≤ rows.length ∧ i = .int .i64 k ∧ fb = .bool b ∧ FailR w u d p (.slice ra rows.length rc) rows k b) (fun _ i _ => rows.length - (intOf i).toNat)
  case atStart => exact ⟨0, false, by omega, rfl, rfl, HST.out⟩
  case round =>
    clear HST
    obtain ⟨k, fb, hk, rfl, rfl, hrec, hcase⟩ := hrel
    rcases hcase with ⟨rfl, s, l, rs, hrun, hcnt, hcal⟩ | ⟨rfl, l, hfall⟩
    · by_cases hlt : k < rows.length
      · have hlt' : (k : Int) < (rows.length : Int) := by omega
        have hk0 : (0 : Int) ≤ k := by omega
        obtain ⟨rg, rcap, ai, ci, heq, hcell, hrow, hle, hnil, hblk, hel⟩ := hrec.at k hlt
        simp only [Value.slice.injEq] at heq
        obtain ⟨rfl, _, rfl⟩ := heq
        have hlr := H300.out (rows.getD k []) (by simp [hlt])
        obtain ⟨r, hr⟩ : ∃ r, rows.getD k [] = r := ⟨_, rfl⟩
        rw [hr] at hcell hrow hle hblk hlr hel
        obtain ⟨m, hm⟩ : ∃ m, r.length = m := ⟨_, rfl⟩
        rw [hm] at hcell hrow hle hblk hlr hel
        by_cases h10 : k < 10
        · have h10' : ¬ ((10 : Int) ≤ k) := by omega
          have HREC := Lib.hid hrec
          have HM' := Lib.hid hm
          by_cases hfit : 0 + 1 + used rs + needN m ≤ 30
          · have hap := run_append hrun ai m ci r hrow hnil hle hblk (by omega) (by omega) hfit (by omega)
            have hcalm := hrun.calm
            have HAP := Lib.hid hap
            have HCALM := Lib.hid hcalm
            have HRUN := Lib.hid hrun
            clear hap hcalm hrow hle hnil hblk hel hm hr hrec hrun hfit
            go_wp2_with fail
            refine HAP.out.mono ?_
            rintro e w7 ⟨hch, hcase⟩
            have hrec7 := HREC.out.chg hch HCALM.out
            rcases hcase with ⟨s', l', rfl, hg⟩ | ⟨s', rfl, hfell⟩
            · have hnl := needN_le r.length
              have hnext : FailR w w7 d p (.slice (some ⟨rg, 0, none⟩) rows.length rc) rows (k + 1) false :=
                ⟨hrec7, .inl ⟨rfl, s', l', _, hg.run, by rw [List.length_append, List.length_singleton]; omega, by rw [hg.calls]; omega⟩⟩
              have HNX := Lib.hid hnext
              clear hnext hrec7 hch hg HAP HCALM HREC hcell HRUN
              go_wp2
              refine ⟨⟨k + 1, false, by omega, by go_num, rfl, HNX.out⟩, ?_⟩
              simp [intOf]; omega
            · have hl : l.count < 512 := by rw [HRUN.out.count]; omega
              have hnext : FailR w w7 d p (.slice (some ⟨rg, 0, none⟩) rows.length rc) rows (k + 1) true :=
                ⟨hrec7, .inr ⟨rfl, { l with failed := true }, s', hfell.disk, hfell.log, rfl, hl, hfell.bel, .inl ⟨rs, r, by omega, hfell.cut⟩, by have := hfell.calls; omega, HRUN.out.pnew⟩⟩
              have HNX := Lib.hid hnext
              clear hnext hrec7 hch hfell HAP HCALM HREC hcell HRUN
              go_wp2
              refine ⟨⟨k + 1, true, by omega, by go_num, rfl, HNX.out⟩, ?_⟩
              simp [intOf]; omega
          · have hap := run_room hrun ai m ci (by omega) (.inr (by omega))
            have HAP := Lib.hid hap
            have HRUN := Lib.hid hrun
            clear hap hrow hle hnil hblk hel hm hr hrec hrun hfit
            go_wp2_with fail
            refine HAP.out.mono ?_
            rintro e w7 ⟨rfl, b7⟩
            have hnext : FailR w w7 d p (.slice (some ⟨rg, 0, none⟩) rows.length rc) rows (k + 1) false :=
              ⟨HREC.out.below b7, .inl ⟨rfl, s, l, rs, HRUN.out.below b7, by omega, by omega⟩⟩
            have HNX := Lib.hid hnext
            clear hnext b7 HAP HREC hcell HRUN
            go_wp2
            refine ⟨⟨k + 1, false, by omega, by go_num, rfl, HNX.out⟩, ?_⟩
            simp [intOf]; omega
        · have h10' : (10 : Int) ≤ k := by omega
          have HB := Lib.hid hrun.bel
          clear hrow hle hnil hblk hel hm hr hrec hrun
          go_wp2_with fail
          refine (awake_any _).mono ?_
          rintro e wA ⟨rfl, bA⟩
          go_wp2
          go_ret
          exact ⟨rfl, HB.out.trans (bA.mono HB.out.size)⟩
      · have hlt' : ¬ ((k : Int) < (rows.length : Int)) := by omega
        have HB := Lib.hid hrun.bel
        clear hrec hrun
        go_wp2_with fail
        refine (awake_any _).mono ?_
        rintro e wA ⟨rfl, bA⟩
        go_wp2
        go_ret
        exact ⟨rfl, HB.out.trans (bA.mono HB.out.size)⟩
    · have HFS := Lib.hid hfall
      clear hfall
      by_cases hlt : k < rows.length
      · have hlt' : (k : Int) < (rows.length : Int) := by omega
        have hk0 : (0 : Int) ≤ k := by omega
        obtain ⟨rg, rcap, ai, ci, heq, hcell, _, _, _, _, _⟩ := hrec.at k hlt
        simp only [Value.slice.injEq] at heq
        obtain ⟨rfl, _, rfl⟩ := heq
        clear hrec
        by_cases h10 : (10 : Int) ≤ k
        · try skip
          go_wp2_with fail
          go_loopw [81] (fun i u => ∃ k : Nat, k ≤ nm ∧ k ≤ 6 ∧ i = .int .i64 k ∧ FallS w u d p l) (fun i _ => 6 - (intOf i).toNat)
          case atStart => exact ⟨0, by omega, by omega, rfl, HFS.out⟩
          case round =>
            clear HFS
            obtain ⟨k, hk, hk6, rfl, hfs⟩ := hrel
            have HF2 := Lib.hid hfs
            clear hfs
            by_cases hlt2 : k < nm
            · have hlt2' : (k : Int) < (nm : Int) := by omega
              have hk0 : (0 : Int) ≤ k := by omega
              obtain ⟨mb, mo, rfl, hmb, hmat⟩ := HM.out (by omega)
              obtain ⟨ai, ci, g1, g2, g3, g4, g5⟩ := hmat k hlt2
              have hms2 := g2.short
              obtain ⟨m, hm⟩ : ∃ m, (ms.getD k []).length = m := ⟨_, rfl⟩
              rw [hm] at g1 hms2
              have cM : ∀ u, Below w.heap.size w u → u.cell? ⟨mb, mo + k, none⟩ = some (.slice ai m ci) := fun u hu => by rw [hu.cell (by exact hmb)]; exact g1
              have cM1 := cM _ (show Below w.heap.size w wr by obtain ⟨s, _, _, _, _, h5, _⟩ := HF2.out; exact h5)
              clear g1 g2 g3 g4 g5 hmat hm cM
              by_cases hk1 : k = 1
              · subst hk1
                obtain ⟨s, hd, hl, hfl, hct, hbel, hdead, hcal, hp⟩ := HF2.out
                have hcr := Disk.crash_any d s none 0 0 [] _ hd (Row.nil _) (Nat.le_refl _) (by intro h; omega) (by intro _; rfl)
                obtain ⟨rs, hrs, hrdy, hfu, hca⟩ := dead_crash hdead []
                have hkeep : ∀ u, Disk.At u d (s.crashed []) → Blk.Chg d.Has wr u → FallS w u d p l := fun u hdu hc =>
                  ⟨s.crashed [], hdu, hl.chg hc (hl.ne hd), hfl, hct, hbel.trans (hc.below (fun k hk => hf.has hk) hbel.size), .inr ⟨rs, hrs, hrdy⟩, by rw [hca]; exact hcal, hp⟩
                unfold Dk.ptr at hcr
                have HCR := Lib.hid hcr
                have HK := Lib.hid hkeep
                clear hcr hkeep hd hl hfl hct hbel hdead hcal hp hrs hrdy hfu hca HF2
                go_wp2_with fail
                refine HCR.out.mono ?_
                rintro e wc ⟨rfl, hdc, hcc⟩
                have HF2 := Lib.hid (HK.out _ hdc hcc)
                clear hdc hcc HCR HK cM1
                by_cases h8 : 8192 < m
                · have h8' : (8192 : Int) < m := by omega
                  obtain ⟨s, hd, hl, hfl, hct, hbel, hdead, hcal, hp⟩ := HF2.out
                  have hap := append_long p d.p l ai m ci _ hl h8 (by omega)
                  have HAP := Lib.hid hap
                  clear hap hd hl hfl hct hbel hdead hcal hp s
                  go_wp2_with fail
                  refine HAP.out.mono ?_
                  rintro e w' ⟨rfl, rfl⟩
                  clear HAP
                  go_wp2
                  refine ⟨⟨2, by omega, by omega, by go_num, HF2.out⟩, ?_⟩
                  simp [intOf]
                · have h8' : ¬ ((8192 : Int) < m) := by omega
                  have hrn := fun w => refNeed_any (m : Int) w (by omega)
                  simp only [need_nat] at hrn
                  obtain ⟨s, hd, hl, hfl, hct, hbel, hdead, hcal, hp⟩ := HF2.out
                  have hfr := free_any p d.p l _ hl
                  have hlo := hl.ok.o1
                  obtain ⟨fr, hfre⟩ : ∃ n, l.to - l.next = n := ⟨_, rfl⟩
                  obtain ⟨N, hN⟩ : ∃ N, needN m = N := ⟨_, rfl⟩
                  rw [hfre] at hfr
                  rw [hN] at hrn
                  have HRN := Lib.hid hrn
                  have HFR := Lib.hid hfr
                  clear hrn hfr
                  by_cases hro : fr < N
                  · have hro' : (fr : Int) < (N : Int) := by omega
                    have hap := fun u hu => append_room p d.p l ai m ci u (hl.below hu) (by omega) (.inr (by omega))
                    have HAP := Lib.hid hap
                    clear hap hd hl hfl hct hbel hdead hcal hp hfre hN hlo s
                    go_wp2_with fail
                    refine (HRN.out _).mono ?_
                    rintro e w' ⟨rfl, rfl⟩
                    go_wp2_with fail
                    refine HFR.out.mono ?_
                    rintro e wF hT
                    obtain ⟨rfl, bF⟩ := hT.below
                    have HF3 := Lib.hid (HF2.out.below bF)
                    have HAP2 := Lib.hid (HAP.out _ bF)
                    clear hT bF HAP HFR HRN HF2
                    go_wp2_with fail
                    refine HAP2.out.mono ?_
                    rintro e wG ⟨rfl, bG⟩
                    have HF4 := Lib.hid (HF3.out.below bG)
                    clear bG HAP2 HF3
                    go_wp2
                    refine ⟨⟨2, by omega, by omega, by go_num, HF4.out⟩, ?_⟩
                    simp [intOf]
                  · have hro' : ¬ ((fr : Int) < (N : Int)) := by omega
                    have hap := fun u hu => append_state p d.p l ai m ci u (hl.below hu) (by omega) hct (by omega) hfl
                    have HAP := Lib.hid hap
                    clear hap hd hl hfl hct hbel hdead hcal hp hfre hN hlo s
                    go_wp2_with fail
                    refine (HRN.out _).mono ?_
                    rintro e w' ⟨rfl, rfl⟩
                    go_wp2_with fail
                    refine HFR.out.mono ?_
                    rintro e wF hT
                    obtain ⟨rfl, bF⟩ := hT.below
                    have HF3 := Lib.hid (HF2.out.below bF)
                    have HAP2 := Lib.hid (HAP.out _ bF)
                    clear hT bF HAP HFR HRN HF2
                    go_wp2_with fail
                    refine HAP2.out.mono ?_
                    rintro e wG ⟨rfl, bG⟩
                    have HF4 := Lib.hid (HF3.out.below bG)
                    clear bG HAP2 HF3
                    go_wp2
                    refine ⟨⟨2, by omega, by omega, by go_num, HF4.out⟩, ?_⟩
                    simp [intOf]
              · by_cases hk66 : k = 6
                · have hk6' : (6 : Int) ≤ k := by omega
                  have hk1' : ¬ ((k : Int) = 1) := by omega
                  have hk1'' : ((k : Int) == 1) = false := by simp; omega
                  clear hk66
                  obtain ⟨s, hd, hl, hfl, hct, hbel, hdead, hcal, hp⟩ := HF2.out
                  have hcr := Disk.crash_any d s none 0 0 [] _ hd (Row.nil _) (Nat.le_refl _) (by intro h; omega) (by intro _; rfl)
                  obtain ⟨rs, hrs, hrdy, hfu, hca⟩ := dead_crash hdead []
                  obtain ⟨t2, ht2⟩ : ∃ t, s.crashed [] = t := ⟨_, rfl⟩
                  rw [ht2] at hcr hrdy hfu hca
                  unfold Dk.ptr at hcr
                  have HCR := Lib.hid hcr
                  have HB := Lib.hid hbel
                  have HR := Lib.hid hrdy
                  have HFU := Lib.hid hfu
                  have HCA := Lib.hid (show t2.calls ≤ 10000 by omega)
                  clear hcr hd hl hfl hct hbel hdead hcal hp ht2 hrdy hfu hca HF2
                  go_wp2_with fail
                  refine HCR.out.mono ?_
                  rintro e w8 ⟨rfl, hd8, c8⟩
                  have b8 := HB.out.trans (c8.below (fun k hk => hf.has hk) HB.out.size)
                  have hop := open_good d t2 0 30 rs w8 hd8 HR.out
                  unfold Dk.ptr at hop
                  have HOP := Lib.hid hop
                  have HD8 := Lib.hid hd8
                  have B8 := Lib.hid b8
                  clear hop hd8 b8 c8 HCR HB
                  go_wp2_with fail
                  refine HOP.out.mono ?_
                  rintro e w9 ⟨p9, v9, rfl, ho9⟩
                  obtain ⟨hrun9, hrec9⟩ := run_open HD8.out hf B8.out HR.out ho9
                  obtain ⟨a9, c9, rfl, _⟩ := hrec9.shape
                  have hfr := free_any p9 d.p _ w9 hrun9.log
                  rw [hrun9.free] at hfr
                  obtain ⟨nrs, hnrs⟩ : ∃ n, rs.length = n := ⟨_, rfl⟩
                  rw [hnrs] at hrs
                  rw [hnrs]
                  obtain ⟨fr, hfre⟩ : ∃ n, 30 - (0 + 1 + used rs) = n := ⟨_, rfl⟩
                  rw [hfre] at hfr
                  have HFR := Lib.hid hfr
                  have HRUN := Lib.hid hrun9
                  have HNRS := Lib.hid hnrs
                  clear hfr hrun9 hrec9 ho9 HOP HD8 B8 hnrs
                  go_wp2_with fail
                  refine HFR.out.mono ?_
                  rintro e wB hT
                  obtain ⟨rfl, bB⟩ := hT.below
                  have HRB := Lib.hid (HRUN.out.below bB)
                  clear hT bB HFR HRUN
                  by_cases hfr1 : fr < 1
                  · have hfr1' : (fr : Int) < 1 := by omega
                    have HB := Lib.hid HRB.out.bel
                    clear HRB hfre
                    go_wp2_with fail
                    refine (awake_any _).mono ?_
                    rintro e wA ⟨rfl, bA⟩
                    go_wp2
                    go_ret
                    exact ⟨rfl, HB.out.trans (bA.mono HB.out.size)⟩
                  · have hfr1' : ¬ ((fr : Int) < 1) := by omega
                    have hcv := Lib.run_convert_bytes_const (P := Try.prog) wB 25 5 #[.int .u8 97, .int .u8 103, .int .u8 97, .int .u8 105, .int .u8 110] 5 5 Try.underlying25 Try.underlying5
                    have hra := row_list wB again again_byte (by decide) (#[Value.int .u8 97, .int .u8 103, .int .u8 97, .int .u8 105, .int .u8 110].size, #[Value.int .u8 97, .int .u8 103, .int .u8 97, .int .u8 105, .int .u8 110].size + 1)
                    have bA : Below wB.heap.size wB (wB.alloc (.cells (bcells again).toArray 5 (#[Value.int .u8 97, .int .u8 103, .int .u8 97, .int .u8 105, .int .u8 110].size, #[Value.int .u8 97, .int .u8 103, .int .u8 97, .int .u8 105, .int .u8 110].size + 1))) := (Below.refl _ _).alloc (Nat.le_refl _) _
                    have hn5 : needN 5 = 1 := rfl
                    have hapg := append_fresh (HRB.out.below bA) HFU.out (some ⟨wB.heap.size, 0, none⟩) 5 5 again hra (by intro h; cases h) (Nat.le_refl _) (fun _ x off e hk => by
                      cases e
                      rcases hk with hk | hk
                      · have := HRB.out.log.obj.lt; omega
                      · have := At_lt HRB.out.disk hk; omega) (by omega) (by rw [HNRS.out]; omega) (by rw [hn5]; omega) (by have := HCA.out; omega)
                    change Calls _ _ _ (wB.alloc (.cells #[.int .u8 97, .int .u8 103, .int .u8 97, .int .u8 105, .int .u8 110] 5 _)) _ at hapg
                    have HAP := Lib.hid hapg
                    clear hapg hra bA hfre hn5
                    go_wp2_with fail
                    refine HAP.out.mono ?_
                    rintro e wC ⟨rfl, s', l', hg⟩
                    have hop := open_good d s' 0 30 (rs ++ [again]) wC hg.run.disk hg.run.rdy
                    unfold Dk.ptr at hop
                    have HOP := Lib.hid hop
                    have HBC := Lib.hid hg.run.bel
                    clear hop hg HAP HRB HFU HCA HR hcv
                    go_wp2_with fail
                    refine HOP.out.mono ?_
                    rintro e wD ⟨pD, vD, rfl, hoD⟩
                    have hln : (rs ++ [again]).length = nrs + 1 := by rw [List.length_append, HNRS.out]; rfl
                    have hgd : (rs ++ [again]).getD nrs [] = again := by rw [← HNRS.out]; simp
                    obtain ⟨gg, gcap, gai, gci, rfl, gcell, grow, _⟩ := hoD.recs.at nrs (by rw [hln]; omega)
                    rw [hgd] at gcell grow
                    rw [hln]
                    have hconv := grow.conv gci
                    have hstr := again_str
                    have hcast : (((nrs + 1 : Nat)) : Int) = (nrs : Int) + 1 := by omega
                    have hi0 : (0 : Int) ≤ nrs := by omega
                    have hi1 : (nrs : Int) < (nrs : Int) + 1 := by omega
                    have hcmp : ({ data := #[97, 103, 97, 105, 110] } : ByteArray).toList = [97, 103, 97, 105, 110] := by rw [ByteArray.toList_eq]
                    rw [show again.length = 5 from rfl] at gcell hconv
                    generalize strOfNums again = st at *
                    have BD := Lib.hid (HBC.out.trans (hoD.below.mono HBC.out.size))
                    clear grow hoD HOP HBC hln hgd HNRS
                    try rw [hcast]
                    go_wp2_with fail
                    refine (awake_any _).mono ?_
                    rintro e wA ⟨rfl, bA⟩
                    go_wp2
                    go_ret
                    exact ⟨rfl, BD.out.trans (bA.mono BD.out.size)⟩
                · have hk6' : (k : Int) < 6 := by omega
                  have hk1' : ¬ ((k : Int) = 1) := by omega
                  have hk1'' : ((k : Int) == 1) = false := by simp; omega
                  by_cases h8 : 8192 < m
                  · have h8' : (8192 : Int) < m := by omega
                    obtain ⟨s, hd, hl, hfl, hct, hbel, hdead, hcal, hp⟩ := HF2.out
                    have hap := append_long p d.p l ai m ci _ hl h8 (by omega)
                    have HAP := Lib.hid hap
                    clear hap hd hl hfl hct hbel hdead hcal hp s
                    go_wp2_with fail
                    refine HAP.out.mono ?_
                    rintro e w' ⟨rfl, rfl⟩
                    clear HAP
                    go_wp2
                    refine ⟨⟨k + 1, by omega, by omega, by go_num, HF2.out⟩, ?_⟩
                    simp [intOf]; omega
                  · have h8' : ¬ ((8192 : Int) < m) := by omega
                    have hrn := fun w => refNeed_any (m : Int) w (by omega)
                    simp only [need_nat] at hrn
                    obtain ⟨s, hd, hl, hfl, hct, hbel, hdead, hcal, hp⟩ := HF2.out
                    have hfr := free_any p d.p l _ hl
                    have hlo := hl.ok.o1
                    obtain ⟨fr, hfre⟩ : ∃ n, l.to - l.next = n := ⟨_, rfl⟩
                    obtain ⟨N, hN⟩ : ∃ N, needN m = N := ⟨_, rfl⟩
                    rw [hfre] at hfr
                    rw [hN] at hrn
                    have HRN := Lib.hid hrn
                    have HFR := Lib.hid hfr
                    clear hrn hfr
                    by_cases hro : fr < N
                    · have hro' : (fr : Int) < (N : Int) := by omega
                      have hap := fun u hu => append_room p d.p l ai m ci u (hl.below hu) (by omega) (.inr (by omega))
                      have HAP := Lib.hid hap
                      clear hap hd hl hfl hct hbel hdead hcal hp hfre hN hlo s
                      go_wp2_with fail
                      refine (HRN.out _).mono ?_
                      rintro e w' ⟨rfl, rfl⟩
                      go_wp2_with fail
                      refine HFR.out.mono ?_
                      rintro e wF hT
                      obtain ⟨rfl, bF⟩ := hT.below
                      have HF3 := Lib.hid (HF2.out.below bF)
                      have HAP2 := Lib.hid (HAP.out _ bF)
                      clear hT bF HAP HFR HRN HF2
                      go_wp2_with fail
                      refine HAP2.out.mono ?_
                      rintro e wG ⟨rfl, bG⟩
                      have HF4 := Lib.hid (HF3.out.below bG)
                      clear bG HAP2 HF3
                      go_wp2
                      refine ⟨⟨k + 1, by omega, by omega, by go_num, HF4.out⟩, ?_⟩
                      simp [intOf]; omega
                    · have hro' : ¬ ((fr : Int) < (N : Int)) := by omega
                      have hap := fun u hu => append_state p d.p l ai m ci u (hl.below hu) (by omega) hct (by omega) hfl
                      have HAP := Lib.hid hap
                      clear hap hd hl hfl hct hbel hdead hcal hp hfre hN hlo s
                      go_wp2_with fail
                      refine (HRN.out _).mono ?_
                      rintro e w' ⟨rfl, rfl⟩
                      go_wp2_with fail
                      refine HFR.out.mono ?_
                      rintro e wF hT
                      obtain ⟨rfl, bF⟩ := hT.below
                      have HF3 := Lib.hid (HF2.out.below bF)
                      have HAP2 := Lib.hid (HAP.out _ bF)
                      clear hT bF HAP HFR HRN HF2
                      go_wp2_with fail
                      refine HAP2.out.mono ?_
                      rintro e wG ⟨rfl, bG⟩
                      have HF4 := Lib.hid (HF3.out.below bG)
                      clear bG HAP2 HF3
                      go_wp2
                      refine ⟨⟨k + 1, by omega, by omega, by go_num, HF4.out⟩, ?_⟩
                      simp [intOf]; omega
            · have hlt2' : ¬ ((k : Int) < (nm : Int)) := by omega
              obtain ⟨s, hd, hl, hfl, hct, hbel, hdead, hcal, hp⟩ := HF2.out
              have hcr := Disk.crash_any d s none 0 0 [] _ hd (Row.nil _) (Nat.le_refl _) (by intro h; omega) (by intro _; rfl)
              obtain ⟨rs, hrs, hrdy, hfu, hca⟩ := dead_crash hdead []
              obtain ⟨t2, ht2⟩ : ∃ t, s.crashed [] = t := ⟨_, rfl⟩
              rw [ht2] at hcr hrdy hfu hca
              unfold Dk.ptr at hcr
              have HCR := Lib.hid hcr
              have HB := Lib.hid hbel
              have HR := Lib.hid hrdy
              have HFU := Lib.hid hfu
              have HCA := Lib.hid (show t2.calls ≤ 10000 by omega)
              clear hcr hd hl hfl hct hbel hdead hcal hp ht2 hrdy hfu hca HF2
              go_wp2_with fail
              refine HCR.out.mono ?_
              rintro e w8 ⟨rfl, hd8, c8⟩
              have b8 := HB.out.trans (c8.below (fun k hk => hf.has hk) HB.out.size)
              have hop := open_good d t2 0 30 rs w8 hd8 HR.out
              unfold Dk.ptr at hop
              have HOP := Lib.hid hop
              have HD8 := Lib.hid hd8
              have B8 := Lib.hid b8
              clear hop hd8 b8 c8 HCR HB
              go_wp2_with fail
              refine HOP.out.mono ?_
              rintro e w9 ⟨p9, v9, rfl, ho9⟩
              obtain ⟨hrun9, hrec9⟩ := run_open HD8.out hf B8.out HR.out ho9
              obtain ⟨a9, c9, rfl, _⟩ := hrec9.shape
              have hfr := free_any p9 d.p _ w9 hrun9.log
              rw [hrun9.free] at hfr
              obtain ⟨nrs, hnrs⟩ : ∃ n, rs.length = n := ⟨_, rfl⟩
              rw [hnrs] at hrs
              rw [hnrs]
              obtain ⟨fr, hfre⟩ : ∃ n, 30 - (0 + 1 + used rs) = n := ⟨_, rfl⟩
              rw [hfre] at hfr
              have HFR := Lib.hid hfr
              have HRUN := Lib.hid hrun9
              have HNRS := Lib.hid hnrs
              clear hfr hrun9 hrec9 ho9 HOP HD8 B8 hnrs
              go_wp2_with fail
              refine HFR.out.mono ?_
              rintro e wB hT
              obtain ⟨rfl, bB⟩ := hT.below
              have HRB := Lib.hid (HRUN.out.below bB)
              clear hT bB HFR HRUN
              by_cases hfr1 : fr < 1
              · have hfr1' : (fr : Int) < 1 := by omega
                have HB := Lib.hid HRB.out.bel
                clear HRB hfre
                go_wp2_with fail
                refine (awake_any _).mono ?_
                rintro e wA ⟨rfl, bA⟩
                go_wp2
                go_ret
                exact ⟨rfl, HB.out.trans (bA.mono HB.out.size)⟩
              · have hfr1' : ¬ ((fr : Int) < 1) := by omega
                have hcv := Lib.run_convert_bytes_const (P := Try.prog) wB 25 5 #[.int .u8 97, .int .u8 103, .int .u8 97, .int .u8 105, .int .u8 110] 5 5 Try.underlying25 Try.underlying5
                have hra := row_list wB again again_byte (by decide) (#[Value.int .u8 97, .int .u8 103, .int .u8 97, .int .u8 105, .int .u8 110].size, #[Value.int .u8 97, .int .u8 103, .int .u8 97, .int .u8 105, .int .u8 110].size + 1)
                have bA : Below wB.heap.size wB (wB.alloc (.cells (bcells again).toArray 5 (#[Value.int .u8 97, .int .u8 103, .int .u8 97, .int .u8 105, .int .u8 110].size, #[Value.int .u8 97, .int .u8 103, .int .u8 97, .int .u8 105, .int .u8 110].size + 1))) := (Below.refl _ _).alloc (Nat.le_refl _) _
                have hn5 : needN 5 = 1 := rfl
                have hapg := append_fresh (HRB.out.below bA) HFU.out (some ⟨wB.heap.size, 0, none⟩) 5 5 again hra (by intro h; cases h) (Nat.le_refl _) (fun _ x off e hk => by
                  cases e
                  rcases hk with hk | hk
                  · have := HRB.out.log.obj.lt; omega
                  · have := At_lt HRB.out.disk hk; omega) (by omega) (by rw [HNRS.out]; omega) (by rw [hn5]; omega) (by have := HCA.out; omega)
                change Calls _ _ _ (wB.alloc (.cells #[.int .u8 97, .int .u8 103, .int .u8 97, .int .u8 105, .int .u8 110] 5 _)) _ at hapg
                have HAP := Lib.hid hapg
                clear hapg hra bA hfre hn5
                go_wp2_with fail
                refine HAP.out.mono ?_
                rintro e wC ⟨rfl, s', l', hg⟩
                have hop := open_good d s' 0 30 (rs ++ [again]) wC hg.run.disk hg.run.rdy
                unfold Dk.ptr at hop
                have HOP := Lib.hid hop
                have HBC := Lib.hid hg.run.bel
                clear hop hg HAP HRB HFU HCA HR hcv
                go_wp2_with fail
                refine HOP.out.mono ?_
                rintro e wD ⟨pD, vD, rfl, hoD⟩
                have hln : (rs ++ [again]).length = nrs + 1 := by rw [List.length_append, HNRS.out]; rfl
                have hgd : (rs ++ [again]).getD nrs [] = again := by rw [← HNRS.out]; simp
                obtain ⟨gg, gcap, gai, gci, rfl, gcell, grow, _⟩ := hoD.recs.at nrs (by rw [hln]; omega)
                rw [hgd] at gcell grow
                rw [hln]
                have hconv := grow.conv gci
                have hstr := again_str
                have hcast : (((nrs + 1 : Nat)) : Int) = (nrs : Int) + 1 := by omega
                have hi0 : (0 : Int) ≤ nrs := by omega
                have hi1 : (nrs : Int) < (nrs : Int) + 1 := by omega
                have hcmp : ({ data := #[97, 103, 97, 105, 110] } : ByteArray).toList = [97, 103, 97, 105, 110] := by rw [ByteArray.toList_eq]
                rw [show again.length = 5 from rfl] at gcell hconv
                generalize strOfNums again = st at *
                have BD := Lib.hid (HBC.out.trans (hoD.below.mono HBC.out.size))
                clear grow hoD HOP HBC hln hgd HNRS
                try rw [hcast]
                go_wp2_with fail
                refine (awake_any _).mono ?_
                rintro e wA ⟨rfl, bA⟩
                go_wp2
                go_ret
                exact ⟨rfl, BD.out.trans (bA.mono BD.out.size)⟩
        · try skip
          go_wp2_with fail
          go_loopw [81] (fun i u => ∃ k : Nat, k ≤ nm ∧ k ≤ 6 ∧ i = .int .i64 k ∧ FallS w u d p l) (fun i _ => 6 - (intOf i).toNat)
          case atStart => exact ⟨0, by omega, by omega, rfl, HFS.out⟩
          case round =>
            clear HFS
            obtain ⟨k, hk, hk6, rfl, hfs⟩ := hrel
            have HF2 := Lib.hid hfs
            clear hfs
            by_cases hlt2 : k < nm
            · have hlt2' : (k : Int) < (nm : Int) := by omega
              have hk0 : (0 : Int) ≤ k := by omega
              obtain ⟨mb, mo, rfl, hmb, hmat⟩ := HM.out (by omega)
              obtain ⟨ai, ci, g1, g2, g3, g4, g5⟩ := hmat k hlt2
              have hms2 := g2.short
              obtain ⟨m, hm⟩ : ∃ m, (ms.getD k []).length = m := ⟨_, rfl⟩
              rw [hm] at g1 hms2
              have cM : ∀ u, Below w.heap.size w u → u.cell? ⟨mb, mo + k, none⟩ = some (.slice ai m ci) := fun u hu => by rw [hu.cell (by exact hmb)]; exact g1
              have cM1 := cM _ (show Below w.heap.size w wr by obtain ⟨s, _, _, _, _, h5, _⟩ := HF2.out; exact h5)
              clear g1 g2 g3 g4 g5 hmat hm cM
              by_cases hk1 : k = 1
              · subst hk1
                obtain ⟨s, hd, hl, hfl, hct, hbel, hdead, hcal, hp⟩ := HF2.out
                have hcr := Disk.crash_any d s none 0 0 [] _ hd (Row.nil _) (Nat.le_refl _) (by intro h; omega) (by intro _; rfl)
                obtain ⟨rs, hrs, hrdy, hfu, hca⟩ := dead_crash hdead []
                have hkeep : ∀ u, Disk.At u d (s.crashed []) → Blk.Chg d.Has wr u → FallS w u d p l := fun u hdu hc =>
                  ⟨s.crashed [], hdu, hl.chg hc (hl.ne hd), hfl, hct, hbel.trans (hc.below (fun k hk => hf.has hk) hbel.size), .inr ⟨rs, hrs, hrdy⟩, by rw [hca]; exact hcal, hp⟩
                unfold Dk.ptr at hcr
                have HCR := Lib.hid hcr
                have HK := Lib.hid hkeep
                clear hcr hkeep hd hl hfl hct hbel hdead hcal hp hrs hrdy hfu hca HF2
                go_wp2_with fail
                refine HCR.out.mono ?_
                rintro e wc ⟨rfl, hdc, hcc⟩
                have HF2 := Lib.hid (HK.out _ hdc hcc)
                clear hdc hcc HCR HK cM1
                by_cases h8 : 8192 < m
                · have h8' : (8192 : Int) < m := by omega
                  obtain ⟨s, hd, hl, hfl, hct, hbel, hdead, hcal, hp⟩ := HF2.out
                  have hap := append_long p d.p l ai m ci _ hl h8 (by omega)
                  have HAP := Lib.hid hap
                  clear hap hd hl hfl hct hbel hdead hcal hp s
                  go_wp2_with fail
                  refine HAP.out.mono ?_
                  rintro e w' ⟨rfl, rfl⟩
                  clear HAP
                  go_wp2
                  refine ⟨⟨2, by omega, by omega, by go_num, HF2.out⟩, ?_⟩
                  simp [intOf]
                · have h8' : ¬ ((8192 : Int) < m) := by omega
                  have hrn := fun w => refNeed_any (m : Int) w (by omega)
                  simp only [need_nat] at hrn
                  obtain ⟨s, hd, hl, hfl, hct, hbel, hdead, hcal, hp⟩ := HF2.out
                  have hfr := free_any p d.p l _ hl
                  have hlo := hl.ok.o1
                  obtain ⟨fr, hfre⟩ : ∃ n, l.to - l.next = n := ⟨_, rfl⟩
                  obtain ⟨N, hN⟩ : ∃ N, needN m = N := ⟨_, rfl⟩
                  rw [hfre] at hfr
                  rw [hN] at hrn
                  have HRN := Lib.hid hrn
                  have HFR := Lib.hid hfr
                  clear hrn hfr
                  by_cases hro : fr < N
                  · have hro' : (fr : Int) < (N : Int) := by omega
                    have hap := fun u hu => append_room p d.p l ai m ci u (hl.below hu) (by omega) (.inr (by omega))
                    have HAP := Lib.hid hap
                    clear hap hd hl hfl hct hbel hdead hcal hp hfre hN hlo s
                    go_wp2_with fail
                    refine (HRN.out _).mono ?_
                    rintro e w' ⟨rfl, rfl⟩
                    go_wp2_with fail
                    refine HFR.out.mono ?_
                    rintro e wF hT
                    obtain ⟨rfl, bF⟩ := hT.below
                    have HF3 := Lib.hid (HF2.out.below bF)
                    have HAP2 := Lib.hid (HAP.out _ bF)
                    clear hT bF HAP HFR HRN HF2
                    go_wp2_with fail
                    refine HAP2.out.mono ?_
                    rintro e wG ⟨rfl, bG⟩
                    have HF4 := Lib.hid (HF3.out.below bG)
                    clear bG HAP2 HF3
                    go_wp2
                    refine ⟨⟨2, by omega, by omega, by go_num, HF4.out⟩, ?_⟩
                    simp [intOf]
                  · have hro' : ¬ ((fr : Int) < (N : Int)) := by omega
                    have hap := fun u hu => append_state p d.p l ai m ci u (hl.below hu) (by omega) hct (by omega) hfl
                    have HAP := Lib.hid hap
                    clear hap hd hl hfl hct hbel hdead hcal hp hfre hN hlo s
                    go_wp2_with fail
                    refine (HRN.out _).mono ?_
                    rintro e w' ⟨rfl, rfl⟩
                    go_wp2_with fail
                    refine HFR.out.mono ?_
                    rintro e wF hT
                    obtain ⟨rfl, bF⟩ := hT.below
                    have HF3 := Lib.hid (HF2.out.below bF)
                    have HAP2 := Lib.hid (HAP.out _ bF)
                    clear hT bF HAP HFR HRN HF2
                    go_wp2_with fail
                    refine HAP2.out.mono ?_
                    rintro e wG ⟨rfl, bG⟩
                    have HF4 := Lib.hid (HF3.out.below bG)
                    clear bG HAP2 HF3
                    go_wp2
                    refine ⟨⟨2, by omega, by omega, by go_num, HF4.out⟩, ?_⟩
                    simp [intOf]
              · by_cases hk66 : k = 6
                · have hk6' : (6 : Int) ≤ k := by omega
                  have hk1' : ¬ ((k : Int) = 1) := by omega
                  have hk1'' : ((k : Int) == 1) = false := by simp; omega
                  clear hk66
                  obtain ⟨s, hd, hl, hfl, hct, hbel, hdead, hcal, hp⟩ := HF2.out
                  have hcr := Disk.crash_any d s none 0 0 [] _ hd (Row.nil _) (Nat.le_refl _) (by intro h; omega) (by intro _; rfl)
                  obtain ⟨rs, hrs, hrdy, hfu, hca⟩ := dead_crash hdead []
                  obtain ⟨t2, ht2⟩ : ∃ t, s.crashed [] = t := ⟨_, rfl⟩
                  rw [ht2] at hcr hrdy hfu hca
                  unfold Dk.ptr at hcr
                  have HCR := Lib.hid hcr
                  have HB := Lib.hid hbel
                  have HR := Lib.hid hrdy
                  have HFU := Lib.hid hfu
                  have HCA := Lib.hid (show t2.calls ≤ 10000 by omega)
                  clear hcr hd hl hfl hct hbel hdead hcal hp ht2 hrdy hfu hca HF2
                  go_wp2_with fail
                  refine HCR.out.mono ?_
                  rintro e w8 ⟨rfl, hd8, c8⟩
                  have b8 := HB.out.trans (c8.below (fun k hk => hf.has hk) HB.out.size)
                  have hop := open_good d t2 0 30 rs w8 hd8 HR.out
                  unfold Dk.ptr at hop
                  have HOP := Lib.hid hop
                  have HD8 := Lib.hid hd8
                  have B8 := Lib.hid b8
                  clear hop hd8 b8 c8 HCR HB
                  go_wp2_with fail
                  refine HOP.out.mono ?_
                  rintro e w9 ⟨p9, v9, rfl, ho9⟩
                  obtain ⟨hrun9, hrec9⟩ := run_open HD8.out hf B8.out HR.out ho9
                  obtain ⟨a9, c9, rfl, _⟩ := hrec9.shape
                  have hfr := free_any p9 d.p _ w9 hrun9.log
                  rw [hrun9.free] at hfr
                  obtain ⟨nrs, hnrs⟩ : ∃ n, rs.length = n := ⟨_, rfl⟩
                  rw [hnrs] at hrs
                  rw [hnrs]
                  obtain ⟨fr, hfre⟩ : ∃ n, 30 - (0 + 1 + used rs) = n := ⟨_, rfl⟩
                  rw [hfre] at hfr
                  have HFR := Lib.hid hfr
                  have HRUN := Lib.hid hrun9
                  have HNRS := Lib.hid hnrs
                  clear hfr hrun9 hrec9 ho9 HOP HD8 B8 hnrs
                  go_wp2_with fail
                  refine HFR.out.mono ?_
                  rintro e wB hT
                  obtain ⟨rfl, bB⟩ := hT.below
                  have HRB := Lib.hid (HRUN.out.below bB)
                  clear hT bB HFR HRUN
                  by_cases hfr1 : fr < 1
                  · have hfr1' : (fr : Int) < 1 := by omega
                    have HB := Lib.hid HRB.out.bel
                    clear HRB hfre
                    go_wp2_with fail
                    refine (awake_any _).mono ?_
                    rintro e wA ⟨rfl, bA⟩
                    go_wp2
                    go_ret
                    exact ⟨rfl, HB.out.trans (bA.mono HB.out.size)⟩
                  · have hfr1' : ¬ ((fr : Int) < 1) := by omega
                    have hcv := Lib.run_convert_bytes_const (P := Try.prog) wB 25 5 #[.int .u8 97, .int .u8 103, .int .u8 97, .int .u8 105, .int .u8 110] 5 5 Try.underlying25 Try.underlying5
                    have hra := row_list wB again again_byte (by decide) (#[Value.int .u8 97, .int .u8 103, .int .u8 97, .int .u8 105, .int .u8 110].size, #[Value.int .u8 97, .int .u8 103, .int .u8 97, .int .u8 105, .int .u8 110].size + 1)
                    have bA : Below wB.heap.size wB (wB.alloc (.cells (bcells again).toArray 5 (#[Value.int .u8 97, .int .u8 103, .int .u8 97, .int .u8 105, .int .u8 110].size, #[Value.int .u8 97, .int .u8 103, .int .u8 97, .int .u8 105, .int .u8 110].size + 1))) := (Below.refl _ _).alloc (Nat.le_refl _) _
                    have hn5 : needN 5 = 1 := rfl
                    have hapg := append_fresh (HRB.out.below bA) HFU.out (some ⟨wB.heap.size, 0, none⟩) 5 5 again hra (by intro h; cases h) (Nat.le_refl _) (fun _ x off e hk => by
                      cases e
                      rcases hk with hk | hk
                      · have := HRB.out.log.obj.lt; omega
                      · have := At_lt HRB.out.disk hk; omega) (by omega) (by rw [HNRS.out]; omega) (by rw [hn5]; omega) (by have := HCA.out; omega)
                    change Calls _ _ _ (wB.alloc (.cells #[.int .u8 97, .int .u8 103, .int .u8 97, .int .u8 105, .int .u8 110] 5 _)) _ at hapg
                    have HAP := Lib.hid hapg
                    clear hapg hra bA hfre hn5
                    go_wp2_with fail
                    refine HAP.out.mono ?_
                    rintro e wC ⟨rfl, s', l', hg⟩
                    have hop := open_good d s' 0 30 (rs ++ [again]) wC hg.run.disk hg.run.rdy
                    unfold Dk.ptr at hop
                    have HOP := Lib.hid hop
                    have HBC := Lib.hid hg.run.bel
                    clear hop hg HAP HRB HFU HCA HR hcv
                    go_wp2_with fail
                    refine HOP.out.mono ?_
                    rintro e wD ⟨pD, vD, rfl, hoD⟩
                    have hln : (rs ++ [again]).length = nrs + 1 := by rw [List.length_append, HNRS.out]; rfl
                    have hgd : (rs ++ [again]).getD nrs [] = again := by rw [← HNRS.out]; simp
                    obtain ⟨gg, gcap, gai, gci, rfl, gcell, grow, _⟩ := hoD.recs.at nrs (by rw [hln]; omega)
                    rw [hgd] at gcell grow
                    rw [hln]
                    have hconv := grow.conv gci
                    have hstr := again_str
                    have hcast : (((nrs + 1 : Nat)) : Int) = (nrs : Int) + 1 := by omega
                    have hi0 : (0 : Int) ≤ nrs := by omega
                    have hi1 : (nrs : Int) < (nrs : Int) + 1 := by omega
                    have hcmp : ({ data := #[97, 103, 97, 105, 110] } : ByteArray).toList = [97, 103, 97, 105, 110] := by rw [ByteArray.toList_eq]
                    rw [show again.length = 5 from rfl] at gcell hconv
                    generalize strOfNums again = st at *
                    have BD := Lib.hid (HBC.out.trans (hoD.below.mono HBC.out.size))
                    clear grow hoD HOP HBC hln hgd HNRS
                    try rw [hcast]
                    go_wp2_with fail
                    refine (awake_any _).mono ?_
                    rintro e wA ⟨rfl, bA⟩
                    go_wp2
                    go_ret
                    exact ⟨rfl, BD.out.trans (bA.mono BD.out.size)⟩
                · have hk6' : (k : Int) < 6 := by omega
                  have hk1' : ¬ ((k : Int) = 1) := by omega
                  have hk1'' : ((k : Int) == 1) = false := by simp; omega
                  by_cases h8 : 8192 < m
                  · have h8' : (8192 : Int) < m := by omega
                    obtain ⟨s, hd, hl, hfl, hct, hbel, hdead, hcal, hp⟩ := HF2.out
                    have hap := append_long p d.p l ai m ci _ hl h8 (by omega)
                    have HAP := Lib.hid hap
                    clear hap hd hl hfl hct hbel hdead hcal hp s
                    go_wp2_with fail
                    refine HAP.out.mono ?_
                    rintro e w' ⟨rfl, rfl⟩
                    clear HAP
                    go_wp2
                    refine ⟨⟨k + 1, by omega, by omega, by go_num, HF2.out⟩, ?_⟩
                    simp [intOf]; omega
                  · have h8' : ¬ ((8192 : Int) < m) := by omega
                    have hrn := fun w => refNeed_any (m : Int) w (by omega)
                    simp only [need_nat] at hrn
                    obtain ⟨s, hd, hl, hfl, hct, hbel, hdead, hcal, hp⟩ := HF2.out
                    have hfr := free_any p d.p l _ hl
                    have hlo := hl.ok.o1
                    obtain ⟨fr, hfre⟩ : ∃ n, l.to - l.next = n := ⟨_, rfl⟩
                    obtain ⟨N, hN⟩ : ∃ N, needN m = N := ⟨_, rfl⟩
                    rw [hfre] at hfr
                    rw [hN] at hrn
                    have HRN := Lib.hid hrn
                    have HFR := Lib.hid hfr
                    clear hrn hfr
                    by_cases hro : fr < N
                    · have hro' : (fr : Int) < (N : Int) := by omega
                      have hap := fun u hu => append_room p d.p l ai m ci u (hl.below hu) (by omega) (.inr (by omega))
                      have HAP := Lib.hid hap
                      clear hap hd hl hfl hct hbel hdead hcal hp hfre hN hlo s
                      go_wp2_with fail
                      refine (HRN.out _).mono ?_
                      rintro e w' ⟨rfl, rfl⟩
                      go_wp2_with fail
                      refine HFR.out.mono ?_
                      rintro e wF hT
                      obtain ⟨rfl, bF⟩ := hT.below
                      have HF3 := Lib.hid (HF2.out.below bF)
                      have HAP2 := Lib.hid (HAP.out _ bF)
                      clear hT bF HAP HFR HRN HF2
                      go_wp2_with fail
                      refine HAP2.out.mono ?_
                      rintro e wG ⟨rfl, bG⟩
                      have HF4 := Lib.hid (HF3.out.below bG)
                      clear bG HAP2 HF3
                      go_wp2
                      refine ⟨⟨k + 1, by omega, by omega, by go_num, HF4.out⟩, ?_⟩
                      simp [intOf]; omega
                    · have hro' : ¬ ((fr : Int) < (N : Int)) := by omega
                      have hap := fun u hu => append_state p d.p l ai m ci u (hl.below hu) (by omega) hct (by omega) hfl
                      have HAP := Lib.hid hap
                      clear hap hd hl hfl hct hbel hdead hcal hp hfre hN hlo s
                      go_wp2_with fail
                      refine (HRN.out _).mono ?_
                      rintro e w' ⟨rfl, rfl⟩
                      go_wp2_with fail
                      refine HFR.out.mono ?_
                      rintro e wF hT
                      obtain ⟨rfl, bF⟩ := hT.below
                      have HF3 := Lib.hid (HF2.out.below bF)
                      have HAP2 := Lib.hid (HAP.out _ bF)
                      clear hT bF HAP HFR HRN HF2
                      go_wp2_with fail
                      refine HAP2.out.mono ?_
                      rintro e wG ⟨rfl, bG⟩
                      have HF4 := Lib.hid (HF3.out.below bG)
                      clear bG HAP2 HF3
                      go_wp2
                      refine ⟨⟨k + 1, by omega, by omega, by go_num, HF4.out⟩, ?_⟩
                      simp [intOf]; omega
            · have hlt2' : ¬ ((k : Int) < (nm : Int)) := by omega
              obtain ⟨s, hd, hl, hfl, hct, hbel, hdead, hcal, hp⟩ := HF2.out
              have hcr := Disk.crash_any d s none 0 0 [] _ hd (Row.nil _) (Nat.le_refl _) (by intro h; omega) (by intro _; rfl)
              obtain ⟨rs, hrs, hrdy, hfu, hca⟩ := dead_crash hdead []
              obtain ⟨t2, ht2⟩ : ∃ t, s.crashed [] = t := ⟨_, rfl⟩
              rw [ht2] at hcr hrdy hfu hca
              unfold Dk.ptr at hcr
              have HCR := Lib.hid hcr
              have HB := Lib.hid hbel
              have HR := Lib.hid hrdy
              have HFU := Lib.hid hfu
              have HCA := Lib.hid (show t2.calls ≤ 10000 by omega)
              clear hcr hd hl hfl hct hbel hdead hcal hp ht2 hrdy hfu hca HF2
              go_wp2_with fail
              refine HCR.out.mono ?_
              rintro e w8 ⟨rfl, hd8, c8⟩
              have b8 := HB.out.trans (c8.below (fun k hk => hf.has hk) HB.out.size)
              have hop := open_good d t2 0 30 rs w8 hd8 HR.out
              unfold Dk.ptr at hop
              have HOP := Lib.hid hop
              have HD8 := Lib.hid hd8
              have B8 := Lib.hid b8
              clear hop hd8 b8 c8 HCR HB
              go_wp2_with fail
              refine HOP.out.mono ?_
              rintro e w9 ⟨p9, v9, rfl, ho9⟩
              obtain ⟨hrun9, hrec9⟩ := run_open HD8.out hf B8.out HR.out ho9
              obtain ⟨a9, c9, rfl, _⟩ := hrec9.shape
              have hfr := free_any p9 d.p _ w9 hrun9.log
              rw [hrun9.free] at hfr
              obtain ⟨nrs, hnrs⟩ : ∃ n, rs.length = n := ⟨_, rfl⟩
              rw [hnrs] at hrs
              rw [hnrs]
              obtain ⟨fr, hfre⟩ : ∃ n, 30 - (0 + 1 + used rs) = n := ⟨_, rfl⟩
              rw [hfre] at hfr
              have HFR := Lib.hid hfr
              have HRUN := Lib.hid hrun9
              have HNRS := Lib.hid hnrs
              clear hfr hrun9 hrec9 ho9 HOP HD8 B8 hnrs
              go_wp2_with fail
              refine HFR.out.mono ?_
              rintro e wB hT
              obtain ⟨rfl, bB⟩ := hT.below
              have HRB := Lib.hid (HRUN.out.below bB)
              clear hT bB HFR HRUN
              by_cases hfr1 : fr < 1
              · have hfr1' : (fr : Int) < 1 := by omega
                have HB := Lib.hid HRB.out.bel
                clear HRB hfre
                go_wp2_with fail
                refine (awake_any _).mono ?_
                rintro e wA ⟨rfl, bA⟩
                go_wp2
                go_ret
                exact ⟨rfl, HB.out.trans (bA.mono HB.out.size)⟩
              · have hfr1' : ¬ ((fr : Int) < 1) := by omega
                have hcv := Lib.run_convert_bytes_const (P := Try.prog) wB 25 5 #[.int .u8 97, .int .u8 103, .int .u8 97, .int .u8 105, .int .u8 110] 5 5 Try.underlying25 Try.underlying5
                have hra := row_list wB again again_byte (by decide) (#[Value.int .u8 97, .int .u8 103, .int .u8 97, .int .u8 105, .int .u8 110].size, #[Value.int .u8 97, .int .u8 103, .int .u8 97, .int .u8 105, .int .u8 110].size + 1)
                have bA : Below wB.heap.size wB (wB.alloc (.cells (bcells again).toArray 5 (#[Value.int .u8 97, .int .u8 103, .int .u8 97, .int .u8 105, .int .u8 110].size, #[Value.int .u8 97, .int .u8 103, .int .u8 97, .int .u8 105, .int .u8 110].size + 1))) := (Below.refl _ _).alloc (Nat.le_refl _) _
                have hn5 : needN 5 = 1 := rfl
                have hapg := append_fresh (HRB.out.below bA) HFU.out (some ⟨wB.heap.size, 0, none⟩) 5 5 again hra (by intro h; cases h) (Nat.le_refl _) (fun _ x off e hk => by
                  cases e
                  rcases hk with hk | hk
                  · have := HRB.out.log.obj.lt; omega
                  · have := At_lt HRB.out.disk hk; omega) (by omega) (by rw [HNRS.out]; omega) (by rw [hn5]; omega) (by have := HCA.out; omega)
                change Calls _ _ _ (wB.alloc (.cells #[.int .u8 97, .int .u8 103, .int .u8 97, .int .u8 105, .int .u8 110] 5 _)) _ at hapg
                have HAP := Lib.hid hapg
                clear hapg hra bA hfre hn5
                go_wp2_with fail
                refine HAP.out.mono ?_
                rintro e wC ⟨rfl, s', l', hg⟩
                have hop := open_good d s' 0 30 (rs ++ [again]) wC hg.run.disk hg.run.rdy
                unfold Dk.ptr at hop
                have HOP := Lib.hid hop
                have HBC := Lib.hid hg.run.bel
                clear hop hg HAP HRB HFU HCA HR hcv
                go_wp2_with fail
                refine HOP.out.mono ?_
                rintro e wD ⟨pD, vD, rfl, hoD⟩
                have hln : (rs ++ [again]).length = nrs + 1 := by rw [List.length_append, HNRS.out]; rfl
                have hgd : (rs ++ [again]).getD nrs [] = again := by rw [← HNRS.out]; simp
                obtain ⟨gg, gcap, gai, gci, rfl, gcell, grow, _⟩ := hoD.recs.at nrs (by rw [hln]; omega)
                rw [hgd] at gcell grow
                rw [hln]
                have hconv := grow.conv gci
                have hstr := again_str
                have hcast : (((nrs + 1 : Nat)) : Int) = (nrs : Int) + 1 := by omega
                have hi0 : (0 : Int) ≤ nrs := by omega
                have hi1 : (nrs : Int) < (nrs : Int) + 1 := by omega
                have hcmp : ({ data := #[97, 103, 97, 105, 110] } : ByteArray).toList = [97, 103, 97, 105, 110] := by rw [ByteArray.toList_eq]
                rw [show again.length = 5 from rfl] at gcell hconv
                generalize strOfNums again = st at *
                have BD := Lib.hid (HBC.out.trans (hoD.below.mono HBC.out.size))
                clear grow hoD HOP HBC hln hgd HNRS
                try rw [hcast]
                go_wp2_with fail
                refine (awake_any _).mono ?_
                rintro e wA ⟨rfl, bA⟩
                go_wp2
                go_ret
                exact ⟨rfl, BD.out.trans (bA.mono BD.out.size)⟩
      · have hlt' : ¬ ((k : Int) < (rows.length : Int)) := by omega
        clear hrec
        go_wp2_with fail
        go_loopw [81] (fun i u => ∃ k : Nat, k ≤ nm ∧ k ≤ 6 ∧ i = .int .i64 k ∧ FallS w u d p l) (fun i _ => 6 - (intOf i).toNat)
        case atStart => exact ⟨0, by omega, by omega, rfl, HFS.out⟩
        case round =>
          clear HFS
          obtain ⟨k, hk, hk6, rfl, hfs⟩ := hrel
          have HF2 := Lib.hid hfs
          clear hfs
          by_cases hlt2 : k < nm
          · have hlt2' : (k : Int) < (nm : Int) := by omega
            have hk0 : (0 : Int) ≤ k := by omega
            obtain ⟨mb, mo, rfl, hmb, hmat⟩ := HM.out (by omega)
            obtain ⟨ai, ci, g1, g2, g3, g4, g5⟩ := hmat k hlt2
            have hms2 := g2.short
            obtain ⟨m, hm⟩ : ∃ m, (ms.getD k []).length = m := ⟨_, rfl⟩
            rw [hm] at g1 hms2
            have cM : ∀ u, Below w.heap.size w u → u.cell? ⟨mb, mo + k, none⟩ = some (.slice ai m ci) := fun u hu => by rw [hu.cell (by exact hmb)]; exact g1
            have cM1 := cM _ (show Below w.heap.size w wr by obtain ⟨s, _, _, _, _, h5, _⟩ := HF2.out; exact h5)
            clear g1 g2 g3 g4 g5 hmat hm cM
            by_cases hk1 : k = 1
            · subst hk1
              obtain ⟨s, hd, hl, hfl, hct, hbel, hdead, hcal, hp⟩ := HF2.out
              have hcr := Disk.crash_any d s none 0 0 [] _ hd (Row.nil _) (Nat.le_refl _) (by intro h; omega) (by intro _; rfl)
              obtain ⟨rs, hrs, hrdy, hfu, hca⟩ := dead_crash hdead []
              have hkeep : ∀ u, Disk.At u d (s.crashed []) → Blk.Chg d.Has wr u → FallS w u d p l := fun u hdu hc =>
                ⟨s.crashed [], hdu, hl.chg hc (hl.ne hd), hfl, hct, hbel.trans (hc.below (fun k hk => hf.has hk) hbel.size), .inr ⟨rs, hrs, hrdy⟩, by rw [hca]; exact hcal, hp⟩
              unfold Dk.ptr at hcr
              have HCR := Lib.hid hcr
              have HK := Lib.hid hkeep
              clear hcr hkeep hd hl hfl hct hbel hdead hcal hp hrs hrdy hfu hca HF2
              go_wp2_with fail
              refine HCR.out.mono ?_
              rintro e wc ⟨rfl, hdc, hcc⟩
              have HF2 := Lib.hid (HK.out _ hdc hcc)
              clear hdc hcc HCR HK cM1
              by_cases h8 : 8192 < m
              · have h8' : (8192 : Int) < m := by omega
                obtain ⟨s, hd, hl, hfl, hct, hbel, hdead, hcal, hp⟩ := HF2.out
                have hap := append_long p d.p l ai m ci _ hl h8 (by omega)
                have HAP := Lib.hid hap
                clear hap hd hl hfl hct hbel hdead hcal hp s
                go_wp2_with fail
                refine HAP.out.mono ?_
                rintro e w' ⟨rfl, rfl⟩
                clear HAP
                go_wp2
                refine ⟨⟨2, by omega, by omega, by go_num, HF2.out⟩, ?_⟩
                simp [intOf]
              · have h8' : ¬ ((8192 : Int) < m) := by omega
                have hrn := fun w => refNeed_any (m : Int) w (by omega)
                simp only [need_nat] at hrn
                obtain ⟨s, hd, hl, hfl, hct, hbel, hdead, hcal, hp⟩ := HF2.out
                have hfr := free_any p d.p l _ hl
                have hlo := hl.ok.o1
                obtain ⟨fr, hfre⟩ : ∃ n, l.to - l.next = n := ⟨_, rfl⟩
                obtain ⟨N, hN⟩ : ∃ N, needN m = N := ⟨_, rfl⟩
                rw [hfre] at hfr
                rw [hN] at hrn
                have HRN := Lib.hid hrn
                have HFR := Lib.hid hfr
                clear hrn hfr
                by_cases hro : fr < N
                · have hro' : (fr : Int) < (N : Int) := by omega
                  have hap := fun u hu => append_room p d.p l ai m ci u (hl.below hu) (by omega) (.inr (by omega))
                  have HAP := Lib.hid hap
                  clear hap hd hl hfl hct hbel hdead hcal hp hfre hN hlo s
                  go_wp2_with fail
                  refine (HRN.out _).mono ?_
                  rintro e w' ⟨rfl, rfl⟩
                  go_wp2_with fail
                  refine HFR.out.mono ?_
                  rintro e wF hT
                  obtain ⟨rfl, bF⟩ := hT.below
                  have HF3 := Lib.hid (HF2.out.below bF)
                  have HAP2 := Lib.hid (HAP.out _ bF)
                  clear hT bF HAP HFR HRN HF2
                  go_wp2_with fail
                  refine HAP2.out.mono ?_
                  rintro e wG ⟨rfl, bG⟩
                  have HF4 := Lib.hid (HF3.out.below bG)
                  clear bG HAP2 HF3
                  go_wp2
                  refine ⟨⟨2, by omega, by omega, by go_num, HF4.out⟩, ?_⟩
                  simp [intOf]
                · have hro' : ¬ ((fr : Int) < (N : Int)) := by omega
                  have hap := fun u hu => append_state p d.p l ai m ci u (hl.below hu) (by omega) hct (by omega) hfl
                  have HAP := Lib.hid hap
                  clear hap hd hl hfl hct hbel hdead hcal hp hfre hN hlo s
                  go_wp2_with fail
                  refine (HRN.out _).mono ?_
                  rintro e w' ⟨rfl, rfl⟩
                  go_wp2_with fail
                  refine HFR.out.mono ?_
                  rintro e wF hT
                  obtain ⟨rfl, bF⟩ := hT.below
                  have HF3 := Lib.hid (HF2.out.below bF)
                  have HAP2 := Lib.hid (HAP.out _ bF)
                  clear hT bF HAP HFR HRN HF2
                  go_wp2_with fail
                  refine HAP2.out.mono ?_
                  rintro e wG ⟨rfl, bG⟩
                  have HF4 := Lib.hid (HF3.out.below bG)
                  clear bG HAP2 HF3
                  go_wp2
                  refine ⟨⟨2, by omega, by omega, by go_num, HF4.out⟩, ?_⟩
                  simp [intOf]
            · by_cases hk66 : k = 6
              · have hk6' : (6 : Int) ≤ k := by omega
                have hk1' : ¬ ((k : Int) = 1) := by omega
                have hk1'' : ((k : Int) == 1) = false := by simp; omega
                clear hk66
                obtain ⟨s, hd, hl, hfl, hct, hbel, hdead, hcal, hp⟩ := HF2.out
                have hcr := Disk.crash_any d s none 0 0 [] _ hd (Row.nil _) (Nat.le_refl _) (by intro h; omega) (by intro _; rfl)
                obtain ⟨rs, hrs, hrdy, hfu, hca⟩ := dead_crash hdead []
                obtain ⟨t2, ht2⟩ : ∃ t, s.crashed [] = t := ⟨_, rfl⟩
                rw [ht2] at hcr hrdy hfu hca
                unfold Dk.ptr at hcr
                have HCR := Lib.hid hcr
                have HB := Lib.hid hbel
                have HR := Lib.hid hrdy
                have HFU := Lib.hid hfu
                have HCA := Lib.hid (show t2.calls ≤ 10000 by omega)
                clear hcr hd hl hfl hct hbel hdead hcal hp ht2 hrdy hfu hca HF2
                go_wp2_with fail
                refine HCR.out.mono ?_
                rintro e w8 ⟨rfl, hd8, c8⟩
                have b8 := HB.out.trans (c8.below (fun k hk => hf.has hk) HB.out.size)
                have hop := open_good d t2 0 30 rs w8 hd8 HR.out
                unfold Dk.ptr at hop
                have HOP := Lib.hid hop
                have HD8 := Lib.hid hd8
                have B8 := Lib.hid b8
                clear hop hd8 b8 c8 HCR HB
                go_wp2_with fail
                refine HOP.out.mono ?_
                rintro e w9 ⟨p9, v9, rfl, ho9⟩
                obtain ⟨hrun9, hrec9⟩ := run_open HD8.out hf B8.out HR.out ho9
                obtain ⟨a9, c9, rfl, _⟩ := hrec9.shape
                have hfr := free_any p9 d.p _ w9 hrun9.log
                rw [hrun9.free] at hfr
                obtain ⟨nrs, hnrs⟩ : ∃ n, rs.length = n := ⟨_, rfl⟩
                rw [hnrs] at hrs
                rw [hnrs]
                obtain ⟨fr, hfre⟩ : ∃ n, 30 - (0 + 1 + used rs) = n := ⟨_, rfl⟩
                rw [hfre] at hfr
                have HFR := Lib.hid hfr
                have HRUN := Lib.hid hrun9
                have HNRS := Lib.hid hnrs
                clear hfr hrun9 hrec9 ho9 HOP HD8 B8 hnrs
                go_wp2_with fail
                refine HFR.out.mono ?_
                rintro e wB hT
                obtain ⟨rfl, bB⟩ := hT.below
                have HRB := Lib.hid (HRUN.out.below bB)
                clear hT bB HFR HRUN
                by_cases hfr1 : fr < 1
                · have hfr1' : (fr : Int) < 1 := by omega
                  have HB := Lib.hid HRB.out.bel
                  clear HRB hfre
                  go_wp2_with fail
                  refine (awake_any _).mono ?_
                  rintro e wA ⟨rfl, bA⟩
                  go_wp2
                  go_ret
                  exact ⟨rfl, HB.out.trans (bA.mono HB.out.size)⟩
                · have hfr1' : ¬ ((fr : Int) < 1) := by omega
                  have hcv := Lib.run_convert_bytes_const (P := Try.prog) wB 25 5 #[.int .u8 97, .int .u8 103, .int .u8 97, .int .u8 105, .int .u8 110] 5 5 Try.underlying25 Try.underlying5
                  have hra := row_list wB again again_byte (by decide) (#[Value.int .u8 97, .int .u8 103, .int .u8 97, .int .u8 105, .int .u8 110].size, #[Value.int .u8 97, .int .u8 103, .int .u8 97, .int .u8 105, .int .u8 110].size + 1)
                  have bA : Below wB.heap.size wB (wB.alloc (.cells (bcells again).toArray 5 (#[Value.int .u8 97, .int .u8 103, .int .u8 97, .int .u8 105, .int .u8 110].size, #[Value.int .u8 97, .int .u8 103, .int .u8 97, .int .u8 105, .int .u8 110].size + 1))) := (Below.refl _ _).alloc (Nat.le_refl _) _
                  have hn5 : needN 5 = 1 := rfl
                  have hapg := append_fresh (HRB.out.below bA) HFU.out (some ⟨wB.heap.size, 0, none⟩) 5 5 again hra (by intro h; cases h) (Nat.le_refl _) (fun _ x off e hk => by
                    cases e
                    rcases hk with hk | hk
                    · have := HRB.out.log.obj.lt; omega
                    · have := At_lt HRB.out.disk hk; omega) (by omega) (by rw [HNRS.out]; omega) (by rw [hn5]; omega) (by have := HCA.out; omega)
                  change Calls _ _ _ (wB.alloc (.cells #[.int .u8 97, .int .u8 103, .int .u8 97, .int .u8 105, .int .u8 110] 5 _)) _ at hapg
                  have HAP := Lib.hid hapg
                  clear hapg hra bA hfre hn5
                  go_wp2_with fail
                  refine HAP.out.mono ?_
                  rintro e wC ⟨rfl, s', l', hg⟩
                  have hop := open_good d s' 0 30 (rs ++ [again]) wC hg.run.disk hg.run.rdy
                  unfold Dk.ptr at hop
                  have HOP := Lib.hid hop
                  have HBC := Lib.hid hg.run.bel
                  clear hop hg HAP HRB HFU HCA HR hcv
                  go_wp2_with fail
                  refine HOP.out.mono ?_
                  rintro e wD ⟨pD, vD, rfl, hoD⟩
                  have hln : (rs ++ [again]).length = nrs + 1 := by rw [List.length_append, HNRS.out]; rfl
                  have hgd : (rs ++ [again]).getD nrs [] = again := by rw [← HNRS.out]; simp
                  obtain ⟨gg, gcap, gai, gci, rfl, gcell, grow, _⟩ := hoD.recs.at nrs (by rw [hln]; omega)
                  rw [hgd] at gcell grow
                  rw [hln]
                  have hconv := grow.conv gci
                  have hstr := again_str
                  have hcast : (((nrs + 1 : Nat)) : Int) = (nrs : Int) + 1 := by omega
                  have hi0 : (0 : Int) ≤ nrs := by omega
                  have hi1 : (nrs : Int) < (nrs : Int) + 1 := by omega
                  have hcmp : ({ data := #[97, 103, 97, 105, 110] } : ByteArray).toList = [97, 103, 97, 105, 110] := by rw [ByteArray.toList_eq]
                  rw [show again.length = 5 from rfl] at gcell hconv
                  generalize strOfNums again = st at *
                  have BD := Lib.hid (HBC.out.trans (hoD.below.mono HBC.out.size))
                  clear grow hoD HOP HBC hln hgd HNRS
                  try rw [hcast]
                  go_wp2_with fail
                  refine (awake_any _).mono ?_
                  rintro e wA ⟨rfl, bA⟩
                  go_wp2
                  go_ret
                  exact ⟨rfl, BD.out.trans (bA.mono BD.out.size)⟩
              · have hk6' : (k : Int) < 6 := by omega
                have hk1' : ¬ ((k : Int) = 1) := by omega
                have hk1'' : ((k : Int) == 1) = false := by simp; omega
                by_cases h8 : 8192 < m
                · have h8' : (8192 : Int) < m := by omega
                  obtain ⟨s, hd, hl, hfl, hct, hbel, hdead, hcal, hp⟩ := HF2.out
                  have hap := append_long p d.p l ai m ci _ hl h8 (by omega)
                  have HAP := Lib.hid hap
                  clear hap hd hl hfl hct hbel hdead hcal hp s
                  go_wp2_with fail
                  refine HAP.out.mono ?_
                  rintro e w' ⟨rfl, rfl⟩
                  clear HAP
                  go_wp2
                  refine ⟨⟨k + 1, by omega, by omega, by go_num, HF2.out⟩, ?_⟩
                  simp [intOf]; omega
                · have h8' : ¬ ((8192 : Int) < m) := by omega
                  have hrn := fun w => refNeed_any (m : Int) w (by omega)
                  simp only [need_nat] at hrn
                  obtain ⟨s, hd, hl, hfl, hct, hbel, hdead, hcal, hp⟩ := HF2.out
                  have hfr := free_any p d.p l _ hl
                  have hlo := hl.ok.o1
                  obtain ⟨fr, hfre⟩ : ∃ n, l.to - l.next = n := ⟨_, rfl⟩
                  obtain ⟨N, hN⟩ : ∃ N, needN m = N := ⟨_, rfl⟩
                  rw [hfre] at hfr
                  rw [hN] at hrn
                  have HRN := Lib.hid hrn
                  have HFR := Lib.hid hfr
                  clear hrn hfr
                  by_cases hro : fr < N
                  · have hro' : (fr : Int) < (N : Int) := by omega
                    have hap := fun u hu => append_room p d.p l ai m ci u (hl.below hu) (by omega) (.inr (by omega))
                    have HAP := Lib.hid hap
                    clear hap hd hl hfl hct hbel hdead hcal hp hfre hN hlo s
                    go_wp2_with fail
                    refine (HRN.out _).mono ?_
                    rintro e w' ⟨rfl, rfl⟩
                    go_wp2_with fail
                    refine HFR.out.mono ?_
                    rintro e wF hT
                    obtain ⟨rfl, bF⟩ := hT.below
                    have HF3 := Lib.hid (HF2.out.below bF)
                    have HAP2 := Lib.hid (HAP.out _ bF)
                    clear hT bF HAP HFR HRN HF2
                    go_wp2_with fail
                    refine HAP2.out.mono ?_
                    rintro e wG ⟨rfl, bG⟩
                    have HF4 := Lib.hid (HF3.out.below bG)
                    clear bG HAP2 HF3
                    go_wp2
                    refine ⟨⟨k + 1, by omega, by omega, by go_num, HF4.out⟩, ?_⟩
                    simp [intOf]; omega
                  · have hro' : ¬ ((fr : Int) < (N : Int)) := by omega
                    have hap := fun u hu => append_state p d.p l ai m ci u (hl.below hu) (by omega) hct (by omega) hfl
                    have HAP := Lib.hid hap
                    clear hap hd hl hfl hct hbel hdead hcal hp hfre hN hlo s
                    go_wp2_with fail
                    refine (HRN.out _).mono ?_
                    rintro e w' ⟨rfl, rfl⟩
                    go_wp2_with fail
                    refine HFR.out.mono ?_
                    rintro e wF hT
                    obtain ⟨rfl, bF⟩ := hT.below
                    have HF3 := Lib.hid (HF2.out.below bF)
                    have HAP2 := Lib.hid (HAP.out _ bF)
                    clear hT bF HAP HFR HRN HF2
                    go_wp2_with fail
                    refine HAP2.out.mono ?_
                    rintro e wG ⟨rfl, bG⟩
                    have HF4 := Lib.hid (HF3.out.below bG)
                    clear bG HAP2 HF3
                    go_wp2
                    refine ⟨⟨k + 1, by omega, by omega, by go_num, HF4.out⟩, ?_⟩
                    simp [intOf]; omega
          · have hlt2' : ¬ ((k : Int) < (nm : Int)) := by omega
            obtain ⟨s, hd, hl, hfl, hct, hbel, hdead, hcal, hp⟩ := HF2.out
            have hcr := Disk.crash_any d s none 0 0 [] _ hd (Row.nil _) (Nat.le_refl _) (by intro h; omega) (by intro _; rfl)
            obtain ⟨rs, hrs, hrdy, hfu, hca⟩ := dead_crash hdead []
            obtain ⟨t2, ht2⟩ : ∃ t, s.crashed [] = t := ⟨_, rfl⟩
            rw [ht2] at hcr hrdy hfu hca
            unfold Dk.ptr at hcr
            have HCR := Lib.hid hcr
            have HB := Lib.hid hbel
            have HR := Lib.hid hrdy
            have HFU := Lib.hid hfu
            have HCA := Lib.hid (show t2.calls ≤ 10000 by omega)
            clear hcr hd hl hfl hct hbel hdead hcal hp ht2 hrdy hfu hca HF2
            go_wp2_with fail
            refine HCR.out.mono ?_
            rintro e w8 ⟨rfl, hd8, c8⟩
            have b8 := HB.out.trans (c8.below (fun k hk => hf.has hk) HB.out.size)
            have hop := open_good d t2 0 30 rs w8 hd8 HR.out
            unfold Dk.ptr at hop
            have HOP := Lib.hid hop
            have HD8 := Lib.hid hd8
            have B8 := Lib.hid b8
            clear hop hd8 b8 c8 HCR HB
            go_wp2_with fail
            refine HOP.out.mono ?_
            rintro e w9 ⟨p9, v9, rfl, ho9⟩
            obtain ⟨hrun9, hrec9⟩ := run_open HD8.out hf B8.out HR.out ho9
            obtain ⟨a9, c9, rfl, _⟩ := hrec9.shape
            have hfr := free_any p9 d.p _ w9 hrun9.log
            rw [hrun9.free] at hfr
            obtain ⟨nrs, hnrs⟩ : ∃ n, rs.length = n := ⟨_, rfl⟩
            rw [hnrs] at hrs
            rw [hnrs]
            obtain ⟨fr, hfre⟩ : ∃ n, 30 - (0 + 1 + used rs) = n := ⟨_, rfl⟩
            rw [hfre] at hfr
            have HFR := Lib.hid hfr
            have HRUN := Lib.hid hrun9
            have HNRS := Lib.hid hnrs
            clear hfr hrun9 hrec9 ho9 HOP HD8 B8 hnrs
            go_wp2_with fail
            refine HFR.out.mono ?_
            rintro e wB hT
            obtain ⟨rfl, bB⟩ := hT.below
            have HRB := Lib.hid (HRUN.out.below bB)
            clear hT bB HFR HRUN
            by_cases hfr1 : fr < 1
            · have hfr1' : (fr : Int) < 1 := by omega
              have HB := Lib.hid HRB.out.bel
              clear HRB hfre
              go_wp2_with fail
              refine (awake_any _).mono ?_
              rintro e wA ⟨rfl, bA⟩
              go_wp2
              go_ret
              exact ⟨rfl, HB.out.trans (bA.mono HB.out.size)⟩
            · have hfr1' : ¬ ((fr : Int) < 1) := by omega
              have hcv := Lib.run_convert_bytes_const (P := Try.prog) wB 25 5 #[.int .u8 97, .int .u8 103, .int .u8 97, .int .u8 105, .int .u8 110] 5 5 Try.underlying25 Try.underlying5
              have hra := row_list wB again again_byte (by decide) (#[Value.int .u8 97, .int .u8 103, .int .u8 97, .int .u8 105, .int .u8 110].size, #[Value.int .u8 97, .int .u8 103, .int .u8 97, .int .u8 105, .int .u8 110].size + 1)
              have bA : Below wB.heap.size wB (wB.alloc (.cells (bcells again).toArray 5 (#[Value.int .u8 97, .int .u8 103, .int .u8 97, .int .u8 105, .int .u8 110].size, #[Value.int .u8 97, .int .u8 103, .int .u8 97, .int .u8 105, .int .u8 110].size + 1))) := (Below.refl _ _).alloc (Nat.le_refl _) _
              have hn5 : needN 5 = 1 := rfl
              have hapg := append_fresh (HRB.out.below bA) HFU.out (some ⟨wB.heap.size, 0, none⟩) 5 5 again hra (by intro h; cases h) (Nat.le_refl _) (fun _ x off e hk => by
                cases e
                rcases hk with hk | hk
                · have := HRB.out.log.obj.lt; omega
                · have := At_lt HRB.out.disk hk; omega) (by omega) (by rw [HNRS.out]; omega) (by rw [hn5]; omega) (by have := HCA.out; omega)
              change Calls _ _ _ (wB.alloc (.cells #[.int .u8 97, .int .u8 103, .int .u8 97, .int .u8 105, .int .u8 110] 5 _)) _ at hapg
              have HAP := Lib.hid hapg
              clear hapg hra bA hfre hn5
              go_wp2_with fail
              refine HAP.out.mono ?_
              rintro e wC ⟨rfl, s', l', hg⟩
              have hop := open_good d s' 0 30 (rs ++ [again]) wC hg.run.disk hg.run.rdy
              unfold Dk.ptr at hop
              have HOP := Lib.hid hop
              have HBC := Lib.hid hg.run.bel
              clear hop hg HAP HRB HFU HCA HR hcv
              go_wp2_with fail
              refine HOP.out.mono ?_
              rintro e wD ⟨pD, vD, rfl, hoD⟩
              have hln : (rs ++ [again]).length = nrs + 1 := by rw [List.length_append, HNRS.out]; rfl
              have hgd : (rs ++ [again]).getD nrs [] = again := by rw [← HNRS.out]; simp
              obtain ⟨gg, gcap, gai, gci, rfl, gcell, grow, _⟩ := hoD.recs.at nrs (by rw [hln]; omega)
              rw [hgd] at gcell grow
              rw [hln]
              have hconv := grow.conv gci
              have hstr := again_str
              have hcast : (((nrs + 1 : Nat)) : Int) = (nrs : Int) + 1 := by omega
              have hi0 : (0 : Int) ≤ nrs := by omega
              have hi1 : (nrs : Int) < (nrs : Int) + 1 := by omega
              have hcmp : ({ data := #[97, 103, 97, 105, 110] } : ByteArray).toList = [97, 103, 97, 105, 110] := by rw [ByteArray.toList_eq]
              rw [show again.length = 5 from rfl] at gcell hconv
              generalize strOfNums again = st at *
              have BD := Lib.hid (HBC.out.trans (hoD.below.mono HBC.out.size))
              clear grow hoD HOP HBC hln hgd HNRS
              try rw [hcast]
              go_wp2_with fail
              refine (awake_any _).mono ?_
              rintro e wA ⟨rfl, bA⟩
              go_wp2
              go_ret
              exact ⟨rfl, BD.out.trans (bA.mono BD.out.size)⟩
end Wal
end Go.Proofs.Ytfccoggdpogekaa

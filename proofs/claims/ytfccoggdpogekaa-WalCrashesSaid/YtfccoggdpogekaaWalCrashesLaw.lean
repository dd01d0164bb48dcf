/-
WalCrashes' walk.
-/
import Derived.Test.YtfccoggdpogekaaWalCrashKit
namespace Go.Proofs.Ytfccoggdpogekaa
open Go.RowKit
set_option linter.unusedVariables false
namespace Wal
open Disk (Dk St Sec Secs fresh)

theorem IsRow_at {w : World} {a : Option Addr} {len cap : Nat} {zs : List Int} (h : IsRow .i64 w a len cap zs) (i : Nat) (hi : i < len) : ∃ b off, a = some ⟨b, off, none⟩ ∧ b < w.heap.size ∧ w.cell? ⟨b, off + i, none⟩ = some (.int .i64 (zs.getD i 0)) := by
  rcases h with ⟨_, rfl, _⟩ | ⟨x, rfl, hl, hm, hz, hc, hw⟩
  · omega
  · obtain ⟨b, off, rfl, hc'⟩ := ints_at hc (by omega)
    have := hc' i (by omega)
    exact ⟨b, off, rfl, block_lt_of_cell this, this⟩
theorem IsRow_short {k : IntKind} {w : World} {a : Option Addr} {len cap : Nat} {zs : List Int} (h : IsRow k w a len cap zs) : len ≤ 9223372036854775807 := by
  rcases h with ⟨_, rfl, _⟩ | ⟨x, rfl, hl, hm, _⟩
  · omega
  · unfold maxLen at hm; omega
/-- Between two rounds. -/
def OutR (w u : World) (d : Dk) (vr : Value) (rows : List (List Int)) (rd : Nat) (vs : Value) (i : Nat) : Prop :=
  ∃ s rs, Disk.At u d s ∧ Rdy d.n s 2 80 rs ∧ s.fuse = 0 ∧ s.calls ≤ 10 + 3000 * rd ∧ Two w u vr vs rows rs i ∧ Below w.heap.size w u
/-- Between two Appends. -/
def InR (w u : World) (d : Dk) (p : Nat) (vr : Value) (rows : List (List Int)) (vs : Value) (i c k : Nat) : Prop :=
  ∃ s l rs, Run w u d p s l 2 80 rs ∧ s.calls ≤ c + 200 * k ∧ Two w u vr vs rows rs i
theorem used_small {rs : List (List Int)} (h : ∀ r ∈ rs, r.length ≤ 300) : used rs ≤ 5 * rs.length := by
  induction rs with
  | nil => simp
  | cons r rs ih =>
    have := ih fun x hx => h x (List.mem_cons_of_mem _ hx)
    have h1 := h r (by simp)
    have h2 : needN r.length ≤ 5 := by unfold needN; rw [if_neg (by omega)]; omega
    rw [used_cons]; simp; omega
theorem Live.fuse {N s l a b rs} (h : Live N s l a b rs) (n : Int) : Live N { s with fuse := n } l a b rs := ⟨h.secs, h.off, h.sure, h.holds, h.log⟩

set_option maxRecDepth 100000 in
set_option maxHeartbeats 16000000 in
theorem walCrashes_walk (v0 : Value) (ls : List (List Int)) (a1 : Option Addr) (len1 cap1 : Nat) (z1 : List Int) (v2 : Value) (ps : List (List Int)) (w : World) (h0 : Arg w.heap.size w v0 ls) (h1 : IsRow .i64 w a1 len1 cap1 z1) (h2 : Arg w.heap.size w v2 ps) :
    Calls Try.prog 8 #[v0, .slice a1 len1 cap1, v2] w fun e w' => e = .returned (.bool true) ∧ Below w.heap.size w w' := by
  obtain ⟨hps, a2, cap2, rfl, hpc⟩ := h2
  have hsh1 := IsRow_short h1
  obtain ⟨np, hnp⟩ : ∃ n, ps.length = n := ⟨_, rfl⟩
  rw [hnp] at hps hpc
  rw [hnp]
  have H0 := Lib.hid h0
  have H1 := Lib.hid h1
  have HP := Lib.hid hpc
  clear h0 h1 hpc hnp
  go_enter Try.func8, Try.ntmps8
  go_wp2_with fail
  refine (Disk.new_any 80 _).mono ?_
  rintro e w1 ⟨d, rfl, hdn, hf, hd1, b1⟩
  rw [show Disk.sizeOf 80 = 80 from rfl] at hd1 hdn
  have hfm := format_ok d (fresh 80) 2 80 w1 hd1 rfl rfl (by omega) (by omega) (by show 0 < _; decide)
  have HFM := Lib.hid hfm
  have HDN := Lib.hid hdn
  clear hfm hd1 hdn
  unfold Dk.ptr at *
  go_wp2_with fail
  refine HFM.out.mono ?_
  rintro e w2 ⟨rfl, t, hd2, hr2, hcal, hfu, hnow, c2⟩
  have b2 : Below w.heap.size w w2 := b1.trans (c2.below (fun k hk => hf.has hk) b1.size)
  have HD2 := Lib.hid hd2
  have HR2 := Lib.hid hr2
  have HC := Lib.hid (show t.calls = 2 from hcal)
  have HFU := Lib.hid hfu
  have B2 := Lib.hid b2
  clear hd2 hr2 hcal hfu hnow c2 HFM b1 b2
  go_wp2_with fail
  refine (small_any w.heap.size v0 ls _ (H0.out.below B2.out) B2.out.size).mono ?_
  rintro e w3 ⟨vr, rfl, hrec, b3⟩
  obtain ⟨hl20, hr300⟩ := small_ok ls
  obtain ⟨rows, hrows⟩ : ∃ rows, smallL ls = rows := ⟨_, rfl⟩
  rw [hrows] at hrec hl20 hr300
  have hout : OutR w w3 d vr rows 0 (.slice none 0 0) 0 := ⟨t, [], HD2.out.below b3, HR2.out, HFU.out, by rw [HC.out]; omega, ⟨hrec, recs_nil _ _, by omega, hl20, hr300, by simp, fun k _ e => by simp [Value.ownBlock] at e⟩, B2.out.trans (b3.mono B2.out.size)⟩
  have HOUT := Lib.hid hout
  clear hout hrec hrows hr300 b3 HD2 HR2 HC HFU B2 H0
  go_wp2_with fail
  go_loopw [8, 9, 11] (fun vs i rd u => ∃ k j : Nat, k ≤ 6 ∧ rd = .int .i64 k ∧ i = .int .i64 j ∧ OutR w u d vr rows k vs j) (fun _ _ rd _ => 6 - (intOf rd).toNat)
  case atStart => exact ⟨0, 0, by omega, rfl, rfl, HOUT.out⟩
  case round =>
    clear HOUT
    obtain ⟨rd, i, hrd, rfl, rfl, s, rs, hd, hrdy, hfu, hcal, htwo, hbel⟩ := hrel
    obtain ⟨aS, cS, rfl, _⟩ := htwo.sure.shape
    by_cases hgo : rd ≤ len1 ∧ rd < 6
    · obtain ⟨hg1, hg2⟩ := hgo
      have hd1 : decide ((rd : Int) ≤ (len1 : Int)) = true := by simpa using hg1
      have hd2 : (rd : Int) < 6 := by omega
      have hop := open_good d s 2 80 rs _ hd hrdy
      unfold Dk.ptr at hop
      have HOP := Lib.hid hop
      have HD := Lib.hid hd
      have HR := Lib.hid hrdy
      have HT := Lib.hid htwo
      have HB := Lib.hid hbel
      clear hop hd hrdy htwo hbel hfu
      go_wp2_with fail
      refine HOP.out.mono ?_
      rintro e w4 ⟨p, v4, rfl, ho⟩
      obtain ⟨hrun, hrec4⟩ := run_open HD.out hf HB.out HR.out ho
      have hT4 := HT.out.below ho.below
      obtain ⟨a4, c4, rfl, _⟩ := hrec4.shape
      have hsame := sameRows_any _ _ rs rs w4 hrec4.rows hT4.sure.rows
      rw [show decide (rs = rs) = true by simp] at hsame
      obtain ⟨nrs, hnrs⟩ : ∃ n, rs.length = n := ⟨_, rfl⟩
      rw [hnrs] at hsame
      rw [hnrs]
      have HS := Lib.hid hsame
      have HRUN := Lib.hid hrun
      have HT4 := Lib.hid hT4
      have HNR := Lib.hid hnrs
      clear hsame hrun hT4 hrec4 ho HOP HD HR HT HB hnrs
      go_wp2_with fail
      refine HS.out.mono ?_
      rintro e w5 ⟨rfl, b5⟩
      have hrun5 := HRUN.out.below b5
      have hin5 : InR w w5 d p vr rows (.slice aS nrs cS) i (10 + 3000 * rd) 0 := ⟨s, _, rs, hrun5, by omega, by rw [← HNR.out]; exact HT4.out.below b5⟩
      have HIN := Lib.hid hin5
      clear b5 hrun5 hin5 HS HRUN HT4 HNR hcal
      by_cases hfz : rd < len1
      focus
        have hfz' : (rd : Int) < (len1 : Int) := by omega
        obtain ⟨fb, fo, rfl, hfb, hfc⟩ := IsRow_at H1.out rd hfz
        obtain ⟨s, l, rs, hrun, hcal, htwo⟩ := HIN.out
        have c5 : w5.cell? ⟨fb, fo + rd, none⟩ = some (.int .i64 (z1.getD rd 0)) := by rw [hrun.bel.cell (by exact hfb)]; exact hfc
        obtain ⟨F, hF, hF40⟩ := modN (z1.getD rd 0) 40 (by omega) (by omega)
        rw [show ((40 : Nat) : Int) = 40 from rfl] at hF
        obtain ⟨zf, hzf⟩ : ∃ z, z1.getD rd 0 = z := ⟨_, rfl⟩
        rw [hzf] at c5 hF
        have hfu := Disk.fuse_any d s ((F : Int) + 1) w5 hrun.disk (by omega)
        unfold Dk.ptr at hfu
        have hr0 : (0 : Int) ≤ rd := by omega
        have HFU := Lib.hid hfu
        have HRUN := Lib.hid hrun
        have HT := Lib.hid htwo
        clear hfu hrun htwo hfc hzf HIN
        go_wp2_with fail
        try rw [hF]
        refine HFU.out.mono ?_
        rintro e w6 ⟨rfl, hd6, c6⟩
        have hcalm := disk_calm HRUN.out.disk hf
        have c6' : Blk.Chg d.Has w5 w6 := c6.mono fun k _ hk => .inl hk
        have hrun6 : Run w w6 d p { s with fuse := max ((F : Int) + 1) 0 } l 2 80 rs :=
          ⟨hd6, HRUN.out.log.chg c6' (HRUN.out.log.ne HRUN.out.disk), HRUN.out.live.fuse _, HRUN.out.dnew, HRUN.out.pnew, HRUN.out.bel.trans (c6'.below (fun k hk => hf.has hk) HRUN.out.bel.size)⟩
        have hin6 : InR w w6 d p vr rows (.slice aS nrs cS) i (10 + 3000 * rd) 0 := ⟨_, l, rs, hrun6, hcal, HT.out.chg c6' hcalm⟩
        have HIN := Lib.hid hin6
        clear hin6 hrun6 c6' c6 hd6 hcalm HFU HRUN HT hcal hF c5 hr0 hfz'
        generalize w6 = wA at *
      rotate_left
      focus
        have hfz' : ¬ ((rd : Int) < (len1 : Int)) := by omega
        generalize w5 = wA at *
      all_goals
        go_wp2_with fail
        go_loopw [8, 9, 15, 16, 17] (fun vs i un mb k u => ∃ kk j : Nat, kk ≤ 6 ∧ k = .int .i64 kk ∧ i = .int .i64 j ∧ un = .slice none 0 0 ∧ mb = .bool false ∧ InR w u d p vr rows vs j (10 + 3000 * rd) kk) (fun _ _ _ _ k _ => 6 - (intOf k).toNat)
        case atStart => exact ⟨0, i, by omega, rfl, rfl, rfl, rfl, HIN.out⟩
        case round =>
          clear HIN
          obtain ⟨k, j, hk, rfl, rfl, rfl, rfl, s, l, rs, hrun, hcal, htwo⟩ := hrel
          obtain ⟨sa, sc, rfl, _⟩ := htwo.sure.shape
          have hcnt := htwo.cnt
          have hfew := htwo.few
          have hjl := htwo.le
          by_cases hin : k < 6 ∧ j < rows.length
          · obtain ⟨hi1, hi2⟩ := hin
            have hk6 : (k : Int) < 6 := by omega
            obtain ⟨rg, rcap, ai, ci, rfl, hcell, hrow, hle, hnil, hblk, hel⟩ := htwo.todo.at j hi2
            have hlr := htwo.len hi2
            have hdj : decide ((j : Int) < (rows.length : Int)) = true := by simpa using hi2
            have hj0 : (0 : Int) ≤ j := by omega
            have hj1 : (j : Int) < (rows.length : Int) := by omega
            obtain ⟨r, hr⟩ : ∃ r, rows.getD j [] = r := ⟨_, rfl⟩
            rw [hr] at hcell hrow hle hblk hlr hel
            obtain ⟨m, hm⟩ : ∃ m, r.length = m := ⟨_, rfl⟩
            rw [hm] at hcell hrow hle hblk hlr hel
            obtain ⟨nrs2, hnrs2⟩ : ∃ n, rs.length = n := ⟨_, rfl⟩
            rw [hnrs2]
            rw [hnrs2] at hcnt
            have HNRS := Lib.hid hnrs2
            have HEL := Lib.hid hel
            have HM := Lib.hid hm
            have HT := Lib.hid htwo
            by_cases hfit : 2 + 1 + used rs + needN m ≤ 80
            · have hap := run_append hrun ai m ci r hrow hnil hle hblk (by omega) (by omega) hfit (by omega)
              have hcalm := hrun.calm
              have HAP := Lib.hid hap
              have HCALM := Lib.hid hcalm
              have HBR := Lib.hid hrun.bel
              clear hap hcalm hrow hle hnil hblk hel hm hr htwo hrun hfit hnrs2 hi2
              go_wp2_with fail
              refine HAP.out.mono ?_
              rintro e w7 ⟨hch, hcase⟩
              have hT7 := HT.out.chg hch HCALM.out
              have hE7 := HEL.out.chg hch HCALM.out
              have cell7 : w7.cell? ⟨rg, j, none⟩ = some (.slice ai m ci) := by
                have hnS : ¬ (rg = p ∨ d.Has rg) := fun hk => by
                  obtain ⟨_, _, cur, hc⟩ := HT.out.todo.block (b := rg) rfl
                  exact (HCALM.out rg hk).2.2 cur hc
                rw [World.cell?_of_block (hch.block rg (block_lt_of_cell hcell) hnS)]; exact hcell
              have HT7 := Lib.hid hT7
              have HE7 := Lib.hid hE7
              clear hT7 hE7 hch HT HEL HAP hcell HCALM
              rcases hcase with ⟨s', l', rfl, hg⟩ | ⟨s', rfl, hfell⟩
              · have hnl := needN_le r.length
                have bA : Below w7.heap.size w7 (w7.alloc (.cells #[.slice ai m ci] 25)) := (Below.refl _ _).alloc (Nat.le_refl _) _
                have hcl : (w7.alloc (.cells #[.slice ai m ci] 25)).cell? ((⟨w7.heap.size, 0, none⟩ : Addr).add 0) = some (.slice ai m ci) := by
                  rw [Addr.add_mid]; exact (Blk.Is.new w7 25 #[.slice ai m ci]).at rfl
                have RUN7 := Lib.hid (hg.run.below bA)
                have TA := Lib.hid (HT7.out.below bA)
                have EA := Lib.hid (HE7.out.below bA)
                have HCL := Lib.hid hcl
                have hcs : s'.calls ≤ 10 + 3000 * rd + 200 * (k + 1) := by rw [hg.calls]; omega
                have hBS := hg.run.bel.size
                have hBA : w.heap.size ≤ (w7.alloc (.cells #[.slice ai m ci] 25)).heap.size := by rw [World.size_alloc]; omega
                have S2 : Recs (w7.alloc (.cells #[.slice ai m ci] 25)) w.heap.size (.slice sa nrs2 sc) rs := by have := TA.out.sure; rw [HNRS.out] at this; exact this
                have HS2 := Lib.hid S2
                clear hg bA hcl HT7 HE7 HBR S2
                go_wp2_with (at_builtin; refine append_rec2 rfl (.tmp 88) (.tmp 94) rfl w.heap.size _ rs rfl HS2.out _ _ rfl _ r HCL.out EA.out ?_ ?_ ?_)
                · have := HNRS.out; omega
                · exact hBA
                intro v9 w9 r9 g9 k9
                have hrun9 := RUN7.out.grown HS2.out g9
                have hlt9 : rs.length < j + 1 := by rw [HNRS.out]; omega
                have hT9 := (TA.out.next (by omega)).push hlt9 r9 (by rw [HNRS.out]; exact g9) (by rw [HNRS.out]; exact fun q e => (k9 q e).elim (fun h => .inl h) (fun h => .inr (by simpa [World.size_alloc] using h)))
                have hnext : InR w w9 d p (.slice (some ⟨rg, 0, none⟩) rows.length rcap) rows v9 (j + 1) (10 + 3000 * rd) (k + 1) := ⟨s', l', _, hrun9, hcs, hT9⟩
                obtain ⟨a9, c9, rfl, _⟩ := r9.shape
                have HNX := Lib.hid hnext
                clear hnext hT9 hrun9 r9 g9 k9 RUN7 TA EA HCL HS2 hcs cell7
                go_wp2
                refine ⟨⟨k + 1, j + 1, by omega, by go_num, by go_num, rfl, rfl, HNX.out⟩, ?_⟩
                simp [intOf]; omega
              · have hcs : s'.calls ≤ 10 + 3000 * rd + 1600 := by have := hfell.calls; omega
                have HF := Lib.hid hfell
                clear hfell HBR
                by_cases hpk : rd < np
                · have hpk' : (rd : Int) < (np : Int) := by omega
                  obtain ⟨pb, po, rfl, hpb, hpat⟩ := HP.out (by omega)
                  obtain ⟨pai, pci, g1, g2, g3, g4, g5⟩ := hpat rd hpk
                  have hr0 : (0 : Int) ≤ rd := by omega
                  have cP1 : w7.cell? ⟨pb, po + rd, none⟩ = some (.slice pai (ps.getD rd []).length pci) := by rw [HF.out.bel.cell (by exact hpb)]; exact g1
                  have hcr := Disk.crash_any d s' pai (ps.getD rd []).length pci (ps.getD rd []) _ HF.out.disk (g2.keep (S := fun k => w.heap.size ≤ k) (Blk.Chg.ofBelow HF.out.bel fun k _ hk => hk) (fun hl b off e => by have h7 : b < w.heap.size := g5 hl _ e; show ¬ w.heap.size ≤ b; omega)) g3 (fun hl x e hk => by have h7 := g5 hl x e; have := hf.has hk; omega) g4
                  obtain ⟨hback, hfu8, hca8⟩ := cut_crash HF.out.cut (ps.getD rd [])
                  obtain ⟨t, ht⟩ : ∃ t, s'.crashed (ps.getD rd []) = t := ⟨_, rfl⟩
                  rw [ht] at hcr hback hfu8 hca8
                  unfold Dk.ptr at hcr
                  obtain ⟨pl, hpl⟩ : ∃ n, (ps.getD rd []).length = n := ⟨_, rfl⟩
                  rw [hpl] at cP1 hcr
                  clear hpl
                  have HCR := Lib.hid hcr
                  have HFU8 := Lib.hid hfu8
                  have HCA8 := Lib.hid hca8
                  have HBK := Lib.hid hback
                  clear hcr ht hback hfu8 hca8 g1 g2 g3 g4 g5 hpat
                  go_wp2_with fail
                  refine HCR.out.mono ?_
                  rintro e w8 ⟨rfl, hd8, c8⟩
                  have hT8 := HT7.out.chg c8 (disk_calm HF.out.disk hf)
                  have hE8 := HE7.out.chg c8 (disk_calm HF.out.disk hf)
                  have b8 := HF.out.bel.trans (c8.below (fun k hk => hf.has hk) HF.out.bel.size)
                  have HD8 := Lib.hid hd8
                  have HT8 := Lib.hid hT8
                  have HE8 := Lib.hid hE8
                  have B8 := Lib.hid b8
                  clear hd8 hT8 hE8 b8 c8 HCR HF HT7 HE7
                  rcases HBK.out with hrdy | hrdy
                  · have hop := open_good d t 2 80 rs w8 HD8.out hrdy
                    unfold Dk.ptr at hop
                    have HOP := Lib.hid hop
                    have HR := Lib.hid hrdy
                    clear hop hrdy HBK
                    go_wp2_with fail
                    refine HOP.out.mono ?_
                    rintro e w9 ⟨p9, v9, rfl, ho9⟩
                    have hT9 := HT8.out.below ho9.below
                    obtain ⟨a9, c9, rfl, _⟩ := ho9.recs.shape
                    have hsame := sameRows_any _ _ rs rs w9 ho9.recs.rows hT9.sure.rows
                    rw [show decide (rs = rs) = true by simp, HNRS.out] at hsame
                    rw [HNRS.out]
                    have HS := Lib.hid hsame
                    have HT9 := Lib.hid hT9
                    have HD9 := Lib.hid (HD8.out.below ho9.below)
                    have B9 := Lib.hid (B8.out.trans (ho9.below.mono B8.out.size))
                    have hne : ((nrs2 : Int) == (nrs2 : Int) + 1) = false := by simp; omega
                    clear hsame hT9 ho9 HOP HD8 HT8 B8 HE8
                    go_wp2_with fail
                    refine HS.out.mono ?_
                    rintro e wE ⟨rfl, bE⟩
                    have hnext : OutR w wE d (.slice (some ⟨rg, 0, none⟩) rows.length rcap) rows (rd + 1) (.slice sa nrs2 sc) (j + 1) :=
                      ⟨t, rs, HD9.out.below bE, HR.out, HFU8.out, by rw [HCA8.out]; omega, by rw [← HNRS.out]; exact (HT9.out.below bE).next (by omega), B9.out.trans (bE.mono B9.out.size)⟩
                    have HNX := Lib.hid hnext
                    clear hnext bE HS HT9 HD9 B9 HR hne
                    go_wp2
                    refine ⟨⟨rd + 1, j + 1, by omega, by go_num, by go_num, HNX.out⟩, ?_⟩
                    simp [intOf]; omega
                  · have hop := open_good d t 2 80 (rs ++ [r]) w8 HD8.out hrdy
                    unfold Dk.ptr at hop
                    have HOP := Lib.hid hop
                    have HR := Lib.hid hrdy
                    clear hop hrdy HBK
                    go_wp2_with fail
                    refine HOP.out.mono ?_
                    rintro e w9 ⟨p9, v9, rfl, ho9⟩
                    have hT9 := HT8.out.below ho9.below
                    have hE9 := HE8.out.below ho9.below
                    have hR9 := ho9.recs
                    obtain ⟨a9, c9, rfl, _⟩ := hR9.shape
                    have hln : (rs ++ [r]).length = nrs2 + 1 := by rw [List.length_append, HNRS.out]; rfl
                    rw [hln] at hR9
                    rw [hln]
                    have bA : Below w9.heap.size w9 (w9.alloc (.cells #[.slice ai m ci] 25)) := (Below.refl _ _).alloc (Nat.le_refl _) _
                    have hcl : (w9.alloc (.cells #[.slice ai m ci] 25)).cell? ((⟨w9.heap.size, 0, none⟩ : Addr).add 0) = some (.slice ai m ci) := by
                      rw [Addr.add_mid]; exact (Blk.Is.new w9 25 #[.slice ai m ci]).at rfl
                    have TA := Lib.hid (hT9.below bA)
                    have EA := Lib.hid (hE9.below bA)
                    have hRB9 := ho9.recsB w.heap.size B8.out.size
                    rw [hln] at hRB9
                    have RA := Lib.hid (hRB9.below bA)
                    have HCL := Lib.hid hcl
                    have DA := Lib.hid ((HD8.out.below ho9.below).below bA)
                    have b9 := B8.out.trans (ho9.below.mono B8.out.size)
                    have BA := Lib.hid (b9.trans (bA.mono b9.size))
                    have hBA := BA.out.size
                    have S2 : Recs (w9.alloc (.cells #[.slice ai m ci] 25)) w.heap.size (.slice sa nrs2 sc) rs := by have := TA.out.sure; rw [HNRS.out] at this; exact this
                    have HS2 := Lib.hid S2
                    have hrapart : ∀ k, (Value.slice sa nrs2 sc).ownBlock = some k → w8.heap.size ≤ k → False := fun k e hk => by
                      have := HT8.out.sure
                      rw [HNRS.out] at this
                      have := (this.block e).2.1
                      omega
                    have HR9 := Lib.hid hR9
                    have HRA := Lib.hid hrapart
                    have hee : (((nrs2 : Int) + 1) == (nrs2 : Int) + 1) = true := by simp
                    have hcast : (((nrs2 + 1 : Nat)) : Int) = (nrs2 : Int) + 1 := by omega
                    clear hT9 hE9 hR9 hRB9 ho9 bA hcl b9 HOP HD8 HT8 B8 HE8 S2 hrapart hln
                    go_wp2_with (at_builtin; refine append_rec2 rfl (.tmp 133) (.tmp 135) rfl w.heap.size _ rs rfl HS2.out _ _ rfl _ r HCL.out EA.out ?_ ?_ ?_)
                    · have := HNRS.out; omega
                    · exact hBA
                    intro vA wB rB gB kB
                    have hTB := (TA.out.next (by omega)).push (by rw [HNRS.out]; omega) rB (by rw [HNRS.out]; exact gB) (by rw [HNRS.out]; exact fun q e => (kB q e).elim (fun h => .inl h) (fun h => .inr (by simpa [World.size_alloc] using h)))
                    have hDB := at_grown DA.out HS2.out gB
                    have hBB := recs_below BA.out HS2.out hBA gB
                    have hRB : Rows wB (.slice a9 (nrs2 + 1) c9) (rs ++ [r]) := (recs_other RA.out HS2.out (fun k e1 e2 => HRA.out k e2 (HR9.out.block e1).1) gB).rows
                    obtain ⟨aB, cB, rfl, _⟩ := rB.shape
                    have hsame := sameRows_any _ _ _ _ wB hRB rB.rows
                    rw [show decide (rs ++ [r] = rs ++ [r]) = true by simp, show (rs ++ [r]).length = nrs2 + 1 by rw [List.length_append, HNRS.out]; rfl] at hsame
                    rw [show (rs ++ [r]).length = nrs2 + 1 by rw [List.length_append, HNRS.out]; rfl] at hTB
                    rw [show (rs ++ [r]).length = nrs2 + 1 by rw [List.length_append, HNRS.out]; rfl]
                    have HS := Lib.hid hsame
                    have HTB := Lib.hid hTB
                    have HDB := Lib.hid hDB
                    have HBB := Lib.hid hBB
                    clear hsame hTB hDB hBB hRB rB gB kB TA EA RA HCL DA BA HS2 HR9 HRA hee hcast hBA
                    go_wp2_with fail
                    refine HS.out.mono ?_
                    rintro e wE ⟨rfl, bE⟩
                    have hnext : OutR w wE d (.slice (some ⟨rg, 0, none⟩) rows.length rcap) rows (rd + 1) (.slice aB (nrs2 + 1) cB) (j + 1) :=
                      ⟨t, rs ++ [r], HDB.out.below bE, HR.out, HFU8.out, by rw [HCA8.out]; omega, HTB.out.below bE, HBB.out.trans (bE.mono HBB.out.size)⟩
                    have HNX := Lib.hid hnext
                    clear hnext bE HS HTB HDB HBB HR
                    go_wp2
                    refine ⟨⟨rd + 1, j + 1, by omega, by go_num, by go_num, HNX.out⟩, ?_⟩
                    simp [intOf]; omega

                · have hpk' : ¬ ((rd : Int) < (np : Int)) := by omega
                  have hcr := Disk.crash_any d s' none 0 0 [] _ HF.out.disk (Row.nil _) (Nat.le_refl _) (by intro h; omega) (by intro _; rfl)
                  obtain ⟨hback, hfu8, hca8⟩ := cut_crash HF.out.cut []
                  obtain ⟨t, ht⟩ : ∃ t, s'.crashed [] = t := ⟨_, rfl⟩
                  rw [ht] at hcr hback hfu8 hca8
                  unfold Dk.ptr at hcr
                  have HCR := Lib.hid hcr
                  have HFU8 := Lib.hid hfu8
                  have HCA8 := Lib.hid hca8
                  have HBK := Lib.hid hback
                  clear hcr ht hback hfu8 hca8
                  go_wp2_with fail
                  refine HCR.out.mono ?_
                  rintro e w8 ⟨rfl, hd8, c8⟩
                  have hT8 := HT7.out.chg c8 (disk_calm HF.out.disk hf)
                  have hE8 := HE7.out.chg c8 (disk_calm HF.out.disk hf)
                  have b8 := HF.out.bel.trans (c8.below (fun k hk => hf.has hk) HF.out.bel.size)
                  have HD8 := Lib.hid hd8
                  have HT8 := Lib.hid hT8
                  have HE8 := Lib.hid hE8
                  have B8 := Lib.hid b8
                  clear hd8 hT8 hE8 b8 c8 HCR HF HT7 HE7
                  rcases HBK.out with hrdy | hrdy
                  · have hop := open_good d t 2 80 rs w8 HD8.out hrdy
                    unfold Dk.ptr at hop
                    have HOP := Lib.hid hop
                    have HR := Lib.hid hrdy
                    clear hop hrdy HBK
                    go_wp2_with fail
                    refine HOP.out.mono ?_
                    rintro e w9 ⟨p9, v9, rfl, ho9⟩
                    have hT9 := HT8.out.below ho9.below
                    obtain ⟨a9, c9, rfl, _⟩ := ho9.recs.shape
                    have hsame := sameRows_any _ _ rs rs w9 ho9.recs.rows hT9.sure.rows
                    rw [show decide (rs = rs) = true by simp, HNRS.out] at hsame
                    rw [HNRS.out]
                    have HS := Lib.hid hsame
                    have HT9 := Lib.hid hT9
                    have HD9 := Lib.hid (HD8.out.below ho9.below)
                    have B9 := Lib.hid (B8.out.trans (ho9.below.mono B8.out.size))
                    have hne : ((nrs2 : Int) == (nrs2 : Int) + 1) = false := by simp; omega
                    clear hsame hT9 ho9 HOP HD8 HT8 B8 HE8
                    go_wp2_with fail
                    refine HS.out.mono ?_
                    rintro e wE ⟨rfl, bE⟩
                    have hnext : OutR w wE d (.slice (some ⟨rg, 0, none⟩) rows.length rcap) rows (rd + 1) (.slice sa nrs2 sc) (j + 1) :=
                      ⟨t, rs, HD9.out.below bE, HR.out, HFU8.out, by rw [HCA8.out]; omega, by rw [← HNRS.out]; exact (HT9.out.below bE).next (by omega), B9.out.trans (bE.mono B9.out.size)⟩
                    have HNX := Lib.hid hnext
                    clear hnext bE HS HT9 HD9 B9 HR hne
                    go_wp2
                    refine ⟨⟨rd + 1, j + 1, by omega, by go_num, by go_num, HNX.out⟩, ?_⟩
                    simp [intOf]; omega
                  · have hop := open_good d t 2 80 (rs ++ [r]) w8 HD8.out hrdy
                    unfold Dk.ptr at hop
                    have HOP := Lib.hid hop
                    have HR := Lib.hid hrdy
                    clear hop hrdy HBK
                    go_wp2_with fail
                    refine HOP.out.mono ?_
                    rintro e w9 ⟨p9, v9, rfl, ho9⟩
                    have hT9 := HT8.out.below ho9.below
                    have hE9 := HE8.out.below ho9.below
                    have hR9 := ho9.recs
                    obtain ⟨a9, c9, rfl, _⟩ := hR9.shape
                    have hln : (rs ++ [r]).length = nrs2 + 1 := by rw [List.length_append, HNRS.out]; rfl
                    rw [hln] at hR9
                    rw [hln]
                    have bA : Below w9.heap.size w9 (w9.alloc (.cells #[.slice ai m ci] 25)) := (Below.refl _ _).alloc (Nat.le_refl _) _
                    have hcl : (w9.alloc (.cells #[.slice ai m ci] 25)).cell? ((⟨w9.heap.size, 0, none⟩ : Addr).add 0) = some (.slice ai m ci) := by
                      rw [Addr.add_mid]; exact (Blk.Is.new w9 25 #[.slice ai m ci]).at rfl
                    have TA := Lib.hid (hT9.below bA)
                    have EA := Lib.hid (hE9.below bA)
                    have hRB9 := ho9.recsB w.heap.size B8.out.size
                    rw [hln] at hRB9
                    have RA := Lib.hid (hRB9.below bA)
                    have HCL := Lib.hid hcl
                    have DA := Lib.hid ((HD8.out.below ho9.below).below bA)
                    have b9 := B8.out.trans (ho9.below.mono B8.out.size)
                    have BA := Lib.hid (b9.trans (bA.mono b9.size))
                    have hBA := BA.out.size
                    have S2 : Recs (w9.alloc (.cells #[.slice ai m ci] 25)) w.heap.size (.slice sa nrs2 sc) rs := by have := TA.out.sure; rw [HNRS.out] at this; exact this
                    have HS2 := Lib.hid S2
                    have hrapart : ∀ k, (Value.slice sa nrs2 sc).ownBlock = some k → w8.heap.size ≤ k → False := fun k e hk => by
                      have := HT8.out.sure
                      rw [HNRS.out] at this
                      have := (this.block e).2.1
                      omega
                    have HR9 := Lib.hid hR9
                    have HRA := Lib.hid hrapart
                    have hee : (((nrs2 : Int) + 1) == (nrs2 : Int) + 1) = true := by simp
                    have hcast : (((nrs2 + 1 : Nat)) : Int) = (nrs2 : Int) + 1 := by omega
                    clear hT9 hE9 hR9 hRB9 ho9 bA hcl b9 HOP HD8 HT8 B8 HE8 S2 hrapart hln
                    go_wp2_with (at_builtin; refine append_rec2 rfl (.tmp 133) (.tmp 135) rfl w.heap.size _ rs rfl HS2.out _ _ rfl _ r HCL.out EA.out ?_ ?_ ?_)
                    · have := HNRS.out; omega
                    · exact hBA
                    intro vA wB rB gB kB
                    have hTB := (TA.out.next (by omega)).push (by rw [HNRS.out]; omega) rB (by rw [HNRS.out]; exact gB) (by rw [HNRS.out]; exact fun q e => (kB q e).elim (fun h => .inl h) (fun h => .inr (by simpa [World.size_alloc] using h)))
                    have hDB := at_grown DA.out HS2.out gB
                    have hBB := recs_below BA.out HS2.out hBA gB
                    have hRB : Rows wB (.slice a9 (nrs2 + 1) c9) (rs ++ [r]) := (recs_other RA.out HS2.out (fun k e1 e2 => HRA.out k e2 (HR9.out.block e1).1) gB).rows
                    obtain ⟨aB, cB, rfl, _⟩ := rB.shape
                    have hsame := sameRows_any _ _ _ _ wB hRB rB.rows
                    rw [show decide (rs ++ [r] = rs ++ [r]) = true by simp, show (rs ++ [r]).length = nrs2 + 1 by rw [List.length_append, HNRS.out]; rfl] at hsame
                    rw [show (rs ++ [r]).length = nrs2 + 1 by rw [List.length_append, HNRS.out]; rfl] at hTB
                    rw [show (rs ++ [r]).length = nrs2 + 1 by rw [List.length_append, HNRS.out]; rfl]
                    have HS := Lib.hid hsame
                    have HTB := Lib.hid hTB
                    have HDB := Lib.hid hDB
                    have HBB := Lib.hid hBB
                    clear hsame hTB hDB hBB hRB rB gB kB TA EA RA HCL DA BA HS2 HR9 HRA hee hcast hBA
                    go_wp2_with fail
                    refine HS.out.mono ?_
                    rintro e wE ⟨rfl, bE⟩
                    have hnext : OutR w wE d (.slice (some ⟨rg, 0, none⟩) rows.length rcap) rows (rd + 1) (.slice aB (nrs2 + 1) cB) (j + 1) :=
                      ⟨t, rs ++ [r], HDB.out.below bE, HR.out, HFU8.out, by rw [HCA8.out]; omega, HTB.out.below bE, HBB.out.trans (bE.mono HBB.out.size)⟩
                    have HNX := Lib.hid hnext
                    clear hnext bE HS HTB HDB HBB HR
                    go_wp2
                    refine ⟨⟨rd + 1, j + 1, by omega, by go_num, by go_num, HNX.out⟩, ?_⟩
                    simp [intOf]; omega


            · have hap := run_room hrun ai m ci (by omega) (.inr (by omega))
              have HAP := Lib.hid hap
              have HRUN := Lib.hid hrun
              clear hap hrow hle hnil hblk hel hm hr htwo hrun hfit hnrs2 hi2 HEL
              go_wp2_with fail
              refine HAP.out.mono ?_
              rintro e w7 ⟨rfl, b7⟩
              have hnext : InR w w7 d p (.slice (some ⟨rg, 0, none⟩) rows.length rcap) rows (.slice sa nrs2 sc) (j + 1) (10 + 3000 * rd) (k + 1) :=
                ⟨s, l, rs, HRUN.out.below b7, by omega, by rw [← HNRS.out]; exact (HT.out.below b7).next (by omega)⟩
              have HNX := Lib.hid hnext
              clear hnext b7 HAP HRUN HT hcell
              go_wp2
              refine ⟨⟨k + 1, j + 1, by omega, by go_num, by go_num, rfl, rfl, HNX.out⟩, ?_⟩
              simp [intOf]; omega
          · obtain ⟨ra, rc, rfl, _⟩ := htwo.todo.shape
            obtain ⟨nrs2, hnrs2⟩ : ∃ n, rs.length = n := ⟨_, rfl⟩
            rw [hnrs2]
            rw [hnrs2] at hcnt
            have HNRS := Lib.hid hnrs2
            have HT := Lib.hid htwo
            have HRUN := Lib.hid hrun
            have hcs : s.calls ≤ 10 + 3000 * rd + 1600 := by omega
            clear htwo hrun hnrs2
            have hexit : (k < 6 ∧ j = rows.length) ∨ k = 6 := by omega
            rcases hexit with ⟨hk6, hjr⟩ | rfl
            · have hk6' : (k : Int) < 6 := by omega
              have hdj : decide ((j : Int) < (rows.length : Int)) = false := by simp; omega
              clear hjr
              by_cases hpk : rd < np
              · have hpk' : (rd : Int) < (np : Int) := by omega
                obtain ⟨pb, po, rfl, hpb, hpat⟩ := HP.out (by omega)
                obtain ⟨pai, pci, g1, g2, g3, g4, g5⟩ := hpat rd hpk
                have hr0 : (0 : Int) ≤ rd := by omega
                have cP : ∀ u, Below w.heap.size w u → u.cell? ⟨pb, po + rd, none⟩ = some (.slice pai (ps.getD rd []).length pci) := fun u hu => by rw [hu.cell (by exact hpb)]; exact g1
                have cP1 := cP _ HRUN.out.bel
                have hcr := Disk.crash_any d s pai (ps.getD rd []).length pci (ps.getD rd []) _ HRUN.out.disk (g2.keep (S := fun k => w.heap.size ≤ k) (Blk.Chg.ofBelow HRUN.out.bel fun k _ hk => hk) (fun hl b off e => by have h7 : b < w.heap.size := g5 hl _ e; show ¬ w.heap.size ≤ b; omega)) g3 (fun hl x e hk => by have h7 := g5 hl x e; have := hf.has hk; omega) g4
                have hlc := live_crash HRUN.out.live (ps.getD rd [])
                obtain ⟨t, ht⟩ : ∃ t, s.crashed (ps.getD rd []) = t := ⟨_, rfl⟩
                rw [ht] at hcr hlc
                unfold Dk.ptr at hcr
                obtain ⟨pl, hpl⟩ : ∃ n, (ps.getD rd []).length = n := ⟨_, rfl⟩
                rw [hpl] at cP1 hcr
                clear hpl
                have HCR := Lib.hid hcr
                have HLC := Lib.hid hlc
                clear hcr hlc ht g1 g2 g3 g4 g5 hpat cP
                go_wp2_with fail
                refine HCR.out.mono ?_
                rintro e w8 ⟨rfl, hd8, c8⟩
                have hT8 := HT.out.chg c8 (disk_calm HRUN.out.disk hf)
                have b8 := HRUN.out.bel.trans (c8.below (fun k hk => hf.has hk) HRUN.out.bel.size)
                have hop := open_good d t 2 80 rs w8 hd8 HLC.out.1
                unfold Dk.ptr at hop
                have HOP := Lib.hid hop
                have HD8 := Lib.hid hd8
                have HT8 := Lib.hid hT8
                have B8 := Lib.hid b8
                clear hop hd8 hT8 b8 c8 HCR HRUN HT
                go_wp2_with fail
                refine HOP.out.mono ?_
                rintro e w9 ⟨p9, v9, rfl, ho9⟩
                have hT9 := HT8.out.below ho9.below
                obtain ⟨a9, c9, rfl, _⟩ := ho9.recs.shape
                have hsame := sameRows_any _ _ rs rs w9 ho9.recs.rows hT9.sure.rows
                rw [show decide (rs = rs) = true by simp, HNRS.out] at hsame
                rw [HNRS.out]
                have HS := Lib.hid hsame
                have HT9 := Lib.hid hT9
                have HD9 := Lib.hid (HD8.out.below ho9.below)
                have B9 := Lib.hid (B8.out.trans (ho9.below.mono B8.out.size))
                clear hsame hT9 ho9 HOP HD8 HT8 B8
                go_wp2_with fail
                refine HS.out.mono ?_
                rintro e wE ⟨rfl, bE⟩
                have hnext : OutR w wE d (.slice ra rows.length rc) rows (rd + 1) (.slice sa nrs2 sc) j :=
                  ⟨t, rs, HD9.out.below bE, HLC.out.1, HLC.out.2.1, by rw [HLC.out.2.2]; omega, by rw [← HNRS.out]; exact HT9.out.below bE, B9.out.trans (bE.mono B9.out.size)⟩
                have HNX := Lib.hid hnext
                clear hnext bE HS HT9 HD9 B9 HLC
                go_wp2
                refine ⟨⟨rd + 1, j, by omega, by go_num, by go_num, HNX.out⟩, ?_⟩
                simp [intOf]; omega

              · have hpk' : ¬ ((rd : Int) < (np : Int)) := by omega
                have hcr := Disk.crash_any d s none 0 0 [] _ HRUN.out.disk (Row.nil _) (Nat.le_refl _) (by intro h; omega) (by intro _; rfl)
                have hlc := live_crash HRUN.out.live []
                obtain ⟨t, ht⟩ : ∃ t, s.crashed [] = t := ⟨_, rfl⟩
                rw [ht] at hcr hlc
                unfold Dk.ptr at hcr
                have HCR := Lib.hid hcr
                have HLC := Lib.hid hlc
                clear hcr hlc ht
                go_wp2_with fail
                refine HCR.out.mono ?_
                rintro e w8 ⟨rfl, hd8, c8⟩
                have hT8 := HT.out.chg c8 (disk_calm HRUN.out.disk hf)
                have b8 := HRUN.out.bel.trans (c8.below (fun k hk => hf.has hk) HRUN.out.bel.size)
                have hop := open_good d t 2 80 rs w8 hd8 HLC.out.1
                unfold Dk.ptr at hop
                have HOP := Lib.hid hop
                have HD8 := Lib.hid hd8
                have HT8 := Lib.hid hT8
                have B8 := Lib.hid b8
                clear hop hd8 hT8 b8 c8 HCR HRUN HT
                go_wp2_with fail
                refine HOP.out.mono ?_
                rintro e w9 ⟨p9, v9, rfl, ho9⟩
                have hT9 := HT8.out.below ho9.below
                obtain ⟨a9, c9, rfl, _⟩ := ho9.recs.shape
                have hsame := sameRows_any _ _ rs rs w9 ho9.recs.rows hT9.sure.rows
                rw [show decide (rs = rs) = true by simp, HNRS.out] at hsame
                rw [HNRS.out]
                have HS := Lib.hid hsame
                have HT9 := Lib.hid hT9
                have HD9 := Lib.hid (HD8.out.below ho9.below)
                have B9 := Lib.hid (B8.out.trans (ho9.below.mono B8.out.size))
                clear hsame hT9 ho9 HOP HD8 HT8 B8
                go_wp2_with fail
                refine HS.out.mono ?_
                rintro e wE ⟨rfl, bE⟩
                have hnext : OutR w wE d (.slice ra rows.length rc) rows (rd + 1) (.slice sa nrs2 sc) j :=
                  ⟨t, rs, HD9.out.below bE, HLC.out.1, HLC.out.2.1, by rw [HLC.out.2.2]; omega, by rw [← HNRS.out]; exact HT9.out.below bE, B9.out.trans (bE.mono B9.out.size)⟩
                have HNX := Lib.hid hnext
                clear hnext bE HS HT9 HD9 B9 HLC
                go_wp2
                refine ⟨⟨rd + 1, j, by omega, by go_num, by go_num, HNX.out⟩, ?_⟩
                simp [intOf]; omega


            · have hk6' : ¬ (((6 : Nat) : Int) < 6) := by omega
              by_cases hpk : rd < np
              · have hpk' : (rd : Int) < (np : Int) := by omega
                obtain ⟨pb, po, rfl, hpb, hpat⟩ := HP.out (by omega)
                obtain ⟨pai, pci, g1, g2, g3, g4, g5⟩ := hpat rd hpk
                have hr0 : (0 : Int) ≤ rd := by omega
                have cP : ∀ u, Below w.heap.size w u → u.cell? ⟨pb, po + rd, none⟩ = some (.slice pai (ps.getD rd []).length pci) := fun u hu => by rw [hu.cell (by exact hpb)]; exact g1
                have cP1 := cP _ HRUN.out.bel
                have hcr := Disk.crash_any d s pai (ps.getD rd []).length pci (ps.getD rd []) _ HRUN.out.disk (g2.keep (S := fun k => w.heap.size ≤ k) (Blk.Chg.ofBelow HRUN.out.bel fun k _ hk => hk) (fun hl b off e => by have h7 : b < w.heap.size := g5 hl _ e; show ¬ w.heap.size ≤ b; omega)) g3 (fun hl x e hk => by have h7 := g5 hl x e; have := hf.has hk; omega) g4
                have hlc := live_crash HRUN.out.live (ps.getD rd [])
                obtain ⟨t, ht⟩ : ∃ t, s.crashed (ps.getD rd []) = t := ⟨_, rfl⟩
                rw [ht] at hcr hlc
                unfold Dk.ptr at hcr
                obtain ⟨pl, hpl⟩ : ∃ n, (ps.getD rd []).length = n := ⟨_, rfl⟩
                rw [hpl] at cP1 hcr
                clear hpl
                have HCR := Lib.hid hcr
                have HLC := Lib.hid hlc
                clear hcr hlc ht g1 g2 g3 g4 g5 hpat cP
                go_wp2_with fail
                refine HCR.out.mono ?_
                rintro e w8 ⟨rfl, hd8, c8⟩
                have hT8 := HT.out.chg c8 (disk_calm HRUN.out.disk hf)
                have b8 := HRUN.out.bel.trans (c8.below (fun k hk => hf.has hk) HRUN.out.bel.size)
                have hop := open_good d t 2 80 rs w8 hd8 HLC.out.1
                unfold Dk.ptr at hop
                have HOP := Lib.hid hop
                have HD8 := Lib.hid hd8
                have HT8 := Lib.hid hT8
                have B8 := Lib.hid b8
                clear hop hd8 hT8 b8 c8 HCR HRUN HT
                go_wp2_with fail
                refine HOP.out.mono ?_
                rintro e w9 ⟨p9, v9, rfl, ho9⟩
                have hT9 := HT8.out.below ho9.below
                obtain ⟨a9, c9, rfl, _⟩ := ho9.recs.shape
                have hsame := sameRows_any _ _ rs rs w9 ho9.recs.rows hT9.sure.rows
                rw [show decide (rs = rs) = true by simp, HNRS.out] at hsame
                rw [HNRS.out]
                have HS := Lib.hid hsame
                have HT9 := Lib.hid hT9
                have HD9 := Lib.hid (HD8.out.below ho9.below)
                have B9 := Lib.hid (B8.out.trans (ho9.below.mono B8.out.size))
                clear hsame hT9 ho9 HOP HD8 HT8 B8
                go_wp2_with fail
                refine HS.out.mono ?_
                rintro e wE ⟨rfl, bE⟩
                have hnext : OutR w wE d (.slice ra rows.length rc) rows (rd + 1) (.slice sa nrs2 sc) j :=
                  ⟨t, rs, HD9.out.below bE, HLC.out.1, HLC.out.2.1, by rw [HLC.out.2.2]; omega, by rw [← HNRS.out]; exact HT9.out.below bE, B9.out.trans (bE.mono B9.out.size)⟩
                have HNX := Lib.hid hnext
                clear hnext bE HS HT9 HD9 B9 HLC
                go_wp2
                refine ⟨⟨rd + 1, j, by omega, by go_num, by go_num, HNX.out⟩, ?_⟩
                simp [intOf]; omega

              · have hpk' : ¬ ((rd : Int) < (np : Int)) := by omega
                have hcr := Disk.crash_any d s none 0 0 [] _ HRUN.out.disk (Row.nil _) (Nat.le_refl _) (by intro h; omega) (by intro _; rfl)
                have hlc := live_crash HRUN.out.live []
                obtain ⟨t, ht⟩ : ∃ t, s.crashed [] = t := ⟨_, rfl⟩
                rw [ht] at hcr hlc
                unfold Dk.ptr at hcr
                have HCR := Lib.hid hcr
                have HLC := Lib.hid hlc
                clear hcr hlc ht
                go_wp2_with fail
                refine HCR.out.mono ?_
                rintro e w8 ⟨rfl, hd8, c8⟩
                have hT8 := HT.out.chg c8 (disk_calm HRUN.out.disk hf)
                have b8 := HRUN.out.bel.trans (c8.below (fun k hk => hf.has hk) HRUN.out.bel.size)
                have hop := open_good d t 2 80 rs w8 hd8 HLC.out.1
                unfold Dk.ptr at hop
                have HOP := Lib.hid hop
                have HD8 := Lib.hid hd8
                have HT8 := Lib.hid hT8
                have B8 := Lib.hid b8
                clear hop hd8 hT8 b8 c8 HCR HRUN HT
                go_wp2_with fail
                refine HOP.out.mono ?_
                rintro e w9 ⟨p9, v9, rfl, ho9⟩
                have hT9 := HT8.out.below ho9.below
                obtain ⟨a9, c9, rfl, _⟩ := ho9.recs.shape
                have hsame := sameRows_any _ _ rs rs w9 ho9.recs.rows hT9.sure.rows
                rw [show decide (rs = rs) = true by simp, HNRS.out] at hsame
                rw [HNRS.out]
                have HS := Lib.hid hsame
                have HT9 := Lib.hid hT9
                have HD9 := Lib.hid (HD8.out.below ho9.below)
                have B9 := Lib.hid (B8.out.trans (ho9.below.mono B8.out.size))
                clear hsame hT9 ho9 HOP HD8 HT8 B8
                go_wp2_with fail
                refine HS.out.mono ?_
                rintro e wE ⟨rfl, bE⟩
                have hnext : OutR w wE d (.slice ra rows.length rc) rows (rd + 1) (.slice sa nrs2 sc) j :=
                  ⟨t, rs, HD9.out.below bE, HLC.out.1, HLC.out.2.1, by rw [HLC.out.2.2]; omega, by rw [← HNRS.out]; exact HT9.out.below bE, B9.out.trans (bE.mono B9.out.size)⟩
                have HNX := Lib.hid hnext
                clear hnext bE HS HT9 HD9 B9 HLC
                go_wp2
                refine ⟨⟨rd + 1, j, by omega, by go_num, by go_num, HNX.out⟩, ?_⟩
                simp [intOf]; omega


    · have hB := Lib.hid hbel
      clear hd hrdy htwo hbel hfu
      have hexit : ¬ (rd ≤ len1) ∨ (rd ≤ len1 ∧ rd = 6) := by omega
      rcases hexit with hno | ⟨hg1, rfl⟩
      · have hd1 : decide ((rd : Int) ≤ (len1 : Int)) = false := by simp; omega
        go_wp2_with fail
        refine (awake_any _).mono ?_
        rintro e wA ⟨rfl, bA⟩
        go_wp2
        go_ret
        exact ⟨rfl, hB.out.trans (bA.mono hB.out.size)⟩
      · have hd1 : decide (((6 : Nat) : Int) ≤ (len1 : Int)) = true := by simp; omega
        go_wp2_with fail
        refine (awake_any _).mono ?_
        rintro e wA ⟨rfl, bA⟩
        go_wp2
        go_ret
        exact ⟨rfl, hB.out.trans (bA.mono hB.out.size)⟩
end Wal
end Go.Proofs.Ytfccoggdpogekaa

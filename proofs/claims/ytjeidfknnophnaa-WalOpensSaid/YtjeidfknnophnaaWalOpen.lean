/-
The contracts of Format and Open.
-/
import Derived.Test.YtjeidfknnophnaaWalNext
import Derived.Test.YtjeidfknnophnaaWalRecs
import Derived.Lib.QuietBelow
namespace Go.Proofs.Ytjeidfknnophnaa
open Go.RowKit
set_option linter.unusedVariables false
namespace Wal
open Disk (Dk St Sec Secs)

theorem At_notBytes {w d s b cs} (h : Disk.At w d s) (k : Blk.Is w b 5 cs) : ¬ d.Has b := by
  obtain ⟨c1, h1, _⟩ := h.now.lies
  obtain ⟨c2, h2, _⟩ := h.sure.lies
  rintro (rfl | rfl | rfl)
  · exact h.obj.ne k (by decide) rfl
  · exact h1.ne k (by decide) rfl
  · exact h2.ne k (by decide) rfl
theorem format_no (d : Dk) (s : St) (a b : Int) (w : World) (h : Disk.At w d s) (hn : isArea d.n a b = false) :
    Calls Try.prog 20 #[d.ptr, .int .i64 a, .int .i64 b] w fun e w' => e = .returned (.int .i64 1) ∧ w = w' := by
  have hA := isArea_any d s a b w h
  rw [hn] at hA
  have HA := Lib.hid hA
  clear hA h hn
  unfold Dk.ptr at *
  go_enter Try.func20, Try.ntmps20
  go_wp2_with fail
  refine HA.out.mono ?_
  rintro e w' ⟨rfl, rfl⟩
  go_wp2
  go_ret
  exact ⟨rfl, rfl⟩
theorem nilFormat_any (a b : Int) (w : World) :
    Calls Try.prog 20 #[.pointer none, .int .i64 a, .int .i64 b] w fun e w' => e = .returned (.int .i64 1) ∧ w = w' := by
  go_enter Try.func20, Try.ntmps20
  go_wp2_with fail
  refine (nilArea_any _ _ _).mono ?_
  rintro e w' ⟨rfl, rfl⟩
  go_wp2
  go_ret
  exact ⟨rfl, rfl⟩
theorem nilOpen_any (a b : Int) (w : World) :
    Calls Try.prog 19 #[.pointer none, .int .i64 a, .int .i64 b] w fun e w' => e = .returned (.tuple #[.pointer none, .slice none 0 0, .int .i64 1]) ∧ w = w' := by
  go_enter Try.func19, Try.ntmps19
  go_wp2_with fail
  refine (nilArea_any _ _ _).mono ?_
  rintro e w' ⟨rfl, rfl⟩
  go_wp2
  go_ret3
  exact ⟨rfl, rfl⟩
theorem open_no (d : Dk) (s : St) (a b : Int) (w : World) (h : Disk.At w d s) (hn : isArea d.n a b = false) :
    Calls Try.prog 19 #[d.ptr, .int .i64 a, .int .i64 b] w fun e w' => e = .returned (.tuple #[.pointer none, .slice none 0 0, .int .i64 1]) ∧ w = w' := by
  have hA := isArea_any d s a b w h
  rw [hn] at hA
  have HA := Lib.hid hA
  clear hA h hn
  unfold Dk.ptr at *
  go_enter Try.func19, Try.ntmps19
  go_wp2_with fail
  refine HA.out.mono ?_
  rintro e w' ⟨rfl, rfl⟩
  go_wp2
  go_ret3
  exact ⟨rfl, rfl⟩
theorem format_yes (d : Dk) (s : St) (a b : Nat) (w : World) (h : Disk.At w d s) (h1 : a < b) (h2 : b ≤ d.n) (hc : s.calls < 4611686018427387000) :
    Calls Try.prog 20 #[d.ptr, .int .i64 a, .int .i64 b] w fun e w' => e = .returned (.int .i64 (wsure s a Disk.zero 1).2) ∧ Disk.At w' d (wsure s a Disk.zero 1).1 ∧ Blk.Chg d.Has w w' := by
  obtain ⟨z, hmk, hz⟩ : ∃ z, (∀ w : World, (Instr.makeSlice 25 (.int .i64 64) (.int .i64 64)).run Try.prog w = .ok (.slice (some ⟨w.heap.size, 0, none⟩) 64 64) (w.alloc (.cells z 5))) ∧ z = (bcells Disk.zero).toArray := ⟨_, Disk.run_make_bytes, rfl⟩
  have hf := h.now.few
  have hA := isArea_any d s a b w h
  have hn : isArea d.n a b = true := by simp [isArea, h1, h2]
  rw [hn] at hA
  have hb : Below w.heap.size w (w.alloc (.cells z 5)) := (Below.refl _ _).alloc (Nat.le_refl _) _
  have hk := Blk.Is.new w 5 z
  have hd := h.below hb
  have hr : Row (w.alloc (.cells z 5)) (some ⟨w.heap.size, 0, none⟩) (64 * 1) Disk.zero := by
    refine Row.ofIs hk 0 _ _ Disk.zero_sec.len (by omega) Disk.zero_sec.byt fun j hj => ?_
    have := bcells_at Disk.zero j (by rw [Disk.zero_sec.len]; exact hj)
    rw [hz, Nat.zero_add]; simpa using this
  have hw := writeSure_any d s a 1 (some ⟨w.heap.size, 0, none⟩) 64 Disk.zero _ hd hr (fun _ x e => by cases e; exact At_notBytes hd hk) (Nat.le_refl _) (by omega) (by omega)
  rw [Nat.mul_one] at hw
  have HA := Lib.hid hA
  have HW := Lib.hid hw
  have HB := Lib.hid hb
  clear hA hn hz hk hd hr hw hb h
  unfold Dk.ptr at *
  go_enter Try.func20, Try.ntmps20
  go_wp2_with fail
  refine HA.out.mono ?_
  rintro e w' ⟨rfl, rfl⟩
  go_wp2_with fail
  refine HW.out.mono ?_
  rintro e w2 ⟨rfl, hd2, hc2⟩
  have hc2 := (Blk.Chg.ofBelow' (S := d.Has) HB.out).trans hc2
  obtain ⟨q, hq⟩ : ∃ q, wsure s a Disk.zero 1 = q := ⟨_, rfl⟩
  rw [hq] at hd2
  rw [hq]
  have HQ := Lib.hid hq
  clear hq HW HB
  go_wp2
  go_ret
  rw [HQ.out]
  exact ⟨rfl, hd2, hc2⟩

theorem open_off (d : Dk) (s : St) (a b : Nat) (w : World) (h : Disk.At w d s) (h1 : a < b) (h2 : b ≤ d.n) (ho : s.off = true) :
    Calls Try.prog 19 #[d.ptr, .int .i64 a, .int .i64 b] w fun e w' => e = .returned (.tuple #[.pointer none, .slice none 0 0, .int .i64 7]) ∧ Below w.heap.size w w' := by
  have hf := h.now.few
  have hA := isArea_any d s a b w h
  have hn : isArea d.n a b = true := by simp [isArea, h1, h2]
  rw [hn] at hA
  have hrd := Disk.read_any d s a w h
  have e : s.read a = ([], 7) := by unfold St.read; rw [if_pos ho]
  rw [e] at hrd
  have HA := Lib.hid hA
  have HR := Lib.hid hrd
  clear hA hn hrd e h
  unfold Dk.ptr at *
  go_enter Try.func19, Try.ntmps19
  go_wp2_with fail
  refine HA.out.mono ?_
  rintro e w' ⟨rfl, rfl⟩
  go_wp2_with fail
  refine HR.out.mono ?_
  rintro e w2 ⟨v, rfl, hm, hb⟩
  clear hm HR HA
  go_wp2
  go_ret3
  exact ⟨rfl, hb⟩

/-- The log that Open tells. -/
def opened (a b : Nat) (m : List Int) (rs : List (List Int)) : LSt := ⟨a, a + 1 + used rs, b, rs.length, m, false⟩
theorem built (dp a b : Nat) : (((Try.zeroCells71.setIfInBounds 0 (Value.pointer (some ⟨dp, 0, none⟩))).setIfInBounds 1 (Value.int IntKind.i64 a)).setIfInBounds 2 (Value.int IntKind.i64 ((a : Int) + 1))).setIfInBounds 3 (Value.int IntKind.i64 b) = lcells dp ⟨a, a + 1, b, 0, Disk.zero, false⟩ := by
  rfl
/-- What Open hands back. -/
def Opened (w : World) (d : Dk) (s : St) (a b : Nat) (e : Ending) (w' : World) : Prop :=
  Below w.heap.size w w' ∧ ∃ n, Marks (s.now.getD a []) n ∧
    ((rdN (bytes s.now (a + 1) b) n = none ∧ e = .returned (.tuple #[.pointer none, .slice none 0 0, .int .i64 3])) ∨
     ∃ rs p v, rdN (bytes s.now (a + 1) b) n = some rs ∧ w.heap.size ≤ p ∧ LAt w' p d.p (opened a b (s.now.getD a []) rs) ∧ (∀ B, B ≤ w.heap.size → Recs w' B v rs) ∧ e = .returned (.tuple #[.pointer (some ⟨p, 0, none⟩), v, .int .i64 0]))
set_option maxRecDepth 100000 in
set_option maxHeartbeats 1000000 in
theorem open_yes (d : Dk) (s : St) (a b : Nat) (w : World) (h : Disk.At w d s) (h1 : a < b) (h2 : b ≤ d.n) (ho : s.off = false) :
    Calls Try.prog 19 #[d.ptr, .int .i64 a, .int .i64 b] w (Opened w d s a b) := by
  have hf := h.now.few
  have hs := h.now.secs
  have hA := isArea_any d s a b w h
  have hn : isArea d.n a b = true := by simp [isArea, h1, h2]
  rw [hn] at hA
  have hrd := Disk.read_any d s a w h
  rw [read_in ho hs.count (by omega)] at hrd
  dsimp only at hrd
  have hsec := hs.at (show a < d.n by omega)
  obtain ⟨n, hmk⟩ := marks_ex (s.now.getD a [])
  obtain ⟨m, hm⟩ : ∃ m, s.now.getD a [] = m := ⟨_, rfl⟩
  rw [hm] at hrd hsec hmk
  have HM := Lib.hid hm
  have HA := Lib.hid hA
  have HR := Lib.hid hrd
  have H := Lib.hid h
  have HS := Lib.hid hs
  have HSEC := Lib.hid hsec
  have HK := Lib.hid hmk
  have HO := Lib.hid ho
  clear hA hn hrd h hs hm hmk ho hsec
  unfold Dk.ptr at *
  go_enter Try.func19, Try.ntmps19
  go_wp2_with fail
  refine HA.out.mono ?_
  rintro e w' ⟨rfl, rfl⟩
  go_wp2_with fail
  refine HR.out.mono ?_
  rintro e w2 ⟨v, rfl, hm2, hb2⟩
  obtain ⟨n2, a2, c2, rfl, hc2, hl2, hr2⟩ := hm2.rows
  obtain rfl : n2 = 64 := by rw [← hl2]; exact HSEC.out.len
  have hz0 : Sec Disk.zero := Disk.zero_sec
  have hl0 : LAt (w2.alloc (.cells (lcells d.p ⟨a, a + 1, b, 0, Disk.zero, false⟩) 71)) w2.heap.size d.p ⟨a, a + 1, b, 0, Disk.zero, false⟩ :=
    ⟨Blk.Is.new w2 _ _, ⟨hz0, by show a + 1 ≤ b; omega, by show b ≤ 4096; omega, by show a < a + 1; omega, by show 0 ≤ 512; omega⟩⟩
  have hbA : Below w2.heap.size w2 (w2.alloc (.cells (lcells d.p ⟨a, a + 1, b, 0, Disk.zero, false⟩) 71)) := (Below.refl _ _).alloc (Nat.le_refl _) _
  have hrun := fun ty => Blk.run_copy_sz (P := Try.prog) (w2.alloc (.cells (lcells d.p ⟨a, a + 1, b, 0, Disk.zero, false⟩) 71)) 25 25 ty 5 1 w2.heap.size 5 64 64 a2 64 c2 (lcells d.p ⟨a, a + 1, b, 0, Disk.zero, false⟩) 71 (bcells m) Try.underlying25 sizeU8 hl0.obj
    (by rw [bcells_length, HSEC.out.len]; rfl) (by have := (hr2.below hbA).source 64; rwa [List.take_of_length_le (by rw [HSEC.out.len]; exact Nat.le_refl _)] at this)
    (by rw [bcells_length, HSEC.out.len, lcells_size hz0]; omega) (bcells_one _)
  rw [lcells_over hz0 m HSEC.out] at hrun
  obtain ⟨w3, hw3⟩ : ∃ w3, w3 = (w2.alloc (.cells (lcells d.p ⟨a, a + 1, b, 0, Disk.zero, false⟩) 71)).setRow w2.heap.size (lcells d.p ⟨a, a + 1, b, 0, m, false⟩) := ⟨_, rfl⟩
  simp only [← hw3] at hrun
  have hL3 : LAt w3 w2.heap.size d.p (opened a b m []) := ⟨by rw [hw3]; exact hl0.obj.row _, ⟨HSEC.out, by show a + 1 + 0 ≤ b; omega, by show b ≤ 4096; omega, by show a < a + 1 + 0; omega, by show 0 ≤ 512; omega⟩⟩
  have hB3 : Below w.heap.size w w3 := by
    rw [hw3]
    exact Blk.belowRow (hb2.trans (hbA.mono hb2.size)) hb2.size _
  have hp : w.heap.size ≤ w2.heap.size := hb2.size
  have HRUN := Lib.hid hrun
  have L3 := Lib.hid hL3
  have B3 := Lib.hid hB3
  clear hm2 hb2 hl2 hr2 hz0 hl0 hbA hrun hw3 hL3 hB3
  go_wp2_with fail
  rw [built d.p a b, HRUN.out]
  generalize w2.heap.size = p at *
  clear HRUN
  go_wp2_with fail
  have hm512 := HK.out.le
  go_loopw [12] (fun v u => ∃ rs, rs.length ≤ n ∧ Recs u 0 v rs ∧ (∀ k, v.ownBlock = some k → w.heap.size ≤ k) ∧ rdN (bytes s.now (a + 1) b) rs.length = some rs ∧ LAt u p d.p (opened a b m rs) ∧ Below w.heap.size w u) (fun v _ => n - lenOf v)
  case atStart => exact ⟨[], by simp, recs_nil _ _, fun k e => by simp [Value.ownBlock] at e, rfl, L3.out, B3.out⟩
  case round =>
    clear L3 B3
    obtain ⟨rs, hk, hrec, hown0, hrd, hl, hb⟩ := hrel
    obtain ⟨a5, c5, rfl, hc5⟩ := hrec.shape
    obtain ⟨k, hkk⟩ : ∃ k, rs.length = k := ⟨_, rfl⟩
    rw [hkk] at hk hrd hc5 hrec hown0
    have HOWN := Lib.hid hown0
    clear hown0
    rw [hkk]
    have q4 := cell_regrown hl.flds.c4
    have qm := Disk.range_regrown hl.flds.m
    have e4 : (opened a b m rs).count = k := hkk
    have e5 : (opened a b m rs).marks = m := rfl
    rw [e4] at q4
    rw [e5] at qm
    obtain ⟨cm, hcm⟩ : ∃ c, c = bcells m := ⟨_, rfl⟩
    have z0 : (Try.prog.info? 69).map (·.size) = some (bcells m).length := by rw [sizeMarks, bcells_length, HSEC.out.len]
    have hhas : k < 512 → ∀ u, _ := fun hlt u => has_any m k u HSEC.out hlt
    rw [← hcm] at qm z0 hhas
    have QM := Lib.hid qm
    have u0 := Try.underlying69
    have HL := Lib.hid hl
    have HB := Lib.hid hb
    have HREC := Lib.hid hrec
    have HRD := Lib.hid hrd
    have HKK := Lib.hid hkk
    have HH := Lib.hid hhas
    clear qm hl hb hrec hrd hkk e4 e5 hcm hhas
    by_cases hlt : k < n
    · have hmk := HK.out.set k hlt
      have h512 : (k : Int) < 512 := by omega
      have hh := HH.out (by omega)
      rw [hmk] at hh
      have HH1 := Lib.hid hh
      clear hmk hh HH
      go_wp2_with fail
      refine Reg.wp_class (by kernel_rfl) (by kernel_rfl) (fun u => ∃ p : Regrown, u = Sort.grow (redrawn wr p.d) p.os) (regrown_of_below (Below.refl _ _).drew) ?_
      iterate 9 (go_big_quiet_step (fail))
      refine Reg.wpQuiet_load_want (by rfl) 69 _ rfl p 5 rfl cm _ QM.out u0 rfl z0 ?_
      simp only [Act.put, List.setIfInBounds_toArray, List.set_cons_zero, List.set_cons_succ]
      iterate 4 (go_big_quiet_step (fail))
      go_big_quiet_step ((exact Calls.regrown_of (HH1.out _)))
      go_big_quiet_step (fail)
      refine wpQuiet_nil ?_
      intro wz hz'
      have hbz : Below wr.heap.size wr wz := by obtain ⟨pp, rfl⟩ := hz'; exact below_regrown _ _ _
      clear hz'
      have D6 := Lib.hid ((H.out.below HB.out).below hbz)
      have L6 := Lib.hid (HL.out.below hbz)
      have R6 := Lib.hid (HREC.out.below hbz)
      have B6 := Lib.hid (HB.out.trans (hbz.mono HB.out.size))
      have hdrop := bytes_drop HS.out (a + 1) b (used rs)
      have hnx := readNext_any p d s (opened a b m rs) wz L6.out D6.out HO.out h2
      change Calls _ _ _ _ (Nexted wz (bytes s.now (a + 1 + used rs) b)) at hnx
      have hbl := bytes_len HS.out (a + 1 + used rs) b h2
      have hbb := bytes_byte HS.out (a + 1 + used rs) b
      obtain ⟨zs, hzs⟩ : ∃ zs, bytes s.now (a + 1) b = zs := ⟨_, rfl⟩
      obtain ⟨ys, hys⟩ : ∃ ys, bytes s.now (a + 1 + used rs) b = ys := ⟨_, rfl⟩
      have hrd := HRD.out
      rw [hzs, hys] at hdrop
      rw [hys] at hnx hbl hbb
      rw [hzs] at hrd
      have HZS := Lib.hid hzs
      have HD6 := Lib.hid hdrop
      have HNX := Lib.hid hnx
      have HBL := Lib.hid hbl
      have HBB := Lib.hid hbb
      have HRD := Lib.hid hrd
      clear hbz QM HH1 q4 u0 z0 HL HB HREC hdrop hnx hbl hbb hzs hys hrd
      go_wp2_with fail
      refine HNX.out.mono ?_
      rintro e w7 ⟨hb7, hcase⟩
      have L7 := Lib.hid (L6.out.below hb7)
      have R7 := Lib.hid (R6.out.below hb7)
      have B7 := Lib.hid (B6.out.trans (hb7.mono B6.out.size))
      clear HNX L6 R6 B6 D6
      rcases hcase with ⟨hnone, rfl⟩ | ⟨r, v, hr, rfl, hmv⟩
      · have hfin : rdN zs n = none := by
          have := rdN_none (rdN_stop HRD.out (by rw [HD6.out]; exact hnone)) (n - (k + 1))
          rwa [show k + 1 + (n - (k + 1)) = n by omega] at this
        have hO : Opened w d s a b (.returned (.tuple #[.pointer none, .slice none 0 0, .int .i64 3])) w7 := ⟨B7.out, n, by rw [HM.out]; exact HK.out, .inl ⟨by rw [HZS.out]; exact hfin, rfl⟩⟩
        have OP := Lib.hid hO
        clear hfin hO hnone hb7
        go_wp2
        go_ret3
        exact OP.out
      · obtain ⟨n8, a8, c8, rfl, hc8, hl8, hr8⟩ := hmv.rows
        have hlr := rd_len HBB.out hr
        have hne : (0 : Int) = 0 := rfl
        have bA : Below w7.heap.size w7 (w7.alloc (.cells #[.slice a8 n8 c8] 25)) := (Below.refl _ _).alloc (Nat.le_refl _) _
        have hcell : (w7.alloc (.cells #[.slice a8 n8 c8] 25)).cell? ((⟨w7.heap.size, 0, none⟩ : Addr).add 0) = some (.slice a8 n8 c8) := by
          rw [Addr.add_mid]; exact (Blk.Is.new w7 25 #[.slice a8 n8 c8]).at rfl
        have hel : El (w7.alloc (.cells #[.slice a8 n8 c8] 25)) 0 (.slice a8 n8 c8) r := (El.ofMine (B := 0) hmv).below bA
        have hnext : rdN zs (k + 1) = some (rs ++ [r]) := rdN_next HRD.out (by rw [HD6.out]; exact hr)
        have hfit : a + 1 + used rs + needN n8 ≤ b := by
          have h3 := hlr.2.2.1
          rw [HBL.out, hl8] at h3
          have h4 := needN_pos (n := n8) (by omega)
          omega
        have hn8 : n8 ≤ 8192 := by omega
        have RA := Lib.hid (R7.out.below bA)
        have LA := Lib.hid (L7.out.below bA)
        have BA := Lib.hid (B7.out.trans (bA.mono B7.out.size))
        have HC := Lib.hid hcell
        have HEL := Lib.hid hel
        have HNX := Lib.hid hnext
        have HL8 := Lib.hid hl8
        clear hmv hr8 hlr bA hcell hel hnext hr hb7 R7 L7 B7 hl8 hne HBL HBB HD6 HRD
        go_wp2_with (at_builtin; refine append_rec2 rfl (.tmp 66) (.tmp 68) rfl 0 _ rs rfl RA.out _ _ rfl _ r HC.out HEL.out ?_ ?_ ?_)
        · have := HKK.out; omega
        · exact Nat.zero_le _
        intro v9 w9 r9 g9 k9
        have hown : ∀ e : (Value.slice a5 k c5).ownBlock = some p, False := fun e => by
          obtain ⟨_, _, cur, hc⟩ := RA.out.block e
          exact (Blk.Is.ne hc LA.out.obj (by decide)) rfl
        have L9 := LA.out.chg ((Blk.Chg.refl (fun b => (Value.slice a5 k c5).ownBlock = some b) _).grown g9 (fun k e _ => e)) hown
        have B9 := BA.out.grown g9 BA.out.size (fun k e => HOWN.out k e)
        have hown9 : ∀ k, v9.ownBlock = some k → w.heap.size ≤ k := fun k e => by
          rcases k9 k e with h | h
          · exact HOWN.out k h
          · have := BA.out.size; simp only [World.size_alloc] at this h; omega
        have hst := step_any p d.p (opened a b m rs) a8 n8 c8 w9 L9 (by omega) (by show rs.length < 512; have := HKK.out; omega) hfit
        have hlst : (opened a b m rs).stepped n8 = opened a b m (rs ++ [r]) := by
          simp only [LSt.stepped, opened, used_snoc, HL8.out, List.length_append, List.length_cons, List.length_nil, Nat.add_assoc]
        rw [hlst] at hst
        obtain ⟨a9, c9, rfl, hc9⟩ := r9.shape
        rw [List.length_append, HKK.out, List.length_singleton] at r9 hc9 hown9
        have HOWN9 := Lib.hid hown9
        rw [List.length_append, HKK.out, List.length_singleton]
        have LL9 := Lib.hid L9
        have BB9 := Lib.hid B9
        have RR9 := Lib.hid r9
        have HST := Lib.hid hst
        clear L9 B9 r9 g9 k9 hst hlst hown hown9 RA LA BA HC HEL
        go_wp2_with fail
        refine HST.out.mono ?_
        rintro e wE ⟨rfl, hLE, hCE⟩
        have hcalm : Calm (fun k => k = p) w9 0 := fun k hk => by
          subst hk
          exact ⟨Nat.zero_le _, fun cur h => (Blk.Is.ne h LL9.out.obj (by decide)) rfl, fun cur h => (Blk.Is.ne h LL9.out.obj (by decide)) rfl⟩
        have hRE := RR9.out.chg hCE hcalm
        have hBE := BB9.out.trans (hCE.below (fun k hk => by subst hk; exact hp) BB9.out.size)
        have LE := Lib.hid hLE
        have RE := Lib.hid hRE
        have BE := Lib.hid hBE
        clear hLE hCE hRE hBE hcalm LL9 BB9 RR9 HST
        go_wp2
        refine ⟨⟨rs ++ [r], ?_, RE.out, HOWN9.out, ?_, LE.out, BE.out⟩, ?_⟩
        · rw [List.length_append, HKK.out]; simp; omega
        · rw [List.length_append, HKK.out]; simp only [List.length_singleton]; rw [HZS.out]; exact HNX.out
        · simp only [lenOf]; omega
    · have hkn : k = n := by omega
      have hfin : rdN (bytes s.now (a + 1) b) n = some rs := by rw [← hkn]; exact HRD.out
      have HFIN := Lib.hid hfin
      have HKN := Lib.hid hkn
      clear hfin hkn hlt HRD
      by_cases h512 : k < 512
      · have hmk := HK.out.stop (by rw [← HKN.out]; exact h512)
        rw [← HKN.out] at hmk
        have hh := HH.out h512
        rw [hmk] at hh
        have HH1 := Lib.hid hh
        have hk5 : (k : Int) < 512 := by omega
        clear hmk hh HH h512
        go_wp2_with fail
        refine Reg.wp_class (by kernel_rfl) (by kernel_rfl) (fun u => ∃ p : Regrown, u = Sort.grow (redrawn wr p.d) p.os) (regrown_of_below (Below.refl _ _).drew) ?_
        iterate 9 (go_big_quiet_step (fail))
        refine Reg.wpQuiet_load_want (by rfl) 69 _ rfl p 5 rfl cm _ QM.out u0 rfl z0 ?_
        simp only [Act.put, List.setIfInBounds_toArray, List.set_cons_zero, List.set_cons_succ]
        iterate 4 (go_big_quiet_step (fail))
        go_big_quiet_step ((exact Calls.regrown_of (HH1.out _)))
        go_big_quiet_step (fail)
        refine wpQuiet_nil ?_
        intro wz hz'
        have hbz : Below wr.heap.size wr wz := by obtain ⟨pp, rfl⟩ := hz'; exact below_regrown _ _ _
        clear hz'
        have hO : Opened w d s a b (.returned (.tuple #[.pointer (some ⟨p, 0, none⟩), .slice a5 k c5, .int .i64 0])) wz :=
          ⟨HB.out.trans (hbz.mono HB.out.size), n, by rw [HM.out]; exact HK.out, .inr ⟨rs, p, _, HFIN.out, hp, by rw [HM.out]; exact HL.out.below hbz, fun B hB => recs_up (HREC.out.below hbz) (fun k e => Nat.le_trans hB (HOWN.out k e)), rfl⟩⟩
        have OP := Lib.hid hO
        clear hO hbz QM q4 z0 u0
        go_wp2
        go_ret3
        exact OP.out
      · have hk5 : ¬ ((k : Int) < 512) := by omega
        have hdk : decide ((k : Int) < 512) = false := by simpa using hk5
        clear HH
        go_wp2_with fail
        refine Reg.wp_class (by kernel_rfl) (by kernel_rfl) (fun u => ∃ p : Regrown, u = Sort.grow (redrawn wr p.d) p.os) (regrown_of_below (Below.refl _ _).drew) ?_
        iterate 16 (go_big_quiet_step (fail))
        refine wpQuiet_nil ?_
        intro wz hz'
        have hbz : Below wr.heap.size wr wz := by obtain ⟨pp, rfl⟩ := hz'; exact below_regrown _ _ _
        clear hz'
        have hO : Opened w d s a b (.returned (.tuple #[.pointer (some ⟨p, 0, none⟩), .slice a5 k c5, .int .i64 0])) wz :=
          ⟨HB.out.trans (hbz.mono HB.out.size), n, by rw [HM.out]; exact HK.out, .inr ⟨rs, p, _, HFIN.out, hp, by rw [HM.out]; exact HL.out.below hbz, fun B hB => recs_up (HREC.out.below hbz) (fun k e => Nat.le_trans hB (HOWN.out k e)), rfl⟩⟩
        have OP := Lib.hid hO
        clear hO hbz QM q4 z0 u0
        go_wp2
        go_ret3
        exact OP.out
end Wal
end Go.Proofs.Ytjeidfknnophnaa

/-
WalApart's walk.
-/
import Derived.Test.YtfccoggdpogekaaWalCrashKit
namespace Go.Proofs.Ytfccoggdpogekaa
open Go.RowKit
set_option linter.unusedVariables false
namespace Wal
open Disk (Dk St Sec Secs fresh)

/-- Two logs on one disk. -/
structure Both (w u : World) (d : Dk) (p1 p2 : Nat) (s : St) (l1 l2 : LSt) (r1 r2 : List (List Int)) : Prop where
  x : Run w u d p1 s l1 1 30 r1
  y : Run w u d p2 s l2 30 59 r2
  ne : p1 ≠ p2
  fuse : s.fuse = 0
  first : s.now.getD 0 [] = Disk.zero
  last : s.now.getD 59 [] = Disk.zero
theorem Both.below {w u u' d p1 p2 s l1 l2 r1 r2} (h : Both w u d p1 p2 s l1 l2 r1 r2) (hb : Below u.heap.size u u') : Both w u' d p1 p2 s l1 l2 r1 r2 :=
  ⟨h.x.below hb, h.y.below hb, h.ne, h.fuse, h.first, h.last⟩
theorem Both.grown {w u u' d p1 p2 s l1 l2 r1 r2 v rs} (h : Both w u d p1 p2 s l1 l2 r1 r2) (h' : Recs u w.heap.size v rs) (hg : u.grownBy u' v.ownBlock) : Both w u' d p1 p2 s l1 l2 r1 r2 :=
  ⟨h.x.grown h' hg, h.y.grown h' hg, h.ne, h.fuse, h.first, h.last⟩
/-- The other area is as it was. -/
theorem live_other {N s s' l a b rs} (h : Live N s l a b rs) (hs : Secs N s'.now) (ho : s'.off = false) (hu : s'.sure = s'.now) (hsame : ∀ j, a ≤ j → j < b → s'.now.getD j [] = s.now.getD j []) : Live N s' l a b rs := by
  obtain ⟨h1, h2, h3, h4, h5⟩ := h
  have hf := h4.fits
  exact ⟨hs, ho, hu, h4.congr h1.count hs.count fun j g1 g2 => hsame j g1 (by omega), by rw [h5, hsame a (Nat.le_refl _) (by omega)]⟩
theorem run_other {w u u' d p1 p2 s s' l1 l2 l' a1 b1 a2 b2 r1 r1' r2} (h : Run w u d p2 s l2 a2 b2 r2) (hne : p1 ≠ p2) (hg : Run w u' d p1 s' l' a1 b1 r1') (hsame : ∀ j, (j < a1 ∨ b1 ≤ j) → s'.now.getD j [] = s.now.getD j [])
    (hc : Blk.Chg (fun k => k = p1 ∨ d.Has k) u u') (hd : b1 ≤ a2 ∨ b2 ≤ a1) (hx : Run w u d p1 s l1 a1 b1 r1) : Run w u' d p2 s' l2 a2 b2 r2 := by
  refine ⟨hg.disk, h.log.chg hc ?_, live_other h.live hg.live.secs hg.live.off hg.live.sure fun j g1 g2 => hsame j (by omega), h.dnew, h.pnew, hg.bel⟩
  rintro (e | e)
  · exact hne e.symm
  · exact h.log.ne h.disk e
theorem Both.left {w u u' d p1 p2 s s' l1 l2 l' r1 r2 r} (h : Both w u d p1 p2 s l1 l2 r1 r2) (hg : Grew w d p1 s l1 1 30 r1 r u' s' l') (hc : Blk.Chg (fun k => k = p1 ∨ d.Has k) u u') : Both w u' d p1 p2 s' l' l2 (r1 ++ [r]) r2 :=
  ⟨hg.run, run_other h.y h.ne hg.run hg.same hc (.inl (by omega)) h.x, h.ne, hg.fuse h.fuse, by rw [hg.same 0 (by omega)]; exact h.first, by rw [hg.same 59 (by omega)]; exact h.last⟩
theorem Both.right {w u u' d p1 p2 s s' l1 l2 l' r1 r2 r} (h : Both w u d p1 p2 s l1 l2 r1 r2) (hg : Grew w d p2 s l2 30 59 r2 r u' s' l') (hc : Blk.Chg (fun k => k = p2 ∨ d.Has k) u u') : Both w u' d p1 p2 s' l1 l' r1 (r2 ++ [r]) :=
  ⟨run_other h.x h.ne.symm hg.run hg.same hc (.inr (by omega)) h.y, hg.run, h.ne, hg.fuse h.fuse, by rw [hg.same 0 (by omega)]; exact h.first, by rw [hg.same 59 (by omega)]; exact h.last⟩
def Apt (v v' : Value) : Prop := ∀ k, v.ownBlock = some k → v'.ownBlock = some k → False
/-- Quad rows of rows: what is to be appended, and what was. -/
structure Quad (w u : World) (v1 v2 vp vq : Value) (t1 t2 r1 r2 : List (List Int)) (i : Nat) : Prop where
  a : Recs u w.heap.size v1 t1
  b : Recs u w.heap.size v2 t2
  p : Recs u w.heap.size vp r1
  q : Recs u w.heap.size vq r2
  ap : Apt v1 vp
  aq : Apt v1 vq
  bp : Apt v2 vp
  bq : Apt v2 vq
  pq : Apt vp vq
  c1 : r1.length ≤ i
  c2 : r2.length ≤ i
  o1 : t1.length ≤ 20 ∧ ∀ r ∈ t1, r.length ≤ 300
  o2 : t2.length ≤ 20 ∧ ∀ r ∈ t2, r.length ≤ 300
theorem Quad.chg {w u u' v1 v2 vp vq t1 t2 r1 r2 i} {S : Nat → Prop} (h : Quad w u v1 v2 vp vq t1 t2 r1 r2 i) (hc : Blk.Chg S u u') (hS : Calm S u w.heap.size) : Quad w u' v1 v2 vp vq t1 t2 r1 r2 i :=
  ⟨h.a.chg hc hS, h.b.chg hc hS, h.p.chg hc hS, h.q.chg hc hS, h.ap, h.aq, h.bp, h.bq, h.pq, h.c1, h.c2, h.o1, h.o2⟩
theorem Quad.below {w u u' v1 v2 vp vq t1 t2 r1 r2 i} (h : Quad w u v1 v2 vp vq t1 t2 r1 r2 i) (hb : Below u.heap.size u u') : Quad w u' v1 v2 vp vq t1 t2 r1 r2 i := h.chg (Blk.Chg.ofBelow' hb) (calm_none u w.heap.size)
theorem Quad.next {w u v1 v2 vp vq t1 t2 r1 r2 i} (h : Quad w u v1 v2 vp vq t1 t2 r1 r2 i) : Quad w u v1 v2 vp vq t1 t2 r1 r2 (i + 1) :=
  ⟨h.a, h.b, h.p, h.q, h.ap, h.aq, h.bp, h.bq, h.pq, by have := h.c1; omega, by have := h.c2; omega, h.o1, h.o2⟩
theorem apt_push {u : World} {B : Nat} {v v' v'' : Value} {rs : List (List Int)} (h : Apt v v') (hv : Recs u B v rs) (hb : ∀ k, v''.ownBlock = some k → v'.ownBlock = some k ∨ u.heap.size ≤ k) : Apt v v'' := fun k e1 e2 => by
  rcases hb k e2 with h' | h'
  · exact h k e1 h'
  · have := (hv.block e1).2.1; omega
theorem Quad.pushP {w u u' v1 v2 vp vp' vq t1 t2 r1 r2 r i} (h : Quad w u v1 v2 vp vq t1 t2 r1 r2 i) (hi : r1.length < i) (hs : Recs u' w.heap.size vp' (r1 ++ [r])) (hg : u.grownBy u' vp.ownBlock) (hb : ∀ k, vp'.ownBlock = some k → vp.ownBlock = some k ∨ u.heap.size ≤ k) : Quad w u' v1 v2 vp' vq t1 t2 (r1 ++ [r]) r2 i :=
  ⟨recs_other h.a h.p h.ap hg, recs_other h.b h.p h.bp hg, hs, recs_other h.q h.p (fun k e1 e2 => h.pq k e2 e1) hg, apt_push h.ap h.a hb, h.aq, apt_push h.bp h.b hb, h.bq, fun k e1 e2 => apt_push (fun k e1 e2 => h.pq k e2 e1) h.q hb k e2 e1, by rw [List.length_append, List.length_singleton]; omega, h.c2, h.o1, h.o2⟩
theorem Quad.pushQ {w u u' v1 v2 vp vq' vq t1 t2 r1 r2 r i} (h : Quad w u v1 v2 vp vq t1 t2 r1 r2 i) (hi : r2.length < i) (hs : Recs u' w.heap.size vq' (r2 ++ [r])) (hg : u.grownBy u' vq.ownBlock) (hb : ∀ k, vq'.ownBlock = some k → vq.ownBlock = some k ∨ u.heap.size ≤ k) : Quad w u' v1 v2 vp vq' t1 t2 r1 (r2 ++ [r]) i :=
  ⟨recs_other h.a h.q h.aq hg, recs_other h.b h.q h.bq hg, recs_other h.p h.q h.pq hg, hs, h.ap, apt_push h.aq h.a hb, h.bp, apt_push h.bq h.b hb, apt_push h.pq h.p hb, h.c1, by rw [List.length_append, List.length_singleton]; omega, h.o1, h.o2⟩
/-- Between two rounds. -/
def ApR (w u : World) (d : Dk) (p1 p2 : Nat) (v1 v2 vp vq : Value) (t1 t2 : List (List Int)) (i : Nat) : Prop :=
  ∃ s l1 l2 r1 r2, Both w u d p1 p2 s l1 l2 r1 r2 ∧ Quad w u v1 v2 vp vq t1 t2 r1 r2 i ∧ s.calls ≤ 4 + 400 * i
/-- Within a round: the left log has had its turn. -/
def MidR (w u : World) (d : Dk) (p1 p2 : Nat) (v1 v2 vp vq : Value) (t1 t2 : List (List Int)) (i : Nat) : Prop :=
  ∃ s l1 l2 r1 r2, Both w u d p1 p2 s l1 l2 r1 r2 ∧ Quad w u v1 v2 vp vq t1 t2 r1 r2 (i + 1) ∧ s.calls ≤ 4 + 400 * i + 200 ∧ r2.length ≤ i
set_option maxRecDepth 100000 in
set_option maxHeartbeats 16000000 in
theorem walApart_walk (v0 : Value) (ls : List (List Int)) (v1 : Value) (ms : List (List Int)) (w : World) (h0 : Arg w.heap.size w v0 ls) (h1 : Arg w.heap.size w v1 ms) :
    Calls Try.prog 9 #[v0, v1] w fun e w' => e = .returned (.bool true) ∧ Below w.heap.size w w' := by
  have H0 := Lib.hid h0
  have H1 := Lib.hid h1
  clear h0 h1
  go_enter Try.func9, Try.ntmps9
  go_wp2_with fail
  refine (Disk.new_any 60 _).mono ?_
  rintro e w1 ⟨d, rfl, hdn, hf, hd1, b1⟩
  rw [show Disk.sizeOf 60 = 60 from rfl] at hd1 hdn
  have hfm := format_ok d (fresh 60) 1 30 w1 hd1 rfl rfl (by omega) (by omega) (by show 0 < _; decide)
  have HFM := Lib.hid hfm
  have HDN := Lib.hid hdn
  clear hfm hd1 hdn
  unfold Dk.ptr at *
  go_wp2_with fail
  refine HFM.out.mono ?_
  rintro e w2 ⟨rfl, t, hd2, hr2, hcal, hfu, hnow, c2⟩
  have b2 : Below w.heap.size w w2 := b1.trans (c2.below (fun k hk => hf.has hk) b1.size)
  have hfm := format_ok d t 30 59 w2 hd2 hr2.off hfu (by omega) (by rw [HDN.out]; omega) (by rw [hcal]; show 0 + 2 < _; decide)
  unfold Dk.ptr at hfm
  have HFM := Lib.hid hfm
  have HR2 := Lib.hid hr2
  have HC2 := Lib.hid (show t.calls = 2 from hcal)
  have HN2 := Lib.hid hnow
  have B2 := Lib.hid b2
  clear hfm hd2 hr2 hcal hfu hnow c2 b1 b2
  go_wp2_with fail
  refine HFM.out.mono ?_
  rintro e w3 ⟨rfl, t2, hd3, hr3, hcal, hfu, hnow, c3⟩
  have b3 : Below w.heap.size w w3 := B2.out.trans (c3.below (fun k hk => hf.has hk) B2.out.size)
  have hz : ∀ j, j ≠ 1 → j ≠ 30 → j < 60 → t2.now.getD j [] = Disk.zero := fun j e1 e2 e3 => by
    rw [hnow, put_out _ _ _ _ _ (by omega), HN2.out, put_out _ _ _ _ _ (by omega)]
    show (List.replicate 60 Disk.zero).getD j [] = _
    rw [List.getD_eq_getElem?_getD, List.getElem?_replicate, if_pos e3]
    rfl
  have hrx : Rdy d.n t2 1 30 [] := by
    refine ⟨hr3.secs, hr3.off, hr3.sure, ?_⟩
    refine HR2.out.holds.congr HR2.out.secs.count hr3.secs.count fun j g1 g2 => ?_
    have g3 : j < 1 + 1 + 0 := g2
    rw [hnow, put_out _ _ _ _ _ (by omega)]
  have hop := open_good d t2 1 30 [] w3 hd3 hrx
  unfold Dk.ptr at hop
  have HOP := Lib.hid hop
  have HD3 := Lib.hid hd3
  have HX := Lib.hid hrx
  have HR3 := Lib.hid hr3
  have HC3 := Lib.hid (show t2.calls = 4 by rw [hcal, HC2.out])
  have HF3 := Lib.hid hfu
  have HZ := Lib.hid hz
  have B3 := Lib.hid b3
  clear hop hd3 hrx hr3 hcal hfu hnow hz c3 b3 HFM HR2 HC2 HN2 B2
  go_wp2_with fail
  refine HOP.out.mono ?_
  rintro e w4 ⟨p1, va, rfl, ho⟩
  obtain ⟨hrun1, _⟩ := run_open HD3.out hf B3.out HX.out ho
  have hop := open_good d t2 30 59 [] w4 hrun1.disk HR3.out
  unfold Dk.ptr at hop
  have HOP := Lib.hid hop
  have HRUN1 := Lib.hid hrun1
  clear hop hrun1 ho HD3 B3
  go_wp2_with fail
  refine HOP.out.mono ?_
  rintro e w5 ⟨p2, vb, rfl, ho⟩
  obtain ⟨hrun2, _⟩ := run_open HRUN1.out.disk hf HRUN1.out.bel HR3.out ho
  have hx5 := HRUN1.out.below ho.below
  have hne : p1 ≠ p2 := by have h7 := ho.new; have h8 := HRUN1.out.log.obj.lt; omega
  have hboth : Both w w5 d p1 p2 t2 _ _ [] [] := ⟨hx5, hrun2, hne, HF3.out, HZ.out 0 (by omega) (by omega) (by omega), HZ.out 59 (by omega) (by omega) (by omega)⟩
  have HBO := Lib.hid hboth
  clear hboth hx5 hrun2 ho HOP HRUN1 HR3 HX HF3 HZ hne
  go_wp2_with fail
  refine (small_any w.heap.size v0 ls _ (H0.out.below HBO.out.x.bel) HBO.out.x.bel.size).mono ?_
  rintro e w6 ⟨vr, rfl, hrec, b6⟩
  have hb6 := HBO.out.below b6
  have HB6 := Lib.hid hb6
  have HREC := Lib.hid hrec
  clear hb6 hrec b6 HBO
  go_wp2_with fail
  refine (small_any w.heap.size v1 ms _ (H1.out.below HB6.out.x.bel) HB6.out.x.bel.size).mono ?_
  rintro e w7 ⟨vt, rfl, hrec2, b7⟩
  obtain ⟨rows, hrows⟩ : ∃ rows, smallL ls = rows := ⟨_, rfl⟩
  obtain ⟨mows, hmows⟩ : ∃ rows, smallL ms = rows := ⟨_, rfl⟩
  have s1 := small_ok ls
  have s2 := small_ok ms
  have hrec1 := HREC.out.below b7
  rw [hrows] at s1 hrec1
  rw [hmows] at s2 hrec2
  have hnone : ∀ v : Value, Apt v (.slice none 0 0) := fun v k _ e => by simp [Value.ownBlock] at e
  have happ : ApR w w7 d p1 p2 vr vt (.slice none 0 0) (.slice none 0 0) rows mows 0 :=
    ⟨t2, _, _, [], [], HB6.out.below b7, ⟨hrec1, hrec2, recs_nil _ _, recs_nil _ _, hnone _, hnone _, hnone _, hnone _, hnone _, by simp, by simp, s1, s2⟩, by rw [HC3.out]; omega⟩
  obtain ⟨ra, rc, rfl, _⟩ := hrec1.shape
  obtain ⟨ma, mc, rfl, _⟩ := hrec2.shape
  have HAP := Lib.hid happ
  have HS1 := Lib.hid s1
  have HS2 := Lib.hid s2
  have hl1 := s1.1
  have hl2 := s2.1
  obtain ⟨n1, hn1⟩ : ∃ n, rows.length = n := ⟨_, rfl⟩
  obtain ⟨n2, hn2⟩ : ∃ n, mows.length = n := ⟨_, rfl⟩
  rw [hn1] at hl1 HAP
  rw [hn2] at hl2 HAP
  rw [hn1, hn2]
  have HN1 := Lib.hid hn1
  have HN2 := Lib.hid hn2
  clear happ hrec1 hrec2 hrows hmows s1 s2 hnone b7 HB6 HREC H0 H1 HC3 hn1 hn2
  go_wp2_with fail
  go_loopw [12, 13, 16] (fun vp vq i u => ∃ k : Nat, k ≤ 20 ∧ i = .int .i64 k ∧ ApR w u d p1 p2 (.slice ra n1 rc) (.slice ma n2 mc) vp vq rows mows k) (fun _ _ i _ => 20 - (intOf i).toNat)
  case atStart => exact ⟨0, by omega, rfl, HAP.out⟩
  case round =>
    clear HAP
    obtain ⟨i, hi20, rfl, s, l1, l2, r1, r2, hboth, hquad, hcal⟩ := hrel
    obtain ⟨pa, pc, rfl, _⟩ := hquad.p.shape
    obtain ⟨qa, qc, rfl, _⟩ := hquad.q.shape
    have hc1 := hquad.c1
    have hc2 := hquad.c2
    obtain ⟨pn, hpn⟩ : ∃ n, r1.length = n := ⟨_, rfl⟩
    obtain ⟨qn, hqn⟩ : ∃ n, r2.length = n := ⟨_, rfl⟩
    rw [hpn, hqn] at hquad
    rw [hpn, hqn]
    have HPN := Lib.hid hpn
    have HQN := Lib.hid hqn
    have HBO := Lib.hid hboth
    have HQ := Lib.hid hquad
    clear hboth hquad hpn hqn
    by_cases hgo : i < n1 ∨ i < n2
    · by_cases hi1 : i < n1
      focus
        have hd1 : decide ((i : Int) < (n1 : Int)) = true := by simpa using hi1
        have i0 : (0 : Int) ≤ i := by omega
        have i1 : (i : Int) < (n1 : Int) := by omega
        obtain ⟨rg, rcap, ai, ci, heq, hcell, hrow, hle, hnil, hblk, hel⟩ := HQ.out.a.at i (by rw [HN1.out]; exact hi1)
        have heq' := heq
        simp only [Value.slice.injEq] at heq'
        obtain ⟨rfl, hlen9, rfl⟩ := heq'
        clear heq hlen9
        have hlr := HS1.out.2 _ (show rows.getD i [] ∈ rows by have := HN1.out; simp [show i < rows.length by omega])
        obtain ⟨r, hr⟩ : ∃ r, rows.getD i [] = r := ⟨_, rfl⟩
        rw [hr] at hcell hrow hle hblk hlr hel
        obtain ⟨m, hm⟩ : ∃ m, r.length = m := ⟨_, rfl⟩
        rw [hm] at hcell hrow hle hblk hlr hel
        have HEL := Lib.hid hel
        have HM := Lib.hid hm
        by_cases hfit : 1 + 1 + used r1 + needN m ≤ 30
        focus
          have hap := run_calm HBO.out.x HBO.out.fuse ai m ci r hrow hnil hle hblk (by omega) (by omega) hfit (by omega)
          have hcalm := HBO.out.x.calm
          have HAP := Lib.hid hap
          have HCALM := Lib.hid hcalm
          clear hap hcalm hrow hle hnil hblk hel hm hr hfit
          go_wp2_with fail
          refine HAP.out.mono ?_
          rintro e w7 ⟨rfl, ⟨s', l', hg⟩, hch⟩
          have hnl := needN_le r.length
          have hB7 := HBO.out.left hg hch
          have hQ7 := (HQ.out.chg hch HCALM.out)
          have hE7 := HEL.out.chg hch HCALM.out
          have cell7 : w7.cell? ⟨rg, i, none⟩ = some (.slice ai m ci) := by
            have hnS : ¬ (rg = p1 ∨ d.Has rg) := fun hk => by
              obtain ⟨_, _, cur, hc⟩ := HQ.out.a.block (b := rg) rfl
              exact (HCALM.out rg hk).2.2 cur hc
            rw [World.cell?_of_block (hch.block rg (block_lt_of_cell hcell) hnS)]; exact hcell
          have hcs : s'.calls ≤ 4 + 400 * i + 0 + 200 := by rw [hg.calls]; omega
          have bA : Below w7.heap.size w7 (w7.alloc (.cells #[.slice ai m ci] 25)) := (Below.refl _ _).alloc (Nat.le_refl _) _
          have hcl : (w7.alloc (.cells #[.slice ai m ci] 25)).cell? ((⟨w7.heap.size, 0, none⟩ : Addr).add 0) = some (.slice ai m ci) := by
            rw [Addr.add_mid]; exact (Blk.Is.new w7 25 #[.slice ai m ci]).at rfl
          have BOA := Lib.hid (hB7.below bA)
          have QA := Lib.hid (hQ7.below bA)
          have EA := Lib.hid (hE7.below bA)
          have HCL := Lib.hid hcl
          have hBA := BOA.out.x.bel.size
          clear hg hch hB7 hQ7 hE7 bA hcl HBO HQ HEL HAP HCALM hcell
          go_wp2_with (at_builtin; refine append_rec2 rfl (.tmp 88) (.tmp 93) rfl w.heap.size _ r1 rfl QA.out.p _ _ rfl _ r HCL.out EA.out ?_ ?_ ?_)
          · omega
          · exact hBA
          intro v9 w9 r9 g9 k9
          have hk9 : ∀ k, v9.ownBlock = some k → _ := fun q e => (k9 q e).elim (fun h => Or.inl h) (fun h => Or.inr (show (w7.alloc (.cells #[.slice ai m ci] 25)).heap.size ≤ q by simpa [World.size_alloc] using h))
          have hB9 := BOA.out.grown QA.out.p g9
          have hQ9 := QA.out.next.pushP (by omega) r9 g9 hk9
          obtain ⟨a9, c9, rfl, _⟩ := r9.shape
          have hmid : MidR w w9 d p1 p2 (.slice (some ⟨rg, 0, none⟩) n1 rc) (.slice ma n2 mc) (.slice a9 (r1 ++ [r]).length c9) (.slice qa qn qc) rows mows i :=
            ⟨s', l', l2, _, r2, hB9, hQ9, by omega, by omega⟩
          obtain ⟨pn9, hpn⟩ : ∃ n, (r1 ++ [r]).length = n := ⟨_, rfl⟩
          rw [hpn] at hmid
          rw [hpn]
          clear hpn
          have HMID := Lib.hid hmid
          clear hmid hB9 hQ9 hk9 r9 g9 k9 BOA QA EA HCL hcs hBA cell7 HM hc1 hc2 hcal hnl hlr i0 i1
          clear HPN HQN
        rotate_left
        focus
          have hap := run_room HBO.out.x ai m ci (by omega) (.inr (by omega))
          have HAP := Lib.hid hap
          clear hap hrow hle hnil hblk hel hm hr hfit HEL
          go_wp2_with fail
          refine HAP.out.mono ?_
          rintro e w9 ⟨rfl, b9⟩
          have hmid : MidR w w9 d p1 p2 (.slice (some ⟨rg, 0, none⟩) n1 rc) (.slice ma n2 mc) (.slice pa pn pc) (.slice qa qn qc) rows mows i :=
            ⟨s, l1, l2, r1, r2, HBO.out.below b9, (HQ.out.below b9).next, by omega, hc2⟩
          have HMID := Lib.hid hmid
          clear hmid b9 HAP HBO HQ hcell HM hc1 hc2 hcal hlr i0 i1
          clear HPN HQN
      rotate_left
      rotate_left
      focus
        have hd1 : decide ((i : Int) < (n1 : Int)) = false := by simp; omega
        have hx1 : ¬ ((i : Int) < (n1 : Int)) := by omega
        have hmid : MidR w wr d p1 p2 (.slice ra n1 rc) (.slice ma n2 mc) (.slice pa pn pc) (.slice qa qn qc) rows mows i :=
          ⟨s, l1, l2, r1, r2, HBO.out, HQ.out.next, by omega, hc2⟩
        have HMID := Lib.hid hmid
        clear hmid HBO HQ hc1 hc2 hcal
        clear HPN HQN
      all_goals
        obtain ⟨s, l1, l2, r1, r2, hboth, hquad, hcal, hc2⟩ := HMID.out
        have hc1 := hquad.c1
        have HBO := Lib.hid hboth
        have HQ := Lib.hid hquad
        clear hboth hquad HMID
        by_cases hi2 : i < n2
        · have hd2 : decide ((i : Int) < (n2 : Int)) = true := by simpa using hi2
          have i0 : (0 : Int) ≤ i := by omega
          have i1 : (i : Int) < (n2 : Int) := by omega
          obtain ⟨rg, rcap, ai, ci, heq, hcell, hrow, hle, hnil, hblk, hel⟩ := HQ.out.b.at i (by rw [HN2.out]; exact hi2)
          have heq' := heq
          simp only [Value.slice.injEq] at heq'
          obtain ⟨rfl, hlen9, rfl⟩ := heq'
          clear heq hlen9
          have hlr := HS2.out.2 _ (show mows.getD i [] ∈ mows by have := HN2.out; simp [show i < mows.length by omega])
          obtain ⟨r, hr⟩ : ∃ r, mows.getD i [] = r := ⟨_, rfl⟩
          rw [hr] at hcell hrow hle hblk hlr hel
          obtain ⟨m, hm⟩ : ∃ m, r.length = m := ⟨_, rfl⟩
          rw [hm] at hcell hrow hle hblk hlr hel
          have HEL := Lib.hid hel
          have HM := Lib.hid hm
          by_cases hfit : 30 + 1 + used r2 + needN m ≤ 59
          · have hap := run_calm HBO.out.y HBO.out.fuse ai m ci r hrow hnil hle hblk (by omega) (by omega) hfit (by omega)
            have hcalm := HBO.out.y.calm
            have HAP := Lib.hid hap
            have HCALM := Lib.hid hcalm
            clear hap hcalm hrow hle hnil hblk hel hm hr hfit
            go_wp2_with fail
            refine HAP.out.mono ?_
            rintro e w7 ⟨rfl, ⟨s', l', hg⟩, hch⟩
            have hnl := needN_le r.length
            have hB7 := HBO.out.right hg hch
            have hQ7 := (HQ.out.chg hch HCALM.out)
            have hE7 := HEL.out.chg hch HCALM.out
            have cell7 : w7.cell? ⟨rg, i, none⟩ = some (.slice ai m ci) := by
              have hnS : ¬ (rg = p2 ∨ d.Has rg) := fun hk => by
                obtain ⟨_, _, cur, hc⟩ := HQ.out.b.block (b := rg) rfl
                exact (HCALM.out rg hk).2.2 cur hc
              rw [World.cell?_of_block (hch.block rg (block_lt_of_cell hcell) hnS)]; exact hcell
            have hcs : s'.calls ≤ 4 + 400 * i + 200 + 200 := by rw [hg.calls]; omega
            have bA : Below w7.heap.size w7 (w7.alloc (.cells #[.slice ai m ci] 25)) := (Below.refl _ _).alloc (Nat.le_refl _) _
            have hcl : (w7.alloc (.cells #[.slice ai m ci] 25)).cell? ((⟨w7.heap.size, 0, none⟩ : Addr).add 0) = some (.slice ai m ci) := by
              rw [Addr.add_mid]; exact (Blk.Is.new w7 25 #[.slice ai m ci]).at rfl
            have BOA := Lib.hid (hB7.below bA)
            have QA := Lib.hid (hQ7.below bA)
            have EA := Lib.hid (hE7.below bA)
            have HCL := Lib.hid hcl
            have hBA := BOA.out.x.bel.size
            clear hg hch hB7 hQ7 hE7 bA hcl HBO HQ HEL HAP HCALM hcell
            go_wp2_with (at_builtin; refine append_rec2 rfl (.tmp 108) (.tmp 113) rfl w.heap.size _ r2 rfl QA.out.q _ _ rfl _ r HCL.out EA.out ?_ ?_ ?_)
            · omega
            · exact hBA
            intro v9 w9 r9 g9 k9
            have hk9 : ∀ k, v9.ownBlock = some k → _ := fun q e => (k9 q e).elim (fun h => Or.inl h) (fun h => Or.inr (show (w7.alloc (.cells #[.slice ai m ci] 25)).heap.size ≤ q by simpa [World.size_alloc] using h))
            have hB9 := BOA.out.grown QA.out.q g9
            have hQ9 := QA.out.pushQ (by omega) r9 g9 hk9
            obtain ⟨a9, c9, rfl, _⟩ := r9.shape
            have hnext : ApR w w9 d p1 p2 _ (.slice (some ⟨rg, 0, none⟩) n2 mc) _ (.slice a9 (r2 ++ [r]).length c9) rows mows (i + 1) :=
              ⟨s', l1, l', r1, _, hB9, hQ9, by omega⟩
            have HNX := Lib.hid hnext
            clear hnext hB9 hQ9 hk9 r9 g9 k9 BOA QA EA HCL hcs hBA cell7 HM hc1 hc2 hcal hnl hlr
            go_wp2
            refine ⟨⟨i + 1, by omega, by go_num, HNX.out⟩, ?_⟩
            simp [intOf]; omega
          · have hap := run_room HBO.out.y ai m ci (by omega) (.inr (by omega))
            have HAP := Lib.hid hap
            clear hap hrow hle hnil hblk hel hm hr hfit HEL
            go_wp2_with fail
            refine HAP.out.mono ?_
            rintro e w9 ⟨rfl, b9⟩
            have hnext : ApR w w9 d p1 p2 _ (.slice (some ⟨rg, 0, none⟩) n2 mc) _ (.slice qa qn qc) rows mows (i + 1) :=
              ⟨s, l1, l2, r1, r2, HBO.out.below b9, HQ.out.below b9, by omega⟩
            have HNX := Lib.hid hnext
            clear hnext b9 HAP HBO HQ hcell HM hc1 hc2 hcal hlr
            go_wp2
            refine ⟨⟨i + 1, by omega, by go_num, HNX.out⟩, ?_⟩
            simp [intOf]; omega
        · try (exfalso; omega)
          all_goals
            have hd2 : decide ((i : Int) < (n2 : Int)) = false := by simp; omega
            have hx2 : ¬ ((i : Int) < (n2 : Int)) := by omega
            have hnext : ApR w _ d p1 p2 _ (.slice ma n2 mc) _ (.slice qa qn qc) rows mows (i + 1) :=
              ⟨s, l1, l2, r1, r2, HBO.out, HQ.out, by omega⟩
            have HNX := Lib.hid hnext
            clear hnext HBO HQ hc1 hc2 hcal
            go_wp2
            refine ⟨⟨i + 1, by omega, by go_num, HNX.out⟩, ?_⟩
            simp [intOf]; omega
    · have hx1 : ¬ ((i : Int) < (n1 : Int)) := by omega
      have hx2 : ¬ ((i : Int) < (n2 : Int)) := by omega
      have hd1 : decide ((i : Int) < (n1 : Int)) = false := by simp; omega
      have hd2 : decide ((i : Int) < (n2 : Int)) = false := by simp; omega
      have hop := open_good d s 1 30 r1 wr HBO.out.x.disk HBO.out.x.rdy
      unfold Dk.ptr at hop
      have HOP := Lib.hid hop
      clear hop hgo hc1 hc2 hcal
      go_wp2_with fail
      refine HOP.out.mono ?_
      rintro e w4 ⟨q1, va2, rfl, ho1⟩
      have hB4 := HBO.out.below ho1.below
      have hQ4 := HQ.out.below ho1.below
      have hop := open_good d s 30 59 r2 w4 hB4.x.disk hB4.y.rdy
      unfold Dk.ptr at hop
      have hR4 := ho1.recs.rows
      obtain ⟨a4, c4, rfl, _⟩ := ho1.recs.shape
      rw [HPN.out] at hR4
      rw [HPN.out]
      have HOP := Lib.hid hop
      have HR4 := Lib.hid hR4
      have HB4 := Lib.hid hB4
      have HQ4 := Lib.hid hQ4
      clear hop ho1 hB4 hQ4 hR4 HBO HQ
      go_wp2_with fail
      refine HOP.out.mono ?_
      rintro e w5 ⟨q2, vb2, rfl, ho2⟩
      have hR5 := ho2.recs.rows
      obtain ⟨a5, c5, rfl, _⟩ := ho2.recs.shape
      rw [HQN.out] at hR5
      rw [HQN.out]
      have bz : Below w5.heap.size w5 (w5.alloc (.cells (bcells Disk.zero).toArray 5)) := (Below.refl _ _).alloc (Nat.le_refl _) _
      have hzr : Row (w5.alloc (.cells (bcells Disk.zero).toArray 5)) (some ⟨w5.heap.size, 0, none⟩) 64 Disk.zero := by
        refine Row.ofIs (Blk.Is.new w5 5 _) 0 64 _ Disk.zero_sec.len (by omega) Disk.zero_sec.byt fun j hj => ?_
        have := bcells_at Disk.zero j (by rw [Disk.zero_sec.len]; exact hj)
        rw [Nat.zero_add]; simpa using this
      have hcv := hzr.conv 64
      have hmk := Disk.run_make_bytes w5
      obtain ⟨w6, hw6⟩ : ∃ w6, w6 = w5.alloc (.cells (bcells Disk.zero).toArray 5) := ⟨_, rfl⟩
      rw [← hw6] at bz hcv hmk
      obtain ⟨st, hst⟩ : ∃ st, strOfNums Disk.zero = st := ⟨_, rfl⟩
      rw [hst] at hcv
      have hB6 := (HB4.out.below ho2.below).below bz
      have hQ6 := (HQ4.out.below ho2.below).below bz
      have HR6 := Lib.hid ((HR4.out.below ho2.below).below bz)
      have HS6 := Lib.hid (hR5.below bz)
      have hr0 := Disk.read_any d s (0 : Nat) w6 hB6.x.disk
      rw [read_in hB6.x.live.off hB6.x.disk.now.secs.count (show 0 < d.n by rw [HDN.out]; omega), hB6.first] at hr0
      dsimp only at hr0
      unfold Dk.ptr at hr0
      have HRD := Lib.hid hr0
      have HB6 := Lib.hid hB6
      have HQ6 := Lib.hid hQ6
      have HST := Lib.hid hst
      clear hB6 hQ6 hr0 hzr bz hw6 hR5 ho2 HOP HB4 HQ4 HR4 hst
      go_wp2_with fail
      refine HRD.out.mono ?_
      rintro e w7 ⟨vz, rfl, hm7, b7⟩
      obtain ⟨nz, az, cz, rfl, _, hlz, hrz⟩ := hm7.rows
      obtain rfl : nz = 64 := by rw [← hlz]; exact Disk.zero_sec.len
      have hB7 := HB6.out.below b7
      have hr0 := Disk.read_any d s (59 : Nat) w7 hB7.x.disk
      rw [read_in hB7.x.live.off hB7.x.disk.now.secs.count (show 59 < d.n by rw [HDN.out]; omega), hB7.last] at hr0
      dsimp only at hr0
      unfold Dk.ptr at hr0
      have HRD := Lib.hid hr0
      have HB7 := Lib.hid hB7
      have HQ7 := Lib.hid (HQ6.out.below b7)
      have HR7 := Lib.hid (HR6.out.below b7)
      have HS7 := Lib.hid (HS6.out.below b7)
      have HZ7 := Lib.hid hrz
      clear hm7 b7 hlz hrz hB7 hr0 HB6 HQ6 HR6 HS6
      go_wp2_with fail
      refine HRD.out.mono ?_
      rintro e w8 ⟨vy, rfl, hm8, b8⟩
      obtain ⟨ny, ay, cy, rfl, _, hly, hry⟩ := hm8.rows
      obtain rfl : ny = 64 := by rw [← hly]; exact Disk.zero_sec.len
      have hQ8 := HQ7.out.below b8
      have hs1 := sameRows_any _ _ _ _ w8 (HR7.out.below b8) hQ8.p.rows
      rw [show decide (r1 = r1) = true by simp] at hs1
      have HS1' := Lib.hid hs1
      have HQ8 := Lib.hid hQ8
      have HS8 := Lib.hid (HS7.out.below b8)
      have HZ8 := Lib.hid (HZ7.out.below b8)
      have HY8 := Lib.hid hry
      have HB8 := Lib.hid (HB7.out.x.bel.trans (b8.mono HB7.out.x.bel.size))
      clear hm8 b8 hly hry hQ8 hs1 HB7 HQ7 HR7 HS7 HZ7
      go_wp2_with fail
      refine HS1'.out.mono ?_
      rintro e w9 ⟨rfl, b9⟩
      have hs2 := sameRows_any _ _ _ _ w9 (HS8.out.below b9) (HQ8.out.below b9).q.rows
      rw [show decide (r2 = r2) = true by simp] at hs2
      have HS2' := Lib.hid hs2
      have HZ9 := Lib.hid (HZ8.out.below b9)
      have HY9 := Lib.hid (HY8.out.below b9)
      have HB9 := Lib.hid (HB8.out.trans (b9.mono HB8.out.size))
      clear hs2 b9 HS1' HQ8 HS8 HZ8 HY8 HB8
      go_wp2_with fail
      refine HS2'.out.mono ?_
      rintro e wX ⟨rfl, bX⟩
      have hcz := (HZ9.out.below bX).conv cz
      have hcy := (HY9.out.below bX).conv cy
      rw [HST.out] at hcz hcy
      have hsame : (st.toList == st.toList) = true := by simp
      have HBX := Lib.hid (HB9.out.trans (bX.mono HB9.out.size))
      clear bX HS2' HZ9 HY9 HB9
      go_wp2_with fail
      refine (awake_any _).mono ?_
      rintro e wY ⟨rfl, bY⟩
      go_wp2
      go_ret
      exact ⟨rfl, HBX.out.trans (bY.mono HBX.out.size)⟩
end Wal
end Go.Proofs.Ytfccoggdpogekaa

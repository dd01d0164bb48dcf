/-
DiskFuses' walk.
-/
import Derived.Test.YthjilmeaaghpaaaDiskScript
namespace Go.Proofs.Ythjilmeaaghpaaa
open Go.RowKit
set_option linter.unusedVariables false
namespace Pair
open Disk (Sec Secs St hasB Dk)

/-- The disk behind k counted calls, its fuse set to N at the start. -/
structure Burns (N k : Nat) (s : St) : Prop where
  calls : s.calls = k
  on : k < N → s.off = false ∧ s.fuse = (N : Int) - k
  off : N ≤ k → s.off = true
/-- One disk, apart from what came in. -/
structure One (w u : World) (dk : Dk) (s : St) : Prop where
  d : Disk.At u dk s
  df : dk.From w.heap.size
  bel : Below w.heap.size w u
theorem One.below {w u u' dk s} (h : One w u dk s) (hb : Below u.heap.size u u') : One w u' dk s := ⟨h.d.below hb, h.df, h.bel.trans (hb.mono h.bel.size)⟩
theorem One.chg {w u u' dk s s'} (h : One w u dk s) (hd : Disk.At u' dk s') (hc : Blk.Chg dk.Has u u') : One w u' dk s' := ⟨hd, h.df, h.bel.trans (hc.below (fun k hk => h.df.has hk) h.bel.size)⟩
theorem Burns.count {N k : Nat} {s : St} (h : Burns N k s) : Burns N (k + 1) s.count := by
  obtain ⟨h1, h2, h3⟩ := h
  refine ⟨by simp [St.count, h1], fun hk => ?_, fun hk => ?_⟩
  · obtain ⟨g1, g2⟩ := h2 (by omega)
    simp only [St.count, g1, g2, Bool.false_or]
    refine ⟨by simp; omega, ?_⟩
    rw [if_neg (by omega)]; omega
  · simp only [St.count]
    by_cases hk' : N ≤ k
    · simp [h3 hk']
    · obtain ⟨g1, g2⟩ := h2 (by omega)
      simp [g1, g2]; omega
theorem Burns.write {N k : Nat} {s : St} (h : Burns N k s) (i : Int) (zs : List Int) : Burns N (k + 1) (s.write i zs) := by
  have := h.count
  unfold St.write
  split
  · exact ⟨this.calls, this.on, this.off⟩
  · exact this
theorem Burns.flush {N k : Nat} {s : St} (h : Burns N k s) : Burns N (k + 1) s.flush := by
  have := h.count
  unfold St.flush
  split
  · exact this
  · exact ⟨this.calls, this.on, this.off⟩
theorem Burns.isOff {N k : Nat} {s : St} (h : Burns N k s) : s.off = decide (N ≤ k) := by
  rcases Nat.lt_or_ge k N with hk | hk
  · rw [(h.on hk).1]; simpa using hk
  · rw [h.off hk]; simpa using hk
theorem Burns.writeErr {N k : Nat} {s : St} (h : Burns N k s) (i : Int) (len : Nat) : decide (s.writeErr i len = 7) = decide (N ≤ k + 1) := by
  unfold St.writeErr
  rw [h.count.isOff]
  split
  · rename_i h1; simpa using h1
  · rename_i h1
    split <;> simpa using h1
theorem Burns.flushErr {N k : Nat} {s : St} (h : Burns N k s) : decide (s.flushErr = 7) = decide (N ≤ k + 1) := by
  unfold St.flushErr
  rw [h.count.isOff]
  split
  · rename_i h1; simpa using h1
  · rename_i h1; simpa using h1

theorem fuseN (n : Int) : ∃ N : Nat, wrap64 (wrap64 ((IntKind.u64.wrap n).tmod 30) + 1) = (N : Int) ∧ 1 ≤ N ∧ N ≤ 30 := by
  have h0 : 0 ≤ IntKind.u64.wrap n := by rw [IntKind.wrap_u64]; omega
  obtain ⟨m, hm⟩ := Int.eq_ofNat_of_zero_le h0
  rw [hm]
  have e : ((m : Int)).tmod 30 = ((m % 30 : Nat) : Int) := by rw [Int.tmod_eq_emod_of_nonneg (by omega)]; omega
  rw [e, IntWalk.wrap64_in ((m % 30 : Nat) : Int) (by omega), IntWalk.wrap64_in (((m % 30 : Nat) : Int) + 1) (by omega)]
  exact ⟨m % 30 + 1, by omega, by omega, by omega⟩

set_option maxRecDepth 100000 in
set_option maxHeartbeats 2000000 in
theorem diskFuses_walk (n : Int) (l : Value) (len : Nat) (cl : Nat → Cl) (w : World) (hs : Script w l len cl) :
    Calls Try.prog 8 #[l, .int .i64 n] w fun e w' => e = .returned (.bool true) ∧ Below w.heap.size w w' := by
  obtain ⟨a, cap, rfl, hcells⟩ := hs.shape
  have hshort := hs.short
  obtain ⟨N, hN, hN1, hN30⟩ := fuseN n
  have HCL := Lib.hid hcells
  clear hs hcells
  go_enter Try.func8, Try.ntmps8
  go_wp2_with fail
  rw [hN]
  refine (Disk.new_any _ _).mono ?_
  rintro e w1 ⟨dk, rfl, hdn, hdf, hd1, b1⟩
  have HD1 := Lib.hid hd1
  clear hd1 hN
  unfold Dk.ptr
  go_wp2_with fail
  refine (Disk.fuse_any dk _ N _ HD1.out (by omega)).mono ?_
  rintro e w2 ⟨rfl, hd2, c2⟩
  rw [Int.max_eq_left (by omega)] at hd2
  have hone : One w w2 dk _ := ⟨hd2, hdf, b1.trans ((c2.mono (S' := dk.Has) (fun k _ e => .inl e)).below (fun k hk => hdf.has hk) b1.size)⟩
  have hbn : Burns N 0 { Disk.fresh 4 with fuse := (N : Int) } := ⟨rfl, fun _ => ⟨rfl, by simp⟩, fun h => by omega⟩
  have HO := Lib.hid hone
  have HB := Lib.hid hbn
  clear HD1 hd2 c2 hone hbn hdf b1
  go_wp2_with fail
  go_loopw [6, 7] (fun k i u => ∃ t k' : Nat, ∃ s : St, t ≤ len ∧ t ≤ 60 ∧ k' ≤ t ∧ i = .int .i64 t ∧ k = .int .i64 k' ∧ One w u dk s ∧ Burns N k' s) (fun _ i _ => 60 - (intOf i).toNat)
  case atStart => exact ⟨0, 0, _, by omega, by omega, by omega, rfl, rfl, HO.out, HB.out⟩
  case round =>
    clear HO HB
    obtain ⟨t, k, s, ht, ht60, hkt, rfl, rfl, ho, hbn⟩ := hrel
    have HO := Lib.hid ho
    have HB := Lib.hid hbn
    clear ho hbn
    by_cases hgo : t < len ∧ t < 60
    · obtain ⟨htl, ht6⟩ := hgo
      obtain ⟨b, off, rfl, hof⟩ := HCL.out (by omega)
      obtain ⟨hok, hblt, hcell⟩ := hof t htl
      obtain ⟨c, hc⟩ : ∃ c, cl t = c := ⟨_, rfl⟩
      rw [hc] at hok hcell
      obtain ⟨cd, ci, cb, sh, pa, pl, pc, picks⟩ := c
      have k0 : ∀ u, Below w.heap.size w u → u.cell? ⟨b, off + t * 5, none⟩ = some (.int .i64 cd) := fun u hu => by rw [hu.cell (by exact hblt)]; exact hcell 0 _ rfl
      have k1 : ∀ u, Below w.heap.size w u → u.cell? ⟨b, off + t * 5 + 1, none⟩ = some (.int .i64 ci) := fun u hu => by rw [hu.cell (by exact hblt)]; exact hcell 1 _ rfl
      have k2 : ∀ u, Below w.heap.size w u → u.cell? ⟨b, off + t * 5 + 2, none⟩ = some (.int .u8 cb) := fun u hu => by rw [hu.cell (by exact hblt)]; exact hcell 2 _ rfl
      have k3 : ∀ u, Below w.heap.size w u → u.cell? ⟨b, off + t * 5 + 3, none⟩ = some (.bool sh) := fun u hu => by rw [hu.cell (by exact hblt)]; exact hcell 3 _ rfl
      have k4 : ∀ u, Below w.heap.size w u → u.cell? ⟨b, off + t * 5 + 4, none⟩ = some (.slice pa pl pc) := fun u hu => by rw [hu.cell (by exact hblt)]; exact hcell 4 _ rfl
      have hd : decide ((t : Int) < (len : Int)) = true := by simpa using htl
      have hb := And.intro hok.b0 hok.b1
      dsimp only at hb
      have r0 := k0 _ HO.out.bel
      have HCELL := Lib.hid hcell
      clear hok hcell hof hc
      by_cases hd0 : cd = 0
      · subst hd0
        have hwe := HB.out.writeErr ci (secLen sh)
        have hcal := HB.out.calls
        go_wp2_with fail
        go_region_held3 (fun u => Below w.heap.size w u)
          (first | exact HO.out.bel.trans ((Below.refl _ _).drew) | assumption)
          (first
            | (go_at_call 23; refine (sector_any _ _ _ _ _ _ hb).mono ?_; rintro e wS ⟨aS, rfl, hrowS, hisS, haS, hbS⟩; have hoS := (HO.out.below (Below.refl _ _).drew).below hbS; have hbelS := hoS.bel)
            | (go_at_call 21; refine (Disk.write_any dk s ci _ _ _ _ _ hoS.d (by omega) hrowS (okBytesD hoS.d hisS)).mono ?_; rintro e wW ⟨rfl, hdW, hcW⟩; have hoW := hoS.chg hdW hcW; have hbelW := hoW.bel))
        have hb2 := HB.out.write ci (secBytes cb sh)
        generalize s.writeErr ci (secLen sh) = er at *
        generalize s.write ci (secBytes cb sh) = s2 at *
        have hcl : Calls Try.prog 12 #[.pointer (some ⟨dk.p, 0, none⟩)] wW fun e u' => e = .returned (.int .i64 ((k : Int) + 1)) ∧ wW = u' := by
          have := Disk.calls_any dk s2 _ hoW.d
          rw [hb2.calls] at this
          exact this
        have hdw := Disk.down_any dk s2 _ hoW.d
        have hnext : One w wW dk s2 ∧ Burns N (k + 1) s2 := ⟨hoW, hb2⟩
        have HNX := Lib.hid hnext
        rcases Nat.lt_or_ge (k + 1) N with hlt | hge
        · have hoff : s2.off = false := (hb2.on hlt).1
          have he7 : (er == 7) = false := by
            rw [decide_eq_false (show ¬ N ≤ k + 1 by omega)] at hwe
            simpa using hwe
          rw [hoff] at hdw
          have HCA := Lib.hid hcl
          have HDW := Lib.hid hdw
          clear hcl hdw hoff hnext hoW hb2 hdW hcW hbelW hoS hbelS hbS hisS hrowS haS
          go_wp2_with fail
          refine HCA.out.mono ?_
          rintro e u3 ⟨rfl, rfl⟩
          go_wp2_with fail
          refine HDW.out.mono ?_
          rintro e u3 ⟨rfl, rfl⟩
          go_wp2
          refine ⟨⟨t + 1, k + 1, s2, by omega, by omega, by omega, by go_num, by go_num, HNX.out.1, HNX.out.2⟩, ?_⟩
          simp [intOf]; omega
        · have hoff : s2.off = true := hb2.off hge
          have he7 : er = 7 := by
            rw [decide_eq_true hge] at hwe
            simpa using hwe
          subst he7
          rw [hoff] at hdw
          have HCA := Lib.hid hcl
          have HDW := Lib.hid hdw
          clear hcl hdw hoff hnext hoW hb2 hdW hcW hbelW hoS hbelS hbS hisS hrowS haS
          go_wp2_with fail
          refine HCA.out.mono ?_
          rintro e u3 ⟨rfl, rfl⟩
          go_wp2_with fail
          refine HDW.out.mono ?_
          rintro e u3 ⟨rfl, rfl⟩
          go_wp2
          refine ⟨⟨t + 1, k + 1, s2, by omega, by omega, by omega, by go_num, by go_num, HNX.out.1, HNX.out.2⟩, ?_⟩
          simp [intOf]; omega
      · by_cases hd1 : cd = 1
        · subst hd1
          have hwe := HB.out.flushErr
          have hcal := HB.out.calls
          go_wp2_with fail
          refine (Disk.flush_any dk s _ HO.out.d (by omega)).mono ?_
          rintro e wW ⟨rfl, hdW, hcW⟩
          have hoW := HO.out.chg hdW hcW
          have hb2 := HB.out.flush
          generalize s.flushErr = er at *
          generalize s.flush = s2 at *
          have hcl : Calls Try.prog 12 #[.pointer (some ⟨dk.p, 0, none⟩)] wW fun e u' => e = .returned (.int .i64 ((k : Int) + 1)) ∧ wW = u' := by
            have := Disk.calls_any dk s2 _ hoW.d
            rw [hb2.calls] at this
            exact this
          have hdw := Disk.down_any dk s2 _ hoW.d
          have hnext : One w wW dk s2 ∧ Burns N (k + 1) s2 := ⟨hoW, hb2⟩
          have HNX := Lib.hid hnext
          rcases Nat.lt_or_ge (k + 1) N with hlt | hge
          · have hoff : s2.off = false := (hb2.on hlt).1
            have he7 : (er == 7) = false := by
              rw [decide_eq_false (show ¬ N ≤ k + 1 by omega)] at hwe
              simpa using hwe
            rw [hoff] at hdw
            have HCA := Lib.hid hcl
            have HDW := Lib.hid hdw
            clear hcl hdw hoff hnext hoW hb2 hdW hcW
            go_wp2_with fail
            refine HCA.out.mono ?_
            rintro e u3 ⟨rfl, rfl⟩
            go_wp2_with fail
            refine HDW.out.mono ?_
            rintro e u3 ⟨rfl, rfl⟩
            go_wp2
            refine ⟨⟨t + 1, k + 1, s2, by omega, by omega, by omega, by go_num, by go_num, HNX.out.1, HNX.out.2⟩, ?_⟩
            simp [intOf]; omega
          · have hoff : s2.off = true := hb2.off hge
            have he7 : er = 7 := by
              rw [decide_eq_true hge] at hwe
              simpa using hwe
            subst he7
            rw [hoff] at hdw
            have HCA := Lib.hid hcl
            have HDW := Lib.hid hdw
            clear hcl hdw hoff hnext hoW hb2 hdW hcW
            go_wp2_with fail
            refine HCA.out.mono ?_
            rintro e u3 ⟨rfl, rfl⟩
            go_wp2_with fail
            refine HDW.out.mono ?_
            rintro e u3 ⟨rfl, rfl⟩
            go_wp2
            refine ⟨⟨t + 1, k + 1, s2, by omega, by omega, by omega, by go_num, by go_num, HNX.out.1, HNX.out.2⟩, ?_⟩
            simp [intOf]; omega
        · have e0 : (cd == 0) = false := by simpa using hd0
          have e1 : (cd == 1) = false := by simpa using hd1
          go_wp2_with fail
          refine ⟨⟨t + 1, k, s, by omega, by omega, by omega, by go_num, rfl, HO.out, HB.out⟩, ?_⟩
          simp [intOf]; omega
    · have hcal := HB.out.calls
      have hcr : ∀ w', Disk.At w' dk s → Calls Try.prog 20 #[.pointer (some ⟨dk.p, 0, none⟩), .slice none 0 0] w' fun e u' => e = .returned (.tuple #[]) ∧ Disk.At u' dk (s.crashed []) ∧ Blk.Chg dk.Has w' u' :=
        fun w' hw' => Disk.crash_any dk s none 0 0 [] w' hw' (Row.nil w') (Nat.le_refl _) (by omega) (fun _ => rfl)
      have HCR := Lib.hid hcr
      have hfe : (s.crashed []).flushErr = 0 := by simp [Disk.St.flushErr, Disk.St.count, Disk.St.crashed, Disk.St.crashTo, Disk.St.flushed]
      have hof : (s.crashed []).off = false := rfl
      have hca : (s.crashed []).calls = k := hcal
      clear hcr
      rcases (show t = len ∨ t < len ∧ t = 60 by omega) with rfl | ⟨htl, rfl⟩
      · have hd : decide ((t : Int) < (t : Int)) = false := by simp
        go_wp2_with fail
        refine (HCR.out _ HO.out.d).mono ?_
        rintro e wC ⟨rfl, hdC, hcC⟩
        have hoC := HO.out.chg hdC hcC
        have hdw := Disk.down_any dk _ _ hoC.d
        have hfl := Disk.flush_any dk _ _ hoC.d (by rw [hca]; omega)
        rw [hof] at hdw
        rw [hfe] at hfl
        generalize s.crashed [] = sC at *
        have HOC := Lib.hid hoC
        have HDW := Lib.hid hdw
        have HFL := Lib.hid hfl
        clear hdC hcC hoC hdw hfl
        go_wp2_with fail
        refine HDW.out.mono ?_
        rintro e u3 ⟨rfl, rfl⟩
        go_wp2_with fail
        refine HFL.out.mono ?_
        rintro e wF ⟨rfl, hdF, hcF⟩
        have hoF := HOC.out.chg hdF hcF
        have HOF := Lib.hid hoF
        clear hdF hcF hoF
        go_wp2_with fail
        refine (Disk.awake_any _).mono ?_
        rintro e wA ⟨rfl, bA⟩
        go_wp2
        go_ret
        exact ⟨rfl, HOF.out.bel.trans (bA.mono HOF.out.bel.size)⟩
      · have hd : decide (((60 : Nat) : Int) < (len : Int)) = true := by simp; omega
        go_wp2_with fail
        refine (HCR.out _ HO.out.d).mono ?_
        rintro e wC ⟨rfl, hdC, hcC⟩
        have hoC := HO.out.chg hdC hcC
        have hdw := Disk.down_any dk _ _ hoC.d
        have hfl := Disk.flush_any dk _ _ hoC.d (by rw [hca]; omega)
        rw [hof] at hdw
        rw [hfe] at hfl
        generalize s.crashed [] = sC at *
        have HOC := Lib.hid hoC
        have HDW := Lib.hid hdw
        have HFL := Lib.hid hfl
        clear hdC hcC hoC hdw hfl
        go_wp2_with fail
        refine HDW.out.mono ?_
        rintro e u3 ⟨rfl, rfl⟩
        go_wp2_with fail
        refine HFL.out.mono ?_
        rintro e wF ⟨rfl, hdF, hcF⟩
        have hoF := HOC.out.chg hdF hcF
        have HOF := Lib.hid hoF
        clear hdF hcF hoF
        go_wp2_with fail
        refine (Disk.awake_any _).mono ?_
        rintro e wA ⟨rfl, bA⟩
        go_wp2
        go_ret
        exact ⟨rfl, HOF.out.bel.trans (bA.mono HOF.out.bel.size)⟩
end Pair
end Go.Proofs.Ythjilmeaaghpaaa

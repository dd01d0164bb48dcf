/-
DiskSure's walk.
-/
import Derived.Test.YthjilmeaaghpaaaDiskKept
import Derived.Test.YthjilmeaaghpaaaDiskFusesLaw
namespace Go.Proofs.Ythjilmeaaghpaaa
open Go.RowKit
set_option linter.unusedVariables false
namespace Pair
open Disk (Sec Secs St hasB Dk Unlit Kept)

theorem atN (n : Int) : ∃ N : Nat, wrap64 ((IntKind.u64.wrap n).tmod 4) = (N : Int) ∧ N < 4 := by
  have h0 : 0 ≤ IntKind.u64.wrap n := by rw [IntKind.wrap_u64]; omega
  obtain ⟨m, hm⟩ := Int.eq_ofNat_of_zero_le h0
  rw [hm]
  have e : ((m : Int)).tmod 4 = ((m % 4 : Nat) : Int) := by rw [Int.tmod_eq_emod_of_nonneg (by omega)]; omega
  rw [e, IntWalk.wrap64_in ((m % 4 : Nat) : Int) (by omega)]
  exact ⟨m % 4, rfl, by omega⟩

theorem unlit_read {s : St} (h : Unlit s) {m : Nat} (hm : s.now.length = m) {j : Nat} (hj : j < m) : s.read j = (s.now.getD j [], 0) := by
  unfold St.read
  have hb : hasB (j : Int) s.now.length = true := by simp [hasB, hm]; omega
  simp [h.off, hb]
theorem One.alloc {w u : World} {dk s} (h : One w u dk s) (o : Obj) : One w (u.alloc o) dk s := h.below ((Below.refl _ _).alloc (Nat.le_refl _) o)
theorem One.count {w u : World} {dk s} (h : One w u dk s) : s.now.length = dk.n := h.d.now.secs.count
theorem One.sec {w u : World} {dk s} (h : One w u dk s) {j : Nat} (hj : j < dk.n) : (s.now.getD j []).length = 64 := (h.d.now.secs.at hj).len
/-- The four rows that were read. -/
def Olds (u : World) (base ob j : Nat) (l : List (List Int)) : Prop :=
  ∃ cs, Blk.Is u ob 51 cs ∧ cs.size = 4 ∧ ∀ i, i < j → ∃ v, cs[i]? = some v ∧ Mine u base v (l.getD i [])
theorem Olds.chg {u u' : World} {base ob j l} {S : Nat → Prop} (h : Olds u base ob j l) (hc : Blk.Chg S u u') (hn : ¬ S ob) (hb : ∀ b cur, Blk.Is u b 5 cur → ¬ S b) : Olds u' base ob j l := by
  obtain ⟨cs, h1, h2, h3⟩ := h
  refine ⟨cs, hc.is h1 hn, h2, fun i hi => ?_⟩
  obtain ⟨v, hv, hm⟩ := h3 i hi
  refine ⟨v, hv, hm.chg hc fun b hob => ?_⟩
  obtain ⟨_, _, cur, hcur⟩ := hm.block hob
  exact hb b cur hcur
theorem Olds.below {u u' : World} {base ob j l} (h : Olds u base ob j l) (hb : Below u.heap.size u u') : Olds u' base ob j l :=
  h.chg (S := fun _ => False) (Blk.Chg.ofBelow' hb) (by simp) (by simp)
theorem Olds.disk {u u' : World} {base ob j l dk s} (h : Olds u base ob j l) (hd : Disk.At u dk s) (hc : Blk.Chg dk.Has u u') : Olds u' base ob j l := by
  obtain ⟨cs, h1, _⟩ := id h
  refine h.chg hc ?_ fun b cur k => hd.notBytes k
  obtain ⟨c1, n1, _⟩ := hd.now.lies
  obtain ⟨c2, n2, _⟩ := hd.sure.lies
  rintro (rfl | rfl | rfl)
  · exact hd.obj.ne h1 (by decide) rfl
  · exact n1.ne h1 (by decide) rfl
  · exact n2.ne h1 (by decide) rfl
theorem Olds.new (u : World) (base : Nat) (z : Array Value) (hz : z.size = 4) (l : List (List Int)) : Olds (u.alloc (.cells z 51)) base u.heap.size 0 l :=
  ⟨z, Blk.Is.new u _ _, hz, fun i hi => absurd hi (by omega)⟩
theorem Olds.put {u : World} {base ob j l} (h : Olds u base ob j l) (hj : j < 4) (hb : base ≤ ob) (v : Value) (hm : Mine u base v (l.getD j [])) : Olds (u.setCell ⟨ob, j, none⟩ v) base ob (j + 1) l := by
  obtain ⟨cs, h1, h2, h3⟩ := h
  have hc : Blk.Chg (fun k => k = ob) u (u.setCell ⟨ob, j, none⟩ v) := Blk.Chg.setAt (Blk.Chg.refl _ _) rfl
  have own : ∀ v l, Mine u base v l → Mine (u.setCell ⟨ob, j, none⟩ v) base v l → True := fun _ _ _ _ => trivial
  have keep : ∀ {x zs}, Mine u base x zs → Mine (u.setCell ⟨ob, j, none⟩ v) base x zs := fun {x zs} hx => hx.chg hc fun b hob e => by
    obtain ⟨_, _, cur, hcur⟩ := hx.block hob
    exact h1.ne hcur (by decide) e.symm
  refine ⟨_, h1.set j v, by simp [h2], fun i hi => ?_⟩
  by_cases hij : i = j
  · subst hij
    exact ⟨v, by simp [h2, hj], keep hm⟩
  · obtain ⟨x, hx, hmx⟩ := h3 i (by omega)
    exact ⟨x, by rw [Array.getElem?_setIfInBounds_ne (Ne.symm hij)]; exact hx, keep hmx⟩
theorem Olds.at {u : World} {base ob j l} (h : Olds u base ob j l) {i : Nat} (hi : i < j) (hl : (l.getD i []).length = 64) : ∃ a cap, u.cell? ⟨ob, i, none⟩ = some (.slice a 64 cap) ∧ Row u a 64 (l.getD i []) := by
  obtain ⟨cs, h1, h2, h3⟩ := h
  obtain ⟨v, hv, hm⟩ := h3 i hi
  obtain ⟨a, cap, rfl, _, hr⟩ := hm.row
  rw [hl] at hv hr
  exact ⟨a, cap, h1.at hv, hr⟩

/-- Behind the crash. -/
structure Fin (w u : World) (dk : Dk) (s1 s3 : St) (ob bb : Nat) (pk : List Int) : Prop where
  one : One w u dk s3
  old : Olds u w.heap.size ob 4 s1.now
  new : Blk.Is u bb 5 (bcells pk).toArray
theorem Fin.below {w u u' dk s1 s3 ob bb pk} (h : Fin w u dk s1 s3 ob bb pk) (hb : Below u.heap.size u u') : Fin w u' dk s1 s3 ob bb pk :=
  ⟨h.one.below hb, h.old.below hb, (Blk.Chg.ofBelow' (S := fun _ => False) hb).is h.new (by simp)⟩

set_option maxRecDepth 100000 in
set_option maxHeartbeats 8000000 in
theorem diskSure_walk (l : Value) (len : Nat) (cl : Nat → Cl) (a1 : Option Addr) (len1 cap1 : Nat) (z1 : List Int) (n : Int) (a3 : Option Addr) (len3 cap3 : Nat) (z3 : List Int) (w : World) (hs : Script w l len cl)
    (hr1 : Row w a1 len1 z1) (hr3 : Row w a3 len3 z3) (hl3 : len3 ≤ cap3) (hn3 : a3 = none → cap3 = 0) (hb3 : 0 < len3 → ∀ x, a3 = some x → x.block < w.heap.size) :
    Calls Try.prog 7 #[l, .slice a1 len1 cap1, .int .i64 n, .slice a3 len3 cap3] w fun e w' => e = .returned (.bool true) ∧ Below w.heap.size w w' := by
  obtain ⟨a, cap, rfl, hcells⟩ := hs.shape
  have hshort := hs.short
  obtain ⟨A, hA, hA4⟩ := atN n
  have HCL := Lib.hid hcells
  have HR1 := Lib.hid hr1
  have HR3 := Lib.hid hr3
  have HN3 := Lib.hid hn3
  have HB3 := Lib.hid hb3
  clear hs hcells hr1 hr3 hn3 hb3
  obtain ⟨z, hmk, hz⟩ : ∃ z, (∀ w : World, (Instr.makeSlice 28 (.int .i64 64) (.int .i64 64)).run Try.prog w = .ok (.slice (some ⟨w.heap.size, 0, none⟩) 64 64) (w.alloc (.cells z 5))) ∧ z = (bcells Disk.zero).toArray := ⟨_, Disk.run_make_bytes, rfl⟩
  have HZ := Lib.hid hz
  clear hz
  go_enter Try.func7, Try.ntmps7
  go_wp2_with fail
  refine (Disk.new_any _ _).mono ?_
  rintro e w1 ⟨dk, rfl, hdn, hdf, hd1, b1⟩
  have hdn : dk.n = 4 := hdn
  have HO := Lib.hid (⟨hd1, hdf, b1⟩ : One w w1 dk _)
  clear hd1 hdf b1
  unfold Dk.ptr
  go_wp2_with fail
  go_loopw [10] (fun i u => ∃ t : Nat, ∃ s : St, t ≤ len ∧ t ≤ 30 ∧ i = .int .i64 t ∧ One w u dk s ∧ Unlit s ∧ s.calls ≤ t) (fun i _ => 30 - (intOf i).toNat)
  case atStart => exact ⟨0, _, by omega, by omega, rfl, HO.out, ⟨rfl, rfl⟩, Nat.le_refl _⟩
  case round =>
    clear HO
    obtain ⟨t, s, ht, ht30, rfl, ho, hcm, hcal⟩ := hrel
    have HO := Lib.hid ho
    have HC := Lib.hid hcm
    clear ho hcm
    by_cases hgo : t < len ∧ t < 30
    · obtain ⟨htl, ht3⟩ := hgo
      obtain ⟨b, off, rfl, hof⟩ := HCL.out (by omega)
      obtain ⟨hok, hblt, hcell⟩ := hof t htl
      obtain ⟨c, hc⟩ : ∃ c, cl t = c := ⟨_, rfl⟩
      rw [hc] at hok hcell
      obtain ⟨cd, ci, cb, sh, pa, pl, pc, picks⟩ := c
      have k0 : ∀ u, Below w.heap.size w u → u.cell? ⟨b, off + t * 5, none⟩ = some (.int .i64 cd) := fun u hu => by rw [hu.cell (by exact hblt)]; exact hcell 0 _ rfl
      have k1 : ∀ u, Below w.heap.size w u → u.cell? ⟨b, off + t * 5 + 1, none⟩ = some (.int .i64 ci) := fun u hu => by rw [hu.cell (by exact hblt)]; exact hcell 1 _ rfl
      have k2 : ∀ u, Below w.heap.size w u → u.cell? ⟨b, off + t * 5 + 2, none⟩ = some (.int .u8 cb) := fun u hu => by rw [hu.cell (by exact hblt)]; exact hcell 2 _ rfl
      have k3 : ∀ u, Below w.heap.size w u → u.cell? ⟨b, off + t * 5 + 3, none⟩ = some (.bool sh) := fun u hu => by rw [hu.cell (by exact hblt)]; exact hcell 3 _ rfl
      have k4 : ∀ u, Below w.heap.size w u → u.cell? ⟨b, off + t * 5 + 4, none⟩ = some (.slice pa pl pc) := fun u hu => by rw [hu.cell (by exact hblt)]; exact hcell 4 _ rfl
      have hd : decide ((t : Int) < (len : Int)) = true := by simpa using htl
      have hb := And.intro hok.b0 hok.b1
      dsimp only at hb
      have r0 := k0 _ HO.out.bel
      clear hok hcell hof hc
      by_cases hd0 : cd = 0
      · subst hd0
        go_wp2_with fail
        go_region_held3 (fun u => Below w.heap.size w u)
          (first | exact HO.out.bel.trans ((Below.refl _ _).drew) | assumption)
          (first
            | (go_at_call 23; refine (sector_any _ _ _ _ _ _ hb).mono ?_; rintro e wS ⟨aS, rfl, hrowS, hisS, haS, hbS⟩; have hoS := (HO.out.below (Below.refl _ _).drew).below hbS; have hbelS := hoS.bel)
            | (go_at_call 21; refine (Disk.write_any dk s ci _ _ _ _ _ hoS.d (by omega) hrowS (okBytesD hoS.d hisS)).mono ?_; rintro e wW ⟨rfl, hdW, hcW⟩; have hoW := hoS.chg hdW hcW; have hbelW := hoW.bel))
        have hnext : One w wW dk (s.write ci (secBytes cb sh)) ∧ Unlit (s.write ci (secBytes cb sh)) ∧ (s.write ci (secBytes cb sh)).calls ≤ t + 1 := ⟨hoW, HC.out.write _ _, by rw [write_calls]; omega⟩
        have HNX := Lib.hid hnext
        clear hnext hoW hdW hcW hbelW hoS hbelS hbS hisS hrowS haS k0 k1 k2 k3 k4
        go_wp2
        refine ⟨⟨t + 1, _, by omega, by omega, by go_num, HNX.out.1, HNX.out.2.1, HNX.out.2.2⟩, ?_⟩
        simp [intOf]; omega
      · have e0 : (cd == 0) = false := by simpa using hd0
        go_wp2_with fail
        refine ⟨⟨t + 1, s, by omega, by omega, by go_num, HO.out, HC.out, by omega⟩, ?_⟩
        simp [intOf]; omega
    · obtain ⟨tt, htt, hcond⟩ : ∃ tt : Int, (t : Int) = tt ∧ (decide (tt < (len : Int)) = false ∨ decide (tt < (len : Int)) = true ∧ tt = 30) := by
        refine ⟨_, rfl, ?_⟩
        rcases (show t = len ∨ t < len ∧ t = 30 by omega) with rfl | ⟨htl, rfl⟩
        · left; simp
        · right; exact ⟨by simp; omega, rfl⟩
      have hcal2 : s.calls ≤ 30 := by omega
      rw [htt]
      clear htt hgo hcal ht ht30
      rcases hcond with hd | ⟨hd, rfl⟩
      all_goals
        go_wp2_with fail
        refine (Disk.flush_any dk s _ HO.out.d (by omega)).mono ?_
        rintro e wF ⟨rfl, hdF, hcF⟩
        obtain ⟨hfe, hcm, hsn⟩ := HC.out.flush
        rw [hfe]
        have hoF := HO.out.chg hdF hcF
        have hcalF : s.flush.calls ≤ 31 := by rw [flush_calls]; omega
        generalize s.flush = s1 at *
        have HO1 := Lib.hid hoF
        have HC1 := Lib.hid hcm
        have HS1 := Lib.hid hsn
        clear hdF hcF hoF hcm hsn hfe HO HC hcal2
        go_wp2_with fail
        rw [hA]
        have ho2 := HO1.out.alloc (.cells #[.slice none 0 0, .slice none 0 0, .slice none 0 0, .slice none 0 0] 51)
        have hol := Olds.new wF w.heap.size #[.slice none 0 0, .slice none 0 0, .slice none 0 0, .slice none 0 0] rfl s1.now
        have hbase := HO1.out.bel.size
        obtain ⟨ob, hob⟩ : ∃ ob, wF.heap.size = ob := ⟨_, rfl⟩
        obtain ⟨w3, hw3⟩ : ∃ w3, w3 = wF.alloc (.cells #[.slice none 0 0, .slice none 0 0, .slice none 0 0, .slice none 0 0] 51) := ⟨_, rfl⟩
        rw [hob] at hol hbase
        rw [hob]
        rw [← hw3] at ho2 hol
        rw [← hw3]
        have HO2 := Lib.hid ho2
        have HOL := Lib.hid hol
        clear ho2 hol hw3 hob HO1
        go_loopw [54] (fun i u => ∃ j : Nat, j ≤ 4 ∧ i = .int .i64 j ∧ One w u dk s1 ∧ Olds u w.heap.size ob j s1.now) (fun i _ => 4 - (intOf i).toNat)
        case atStart => exact ⟨0, by omega, rfl, HO2.out, HOL.out⟩
        case round =>
          clear HO2 HOL
          obtain ⟨j, hj, rfl, ho2, hol⟩ := hrel
          have HO2 := Lib.hid ho2
          have HOL := Lib.hid hol
          clear ho2 hol
          by_cases hj4 : j < 4
          · have hret := Disk.read_any dk s1 j _ HO2.out.d
            rw [unlit_read HC1.out (m := 4) (HO2.out.count.trans hdn) hj4] at hret
            dsimp only at hret
            have HRT := Lib.hid hret
            clear hret
            go_wp2_with fail
            refine HRT.out.mono ?_
            rintro e uR ⟨v, rfl, hm, bR⟩
            have hm2 := hm.mono HO2.out.bel.size
            obtain ⟨n0, aR, capR, rfl, _, _, _⟩ := hm.rows
            have hold2 := HOL.out.below bR
            have hput := hold2.put hj4 hbase _ hm2
            have hone2 := (HO2.out.below bR)
            have hone3 : One w (uR.setCell ⟨ob, j, none⟩ (.slice aR n0 capR)) dk s1 := by
              obtain ⟨cs, o1, o2, o3⟩ := hold2
              have hc : Blk.Chg (fun k => k = ob) uR (uR.setCell ⟨ob, j, none⟩ (.slice aR n0 capR)) := Blk.Chg.setAt (Blk.Chg.refl _ _) rfl
              refine ⟨hone2.d.chg hc ?_, hone2.df, hone2.bel.trans (hc.below (by rintro k rfl; exact hbase) hone2.bel.size)⟩
              rintro k hk rfl
              obtain ⟨c1, n1, _⟩ := hone2.d.now.lies
              obtain ⟨c2, n2, _⟩ := hone2.d.sure.lies
              rcases hk with rfl | rfl | rfl
              · exact hone2.d.obj.ne o1 (by decide) rfl
              · exact n1.ne o1 (by decide) rfl
              · exact n2.ne o1 (by decide) rfl
            obtain ⟨cs, o1, o2, o3⟩ := hold2
            have hcc : uR.cell? ⟨ob, j, none⟩ = some (cs[j]'(by omega)) := o1.at (by simp)
            have hff := o1.free j
            generalize cs[j]'(by omega) = old at hcc
            have HP := Lib.hid hput
            have HO3 := Lib.hid hone3
            clear hm hm2 hput hone2 hone3 o1 o3 bR HRT
            go_wp2
            refine ⟨⟨j + 1, by omega, by go_num, HO3.out, HP.out⟩, ?_⟩
            simp [intOf]; omega
          · obtain rfl : j = 4 := by omega
            have hone2 := HO2.out.alloc (.cells z 5)
            have hold2 := HOL.out.below ((Below.refl _ _).alloc (Nat.le_refl _) (.cells z 5))
            have hK := Blk.Is.new wr 5 z
            have hrow := HR1.out.below hone2.bel
            have hrl := hrow.count
            have hrun := fun ty => Blk.run_copy_sz (P := Try.prog) (wr.alloc (.cells z 5)) 28 28 ty 5 1 wr.heap.size 0 64 64 a1 len1 cap1 z 5 (bcells (z1.take 64)) Try.underlying28 sizeU8 hK
              (by rw [bcells_length, List.length_take, hrl, Nat.mul_one]; exact Nat.min_comm _ _) (hrow.source 64)
              (by rw [bcells_length, List.length_take, HZ.out]; simp only [List.size_toArray, bcells_length, Disk.zero_sec.len]; omega) (bcells_one _)
            obtain ⟨v, hv⟩ : ∃ v, v = (wr.alloc (.cells z 5)).setRow wr.heap.size (Blk.over z.toList 0 (bcells (z1.take 64))).toArray := ⟨_, rfl⟩
            simp only [← hv] at hrun
            have hbv : Below wr.heap.size wr v := by rw [hv]; exact Blk.belowRow ((Below.refl _ _).alloc (Nat.le_refl _) _) (Nat.le_refl _) _
            have hkv : Blk.Is v wr.heap.size 5 (bcells (Disk.pick z1)).toArray := by
              rw [hv, Disk.over_pick HZ.out]; exact hK.row _
            have hpick := Disk.pick_sec hrow.byt
            have hone3 := HO2.out.below hbv
            have hold3 := HOL.out.below hbv
            obtain ⟨pk, hpk⟩ : ∃ pk, Disk.pick z1 = pk := ⟨_, rfl⟩
            rw [hpk] at hkv hpick
            obtain ⟨bb, hbb⟩ : ∃ bb, wr.heap.size = bb := ⟨_, rfl⟩
            rw [hbb] at hrun hkv
            have hmk2 := hmk wr
            rw [hbb] at hmk2
            have hrow2 : Row v (some ⟨bb, 0, none⟩) 64 pk := by
              refine Row.ofIs hkv 0 64 pk hpick.len (by omega) hpick.byt fun i hi => ?_
              have := bcells_at pk i (by rw [hpick.len]; exact hi)
              rw [Nat.zero_add]; simpa using this
            have hnb := hone3.d.notBytes hkv
            have HRUN := Lib.hid hrun
            have HO4 := Lib.hid hone3
            have HOL4 := Lib.hid hold3
            have HKV := Lib.hid hkv
            have HROW2 := Lib.hid hrow2
            have HNB := Lib.hid hnb
            have HPK := Lib.hid hpick
            clear hone2 hold2 hK hrow hrl hrun hv hbv hkv hpick hone3 hold3 hpk hbb hrow2 hnb HO2 HOL hmk
            go_wp2_with fail
            rw [HRUN.out]
            go_wp2_with fail
            refine (Disk.write_any dk s1 A _ 64 64 pk _ HO4.out.d (by omega) HROW2.out (by rintro b off e; cases e; exact HNB.out)).mono ?_
            rintro e w5 ⟨rfl, hdW, hcW⟩
            obtain ⟨hwe, hkept⟩ := Disk.kept_of HC1.out HS1.out (HO4.out.count.trans hdn) A hA4 pk HPK.out.len z3
            rw [hwe]
            have HO5 := Lib.hid (HO4.out.chg hdW hcW)
            have HOL5 := Lib.hid (HOL4.out.disk HO4.out.d hcW)
            have HKV5 := Lib.hid (hcW.is HKV.out HNB.out)
            have HR5 := Lib.hid (HR3.out.below HO5.out.bel)
            have HKEPT := Lib.hid hkept
            have hs1l : ∀ i, i < 4 → (s1.now.getD i []).length = 64 := fun i hi => HO4.out.sec (by omega)
            clear hwe hkept hdW hcW HO4 HOL4 HKV HNB HROW2 HRUN hmk2
            go_wp2_with fail
            refine (Disk.crash_any dk _ a3 len3 cap3 z3 _ HO5.out.d HR5.out hl3 (fun h0 x e k => by have := HB3.out h0 x e; have := HO5.out.df.has k; omega) HN3.out).mono ?_
            rintro e w6 ⟨rfl, hdC, hcC⟩
            have hfin : Fin w w6 dk s1 _ ob bb pk := ⟨HO5.out.chg hdC hcC, HOL5.out.disk HO5.out.d hcC, hcC.is HKV5.out (HO5.out.d.notBytes HKV5.out)⟩
            obtain ⟨s3, hs3⟩ : ∃ s3, (s1.write (A : Int) pk).crashed z3 = s3 := ⟨_, rfl⟩
            have hkept := HKEPT.out
            rw [hs3] at hfin hkept
            have HF := Lib.hid hfin
            have HK := Lib.hid hkept
            have HL := Lib.hid hs1l
            clear hfin hkept hs3 hdC hcC HKEPT HO5 HOL5 HKV5 HR5 hs1l
            go_wp2_with fail
            go_loopw [78] (fun i u => ∃ j : Nat, j ≤ 4 ∧ i = .int .i64 j ∧ Fin w u dk s1 s3 ob bb pk) (fun i _ => 4 - (intOf i).toNat)
            case atStart => exact ⟨0, by omega, rfl, HF.out⟩
            case round =>
              clear HF
              obtain ⟨j, hj, rfl, hf⟩ := hrel
              have HF := Lib.hid hf
              clear hf
              by_cases hj4 : j < 4
              · have hret := Disk.read_any dk s3 j _ HF.out.one.d
                rw [HK.out.read (HF.out.one.count.trans hdn) hj4] at hret
                dsimp only at hret
                have hx64 := HF.out.one.sec (j := j) (by omega)
                have HRT := Lib.hid hret
                clear hret
                go_wp2_with fail
                refine HRT.out.mono ?_
                rintro e uR ⟨v, rfl, hm, bR⟩
                obtain ⟨n0, aR, capR, rfl, hcapR, hn0, hrowX⟩ := hm.rows
                obtain rfl : n0 = 64 := by omega
                have hf2 := HF.out.below bR
                obtain ⟨aO, capO, hcO, hrowO⟩ := hf2.old.at hj4 (HL.out j hj4)
                have HF2 := Lib.hid hf2
                clear hm hf2 HRT bR
                have j0 : (0 : Int) ≤ j := by omega
                have j1 : (j : Int) < 4 := by omega
                obtain ⟨xb, xo, rfl, xlt, xc⟩ := hrowX.cells (by omega)
                obtain ⟨yb, yo, rfl, ylt, yc⟩ := hrowO.cells (by omega)
                by_cases hjA : j = A
                · subst hjA
                  clear hrowX hrowO
                  have hne : ((j : Int) != (j : Int)) = false := by simp
                  have heq : ((j : Int) == (j : Int)) = true := by simp
                  have XC := Lib.hid xc
                  have YC := Lib.hid yc
                  clear xc yc
                  go_wp2_with fail
                  go_quiet (fail)
                  obtain ⟨u5, hu5⟩ : ∃ u5, uR.drewN nq = u5 := ⟨_, rfl⟩
                  have F5 : Fin w u5 dk s1 s3 ob bb pk := by rw [← hu5]; exact HF2.out.below (below_drewN uR nq)
                  have rO5 : u5.cell? ⟨ob, j, none⟩ = some (.slice (some ⟨yb, yo, none⟩) 64 capO) := by rw [← hu5]; exact hcO
                  have xc5 : ∀ i, i < 64 → u5.cell? ⟨xb, xo + i, none⟩ = some (.int .u8 ((s3.now.getD j []).getD i 0)) := by rw [← hu5]; exact XC.out
                  have yc5 : ∀ i, i < 64 → u5.cell? ⟨yb, yo + i, none⟩ = some (.int .u8 ((s1.now.getD j []).getD i 0)) := by rw [← hu5]; exact YC.out
                  have nc5 : ∀ i, i < 64 → u5.cell? ⟨bb, i, none⟩ = some (.int .u8 (pk.getD i 0)) := fun i hi => F5.new.at (by rw [List.getElem?_toArray]; exact bcells_at pk i (by rw [HPK.out.len]; exact hi))
                  rw [hu5]
                  have HF5 := Lib.hid F5
                  have RO5 := Lib.hid rO5
                  have XC5 := Lib.hid xc5
                  have YC5 := Lib.hid yc5
                  have NC5 := Lib.hid nc5
                  clear F5 rO5 xc5 yc5 nc5 hcO hu5 HF2 XC YC xlt ylt
                  go_wp2_with fail
                  go_loopw [110] (fun i u => ∃ k : Nat, k ≤ 64 ∧ i = .int .i64 k ∧ Below u5.heap.size u5 u) (fun i _ => 64 - (intOf i).toNat)
                  case atStart => exact ⟨0, by omega, rfl, Below.refl _ _⟩
                  case round =>
                    obtain ⟨k, hk, rfl, hb⟩ := hrel
                    by_cases hk64 : k < 64
                    · have lift : ∀ {A v}, u5.cell? A = some v → wr.cell? A = some v := fun {A v} hA => by rw [hb.cell (block_lt_of_cell hA)]; exact hA
                      have r1 := lift (XC5.out k hk64)
                      have r2 := lift (YC5.out k hk64)
                      have r3 := lift (NC5.out k hk64)
                      have r4 := lift RO5.out
                      have hbit := HK.out.bit k hk64
                      generalize (s3.now.getD j []).getD k 0 = X at *
                      generalize (s1.now.getD j []).getD k 0 = O at *
                      generalize pk.getD k 0 = N at *
                      have k0 : (0 : Int) ≤ k := by omega
                      have k1 : (k : Int) < 64 := by omega
                      have HBE := Lib.hid hb
                      clear lift hb
                      go_wp2_with fail
                      go_quiet (fail)
                      go_wp2
                      refine ⟨⟨k + 1, by omega, by go_num, HBE.out.trans ((below_drewN wr nq).mono HBE.out.size)⟩, ?_⟩
                      simp [intOf]; omega
                    · obtain rfl : k = 64 := by omega
                      have hf6 := HF5.out.below hb
                      have HF6 := Lib.hid hf6
                      clear hf6 hb
                      go_wp2
                      refine ⟨⟨j + 1, by omega, by go_num, HF6.out⟩, ?_⟩
                      simp [intOf]; omega
                · have hne : ((j : Int) != (A : Int)) = true := by simp; omega
                  have heq : ((j : Int) == (A : Int)) = false := by simp; omega
                  have hsame := HK.out.same j hj4 hjA
                  have e1 : ∀ n, (convert 28 9 (.slice (some ⟨xb, xo, none⟩) 64 capR)).run Try.prog (uR.drewN n) = .ok (.string (strOfNums (s3.now.getD j []))) (uR.drewN n) := fun n => (hrowX.below (below_drewN uR n)).conv capR
                  have e2 : ∀ n, (convert 28 9 (.slice (some ⟨yb, yo, none⟩) 64 capO)).run Try.prog (uR.drewN n) = .ok (.string (strOfNums (s1.now.getD j []))) (uR.drewN n) := fun n => (hrowO.below (below_drewN uR n)).conv capO
                  rw [hsame] at e1
                  generalize strOfNums (s1.now.getD j []) = str at *
                  have hstr : (str.toList == str.toList) = true := by simp
                  clear hrowX hrowO xc yc hsame xlt ylt
                  go_wp2_with fail
                  go_quiet (fail)
                  have hf5 := HF2.out.below (below_drewN uR nq)
                  have HF5 := Lib.hid hf5
                  clear hf5 HF2
                  obtain ⟨u5, hu5⟩ : ∃ u5, uR.drewN nq = u5 := ⟨_, rfl⟩
                  rw [hu5] at HF5
                  rw [hu5]
                  clear e1 e2 hcO hu5
                  go_wp2_with fail
                  go_loopw [110] (fun i u => ∃ k : Nat, k ≤ 64 ∧ i = .int .i64 k ∧ Below u5.heap.size u5 u) (fun i _ => 64 - (intOf i).toNat)
                  case atStart => exact ⟨0, by omega, rfl, Below.refl _ _⟩
                  case round =>
                    obtain ⟨k, hk, rfl, hb⟩ := hrel
                    by_cases hk64 : k < 64
                    · have HBE := Lib.hid hb
                      clear hb
                      go_wp2_with fail
                      go_quiet (fail)
                      go_wp2
                      refine ⟨⟨k + 1, by omega, by go_num, HBE.out.trans ((below_drewN wr nq).mono HBE.out.size)⟩, ?_⟩
                      simp [intOf]; omega
                    · obtain rfl : k = 64 := by omega
                      have hf6 := HF5.out.below hb
                      have HF6 := Lib.hid hf6
                      clear hf6 hb
                      go_wp2
                      refine ⟨⟨j + 1, by omega, by go_num, HF6.out⟩, ?_⟩
                      simp [intOf]; omega
              · obtain rfl : j = 4 := by omega
                have HBE := Lib.hid HF.out.one.bel
                clear HF
                go_wp2_with fail
                refine (Disk.awake_any _).mono ?_
                rintro e wA ⟨rfl, bA⟩
                go_wp2
                go_ret
                exact ⟨rfl, HBE.out.trans (bA.mono HBE.out.size)⟩
end Pair
end Go.Proofs.Ythjilmeaaghpaaa

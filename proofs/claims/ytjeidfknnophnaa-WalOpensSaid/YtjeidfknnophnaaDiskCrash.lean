/-
The contract of the program's Crash.
-/
import Derived.Test.YtjeidfknnophnaaDiskWrites
import Derived.Test.YtjeidfknnophnaaDiskMix
import Derived.Test.YtjeidfknnophnaaArr
import Derived.Test.YtjeidfknnophnaaReg
import Derived.Lib.QuietBelow
namespace Go.Proofs.Ytjeidfknnophnaa
open Go.RowKit
set_option linter.unusedVariables false

/-- What is left of a slice behind its first c. -/
def tailAddr (a : Option Addr) (cap c : Nat) : Option Addr := if cap = c then a else a.map (·.add (c * 1))
theorem Row.tail {w : World} {a len zs cap} (h : Row w a len zs) (c : Nat) (hc : c ≤ len) (hl : len ≤ cap) : Row w (tailAddr a cap c) (len - c) (zs.drop c) := by
  have hz := h.count
  have hs := h.short
  by_cases h0 : len - c = 0
  · rw [h0, List.drop_eq_nil_of_le (by omega)]; exact Row.empty _ _
  · obtain ⟨b, off, rfl, hb, hcell⟩ := h.cells (by omega)
    unfold tailAddr
    rw [if_neg (by omega)]
    refine ⟨by rw [List.length_drop]; omega, by omega, h.byt.drop c, fun _ => ⟨b, off + c, by simp [Addr.add_mid], hb, fun j hj => ?_⟩⟩
    rw [Nat.add_assoc, hcell (c + j) (by omega)]
    simp [List.getElem?_drop]
theorem tailAddr_block {a : Option Addr} {cap c : Nat} {y : Addr} (h : tailAddr a cap c = some y) : ∃ x, a = some x ∧ x.block = y.block := by
  unfold tailAddr at h
  split at h
  · exact ⟨y, h, rfl⟩
  · cases a with
    | none => cases h
    | some x =>
      have h' : x.add (c * 1) = y := by simpa using h
      refine ⟨x, rfl, ?_⟩
      rw [← h']
      unfold Addr.add
      split <;> rfl

namespace Disk
theorem pick_sec {p : List Int} (hp : Byte p) : Sec (pick p) := by
  refine ⟨by simp [pick]; omega, fun z hz => ?_⟩
  rcases List.mem_append.1 hz with h | h
  · exact hp z (List.mem_of_mem_take h)
  · have := List.eq_of_mem_replicate h; omega

/-- The walk's own keeping: a crash under way, at the sector k. -/
structure Under (w wr : World) (d : Dk) (s : St) (p : List Int) (k : Nat) (a : Option Addr) (len cap : Nat) : Prop where
  st : At wr d (s.crashTo p k)
  row : Row wr a len (crashN s.sure s.now p k).2
  le : len ≤ cap
  chg : Blk.Chg d.Has w wr
  apart : 0 < len → ∀ x, a = some x → ¬ d.Has x.block
  nil : a = none → cap = 0
theorem chg_drewN (S : Nat → Prop) (w : World) (n : Nat) : Blk.Chg S w (w.drewN n) := ⟨rfl, rfl, rfl, Nat.le_refl _, fun _ _ _ => rfl⟩
theorem Under.on {w u u' : World} {d s p k a len cap} (h : Under w u d s p k a len cap) (hb : Below u.heap.size u u') : Under w u' d s p k a len cap :=
  ⟨h.st.below hb, h.row.below hb, h.le, h.chg.trans (Blk.Chg.ofBelow' hb), h.apart, h.nil⟩
theorem Under.drewN {w u : World} {d s p k a len cap} (h : Under w u d s p k a len cap) (n : Nat) : Under w (u.drewN n) d s p k a len cap :=
  h.on ⟨rfl, rfl, rfl, Nat.le_refl _, fun _ _ => rfl⟩
theorem At.stored {w d s} (h : At w d s) (i : Nat) (hi : i < d.n) (r : List Int) (hr : Sec r) : At (w.setCells d.br (i * 64) (bcells r)) d { s with now := s.now.set i r } ∧ Blk.Chg d.Has w (w.setCells d.br (i * 64) (bcells r)) := by
  obtain ⟨cur, h1, h2, h3⟩ := h.now.lies
  have hle := h.now.le
  have e := Blk.setCells_row (bcells r) cur (i * 64) h1 (by rw [bcells_length, hr.len]; omega)
  have hw : Blk.Is (w.setCells d.br (i * 64) (bcells r)) d.br 81 (Blk.over cur.toList (i * 64) (bcells r)).toArray := by rw [e]; exact h1.row _
  have hc : Blk.Chg (fun k => k = d.br) w (w.setCells d.br (i * 64) (bcells r)) := by rw [e]; exact Blk.Chg.setRow (S := fun k => k = d.br) (Blk.Chg.refl _ w) rfl _
  exact ⟨⟨hc.is h.obj h.ne.1, h.now.stored i hi r hr cur h1 hw, h.sure.chg hc (fun e => h.apart e.symm), h.apart, h.fuse0, h.fuse1⟩, hc.mono fun k _ hk => .inr (.inl hk)⟩
theorem run_slice_tail (a : Option Addr) (len cap c : Nat) (hc : c ≤ len) (hl : len ≤ cap) (w : World) :
    (Instr.slice 25 (.slice a len cap) (some (.int .i64 c)) none none).run Try.prog w = .ok (.slice (tailAddr a cap c) (len - c) (cap - c)) w := by
  have hsz : (sizeOf 5).run Try.prog w = .ok 1 w := by
    obtain ⟨i0, hi, hz0, hz1, hz2⟩ := info_parts infoU8
    simp [sizeOf, typeInfo, hi, hz1]
  simp [Instr.slice, Instr.sliceBounds, Instr.sliceBound, asIntOf, run_underlying Try.underlying25, hsz, hc, tailAddr]
theorem crash_same {s : St} {p : List Int} {k : Nat} (h : (crashN s.sure s.now p k).1.getD k [] = s.sure.getD k []) : crashN s.sure s.now p (k + 1) = crashN s.sure s.now p k := by
  rw [crashN, crashStep, if_pos h]
theorem crash_diff {s : St} {p : List Int} {k : Nat} (h : ¬ (crashN s.sure s.now p k).1.getD k [] = s.sure.getD k []) :
    crashN s.sure s.now p (k + 1) = ((crashN s.sure s.now p k).1.set k (mix (s.sure.getD k []) ((crashN s.sure s.now p k).1.getD k []) (pick (crashN s.sure s.now p k).2)), (crashN s.sure s.now p k).2.drop 64) := by
  rw [crashN, crashStep, if_neg h]
theorem Under.same {w u : World} {d s p k a len cap} (h : Under w u d s p k a len cap) (he : (s.crashTo p k).now.getD k [] = (s.crashTo p k).sure.getD k []) : Under w u d s p (k + 1) a len cap := by
  have e := crash_same (s := s) (p := p) (k := k) he
  refine ⟨?_, by rw [e]; exact h.row, h.le, h.chg, h.apart, h.nil⟩
  have : s.crashTo p (k + 1) = s.crashTo p k := by rw [St.crashTo, e]; rfl
  rw [this]; exact h.st
theorem over_pick {z : Array Value} (hz : z = (bcells zero).toArray) (p : List Int) : Blk.over z.toList 0 (bcells (p.take 64)) = bcells (pick p) := by
  rw [hz]
  simp only [Blk.over, List.take_zero, List.nil_append, Nat.zero_add, pick, bcells, zero, List.map_replicate, List.map_append, List.drop_replicate]
  rw [List.length_map, List.length_take, show 64 - min 64 p.length = 64 - p.length by omega]
theorem range_regrown {v : World} {b o : Nat} {cs : List Value} (h : v.rangeAt b o cs) : ∀ u, (∃ p : Regrown, u = Sort.grow (redrawn v p.d) p.os) → u.rangeAt b o cs := by
  rintro _ ⟨p, rfl⟩ j x hx
  exact cell_regrown (h j x hx) _ _
theorem Under.diff {w v u u' : World} {d s p k a len cap} (h : Under w v d s p k a len cap) (hb : Below v.heap.size v u) (hk : k < d.n) (hne : ¬ (s.crashTo p k).now.getD k [] = (s.crashTo p k).sure.getD k [])
    (m q : List Int) (hm : (s.crashTo p k).now.getD k [] = m) (hq : (s.crashTo p k).sure.getD k [] = q) (c : Nat) (hc : Nat.min len 64 = c)
    (hu : u' = u.setCells d.br (k * 64) (bcells (mix q m (pick (crashN s.sure s.now p k).2)))) : Under w u' d s p (k + 1) (tailAddr a cap c) (len - c) (cap - c) := by
  have e := crash_diff (s := s) (p := p) (k := k) hne
  have hu1 := h.on hb
  obtain ⟨g1, g2⟩ := hu1.st.stored k hk (mix q m (pick (crashN s.sure s.now p k).2)) (mix_sec _ _ _)
  rw [← hu] at g1 g2
  have hcl : c ≤ len := by rw [← hc]; exact Nat.min_le_left _ _
  have hle := h.le
  have hrow : (crashN s.sure s.now p (k + 1)).2 = (crashN s.sure s.now p k).2.drop c := by
    rw [e]
    show List.drop 64 _ = List.drop c _
    have hl := hu1.row.count
    rw [← hc]
    by_cases h64 : 64 ≤ len
    · rw [show Nat.min len 64 = 64 from Nat.min_eq_right h64]
    · rw [show Nat.min len 64 = len from Nat.min_eq_left (by omega), List.drop_eq_nil_of_le (by omega), List.drop_eq_nil_of_le (by omega)]
  refine ⟨?_, ?_, by omega, h.chg.trans ((Blk.Chg.ofBelow' hb).trans g2), ?_, ?_⟩
  · have : s.crashTo p (k + 1) = { s.crashTo p k with now := (s.crashTo p k).now.set k (mix q m (pick (crashN s.sure s.now p k).2)) } := by
      rw [St.crashTo, e, ← hm, ← hq]; rfl
    rw [this]; exact g1
  · rw [hrow]
    refine (hu1.row.keep g2 (fun h0 b off ea => h.apart h0 _ ea)).tail c hcl hle
  · intro h0 y hy
    obtain ⟨x, hx, hb'⟩ := tailAddr_block hy
    rw [← hb']; exact h.apart (by omega) x hx
  · intro hy
    unfold tailAddr at hy
    split at hy
    · omega
    · have : a = none := by cases a with
        | none => rfl
        | some x => cases hy
      have := h.nil this
      omega

theorem crash_any (d : Dk) (s : St) (a : Option Addr) (len cap : Nat) (p : List Int) (w : World) (h : At w d s) (hr : Row w a len p) (hl : len ≤ cap) (ha : 0 < len → ∀ x, a = some x → ¬ d.Has x.block) (hn : a = none → cap = 0) :
    Calls Try.prog 32 #[d.ptr, .slice a len cap] w fun e w' => e = .returned (.tuple #[]) ∧ At w' d (s.crashed p) ∧ Blk.Chg d.Has w w' := by
  obtain ⟨z, hz, hzs⟩ : ∃ z : Array Value, (∀ w, (zeroValue 81).run Try.prog w = .ok (.agg z) w) ∧ z = (bcells zero).toArray := ⟨_, zeroSector, by rw [bcells, zero, List.map_replicate, List.toArray_replicate]⟩
  have hcn := h.now.secs.count
  have hfew := h.now.few
  have f3 := h.flds.f 3
  have f4 := h.flds.f 4
  obtain ⟨c0, c1, c2, c3, c4, f⟩ := h.flds
  clear f c1 c2
  have H := Lib.hid h
  have HR := Lib.hid hr
  have HC := Lib.hid hcn
  have HZ := Lib.hid hzs
  clear h hr hcn hzs
  unfold Dk.ptr
  go_enter Try.func32, Try.ntmps32
  go_wp2
  go_loopw [1, 19] (fun pk i wr => ∃ k : Nat, ∃ (a : Option Addr) (len cap : Nat), k ≤ d.n ∧ i = .int .i64 k ∧ pk = .slice a len cap ∧ Under w wr d s p k a len cap) (fun _ i _ => d.n - (intOf i).toNat)
  case atStart =>
    refine ⟨0, a, len, cap, by omega, rfl, rfl, ?_, ?_, hl, ?_, ha, hn⟩
    · refine H.out.set _ rfl rfl (by show (0:Int) ≤ 0; decide) (by show (0:Int) ≤ _; decide) ?_ ?_
      · have := (H.out.obj.set 4 (.bool false)).set 3 (.int .i64 0)
        simpa [Dk.cells, St.crashTo] using this
      · refine Blk.Chg.setAt ?_ rfl; exact Blk.Chg.setAt (Blk.Chg.refl _ w) rfl
    · refine HR.out.keep (S := d.Has) ?_ (fun h0 b off e => ha h0 _ e)
      refine Blk.Chg.setAt ?_ (.inl rfl); exact Blk.Chg.setAt (Blk.Chg.refl _ w) (.inl rfl)
    · refine Blk.Chg.setAt ?_ (.inl rfl); exact Blk.Chg.setAt (Blk.Chg.refl _ w) (.inl rfl)
  case round =>
    obtain ⟨k, a, len, cap, hk, rfl, rfl, hu⟩ := hrel
    obtain ⟨b0, b1, b2, b3, b4, f⟩ := hu.st.flds
    clear f b2 b3 b4 c0 c3 c4 f3 f4 HR
    by_cases hlt : k < d.n
    · have r0 := hu.st.now.range k hlt
      have r1 := hu.st.sure.range k hlt
      have s0 := hu.st.now.secs.at hlt
      have s1 := hu.st.sure.secs.at hlt
      have heq := Arr.run_eql_ints (P := Try.prog) 81 5 64 .u8 .u8 Try.underlying81 Try.underlying5 sizeU8 _ _ s0.len s1.len
      have z0 : (Try.prog.info? 81).map (·.size) = some (bcells ((s.crashTo p k).now.getD k [])).length := by rw [sizeSector, bcells_length, s0.len]
      have z1 : (Try.prog.info? 81).map (·.size) = some (bcells ((s.crashTo p k).sure.getD k [])).length := by rw [sizeSector, bcells_length, s1.len]
      have u0 := Try.underlying81
      have rr0 : ∀ u, (∃ n, u = wr.drewN n) → u.rangeAt d.br (k * 64) (bcells ((s.crashTo p k).now.getD k [])) := by rintro _ ⟨n, rfl⟩; exact r0
      have rr1 : ∀ u, (∃ n, u = wr.drewN n) → u.rangeAt d.bs (k * 64) (bcells ((s.crashTo p k).sure.getD k [])) := by rintro _ ⟨n, rfl⟩; exact r1
      obtain ⟨m, hm⟩ : ∃ m, (s.crashTo p k).now.getD k [] = m := ⟨_, rfl⟩
      obtain ⟨q, hq⟩ : ∃ q, (s.crashTo p k).sure.getD k [] = q := ⟨_, rfl⟩
      rw [hm] at heq z0 rr0 s0
      rw [hq] at heq z1 rr1 s1
      change ∀ w, (binOp .eql 81 (.agg (bcells m).toArray) (.agg (bcells q).toArray)).run Try.prog w = _ at heq
      obtain ⟨cm, hcm⟩ : ∃ c, c = bcells m := ⟨_, rfl⟩
      obtain ⟨cq, hcq⟩ : ∃ c, c = bcells q := ⟨_, rfl⟩
      rw [← hcm] at z0 rr0
      rw [← hcq] at z1 rr1
      rw [← hcm, ← hcq] at heq
      have R0 := Lib.hid rr0
      have R1 := Lib.hid rr1
      have HM := Lib.hid hm
      have HQ := Lib.hid hq
      have CM := Lib.hid hcm
      have CQ := Lib.hid hcq
      have i0 : (0 : Int) ≤ k := by omega
      have i1 : (k : Int) < d.n := by omega
      have HU := Lib.hid hu
      clear rr0 rr1 r0 r1 hm hq hcm hcq hu
      by_cases hsame : m = q
      · have he : decide (m = q) = true := by simpa using hsame
        rw [he] at heq
        have HS := Lib.hid hsame
        clear hsame he
        go_wp2_with fail
        refine wp_region_quiet_lit (by kernel_rfl) (by kernel_rfl) ?_
        iterate 6 (go_big_quiet_step (fail))
        refine Reg.wpQuiet_load_mid rfl 81 _ rfl d.br (k * 64) rfl cm _ R0.out u0 rfl z0 ?_
        simp only [Act.put, List.setIfInBounds_toArray, List.set_cons_zero, List.set_cons_succ]
        iterate 6 (go_big_quiet_step (fail))
        refine Reg.wpQuiet_load_mid rfl 81 _ rfl d.bs (k * 64) rfl cq _ R1.out u0 rfl z1 ?_
        simp only [Act.put, List.setIfInBounds_toArray, List.set_cons_zero, List.set_cons_succ]
        go_big_quiet_step (fail)
        refine wpQuiet_nil ?_
        intro _ hw'
        obtain ⟨nq, rfl⟩ := hw'
        go_wp2
        go_roundw
        case rel => exact ⟨k + 1, a, len, cap, by omega, by go_num, rfl, (HU.out.drewN nq).same (by rw [HM.out, HQ.out]; exact HS.out)⟩
        case measure => simp [intOf]; omega
      · have he : decide (m = q) = false := by simpa using hsame
        rw [he] at heq
        have HS := Lib.hid hsame
        clear hsame he
        go_wp2_with fail
        refine wp_region_quiet_lit (by kernel_rfl) (by kernel_rfl) ?_
        iterate 6 (go_big_quiet_step (fail))
        refine Reg.wpQuiet_load_mid rfl 81 _ rfl d.br (k * 64) rfl cm _ R0.out u0 rfl z0 ?_
        simp only [Act.put, List.setIfInBounds_toArray, List.set_cons_zero, List.set_cons_succ]
        iterate 6 (go_big_quiet_step (fail))
        refine Reg.wpQuiet_load_mid rfl 81 _ rfl d.bs (k * 64) rfl cq _ R1.out u0 rfl z1 ?_
        simp only [Act.put, List.setIfInBounds_toArray, List.set_cons_zero, List.set_cons_succ]
        go_big_quiet_step (fail)
        refine wpQuiet_nil ?_
        intro wq hw'
        have hu := hw'.elim (fun n e => e ▸ HU.out.drewN n)
        clear hw' R0 R1 HU b0 b1
        have h1 := hu.on ((Below.refl _ _).alloc (Nat.le_refl _) (.cells z 81))
        have hK := Blk.Is.new wq 81 z
        have hrl := h1.row.count
        have hle := h1.le
        obtain ⟨c, hc⟩ : ∃ c, Nat.min len 64 = c := ⟨_, rfl⟩
        obtain ⟨q2, hq2⟩ : ∃ q2, (crashN s.sure s.now p k).2 = q2 := ⟨_, rfl⟩
        have hrow := h1.row
        rw [hq2] at hrow hrl
        have hrun := fun ty => Blk.run_copy_sz (P := Try.prog) (wq.alloc (.cells z 81)) 25 25 ty 5 1 wq.heap.size 0 64 64 a len cap z 81 (bcells (q2.take 64)) Try.underlying25 sizeU8 hK
          (by rw [bcells_length, List.length_take, hrl, Nat.mul_one]; exact Nat.min_comm _ _) (hrow.source 64)
          (by rw [bcells_length, List.length_take, HZ.out]; simp only [List.size_toArray, bcells_length, zero_sec.len]; omega) (bcells_one _)
        have hcl : c ≤ len := by rw [← hc]; exact Nat.min_le_left _ _
        have hsl := run_slice_tail a len cap c hcl hle
        obtain ⟨v, hv⟩ : ∃ v, v = (wq.alloc (.cells z 81)).setRow wq.heap.size (Blk.over z.toList 0 (bcells (q2.take 64))).toArray := ⟨_, rfl⟩
        rw [hc] at hrun
        simp only [← hv] at hrun
        have hkv : Blk.Is v wq.heap.size 81 (bcells (pick q2)).toArray := by
          rw [hv, over_pick HZ.out]; exact hK.row _
        have huv : Under w v d s p k a len cap := hu.on (by rw [hv]; exact Blk.belowRow ((Below.refl _ _).alloc (Nat.le_refl _) _) (Nat.le_refl _) _)
        have hpick := pick_sec hrow.byt
        have hkr : v.rangeAt wq.heap.size 0 (bcells (pick q2)) := by
          have := hkv.range 0 (bcells (pick q2)).length
          rwa [Nat.zero_add, Array.toList_extract, List.toList_toArray, List.extract_eq_take_drop, List.drop_zero, Nat.sub_zero, List.take_length] at this
        have hpl : (Try.prog.info? 81).map (·.size) = some (bcells (pick q2)).length := by rw [sizeSector, bcells_length, hpick.len]
        have L0 := range_regrown (by have := huv.st.sure.range k hlt; rw [HQ.out] at this; exact this)
        have L1 := range_regrown (by have := huv.st.now.range k hlt; rw [HM.out] at this; exact this)
        have L2 := range_regrown hkr
        rw [← CQ.out] at L0
        rw [← CM.out] at L1
        obtain ⟨cp, hcp⟩ : ∃ c, c = bcells (pick q2) := ⟨_, rfl⟩
        rw [← hcp] at L2 hpl
        have F0 := cell_regrown huv.st.flds.c0
        have F1 := cell_regrown huv.st.flds.c1
        have hmix := fun u => mix_any q m (pick q2) u s1 s0 hpick
        rw [← CQ.out, ← CM.out, ← hcp] at hmix
        have hms : (Try.prog.info? 81).map (·.size) = some (bcells (mix q m (pick q2))).toArray.size := by rw [sizeSector, List.size_toArray, bcells_length, mix_len]
        have hmo := all_oneCell_toArray (bcells_one (mix q m (pick q2)))
        have hthere : ∀ u, Below v.heap.size v u → u.there d.br (k * 64) 64 := fun u hb => (huv.on hb).st.now.there k hlt
        have hdone := fun u u' hb => huv.diff (u := u) (u' := u') hb hlt (by rw [HM.out, HQ.out]; exact HS.out) m q HM.out HQ.out c hc
        rw [hq2] at hdone
        obtain ⟨cx, hcx⟩ : ∃ c, c = bcells (mix q m (pick q2)) := ⟨_, rfl⟩
        have hxl : (bcells (mix q m (pick q2))).toArray.size = 64 := by simp [mix_len]
        rw [← hcx] at hmix hms hmo hdone hxl
        have G0 := Lib.hid L0
        have G1 := Lib.hid L1
        have G2 := Lib.hid L2
        have GM := Lib.hid hmix
        have GS := Lib.hid hms
        have GO := Lib.hid hmo
        have GT := Lib.hid hthere
        have GD := Lib.hid hdone
        have GR := Lib.hid hrun
        have GX := Lib.hid hxl
        clear L0 L1 L2 hmix hms hmo hthere hdone hrun hkr hkv huv hpick hrow h1 hK hrl hc hq2 hv hcp hcx hxl hu
        go_wp2_with fail
        rw [GR.out]
        go_wp2_with fail
        refine Reg.wp_class_tail 22 (by kernel_rfl) (by kernel_rfl) (fun u => ∃ p : Regrown, u = Sort.grow (redrawn v p.d) p.os) (regrown_of_below (Below.refl _ _).drew) ?_
        simp only [List.take_succ_cons, List.take_zero, List.drop_succ_cons, List.drop_zero]
        iterate 11 (go_big_quiet_step (fail))
        refine Reg.wpQuiet_load_mid rfl 81 _ rfl d.bs (k * 64) rfl cq _ G0.out u0 rfl z1 ?_
        simp only [Act.put, List.setIfInBounds_toArray, List.set_cons_zero, List.set_cons_succ]
        iterate 6 (go_big_quiet_step (fail))
        refine Reg.wpQuiet_load_mid rfl 81 _ rfl d.br (k * 64) rfl cm _ G1.out u0 rfl z0 ?_
        simp only [Act.put, List.setIfInBounds_toArray, List.set_cons_zero, List.set_cons_succ]
        refine Reg.wpQuiet_load_mid rfl 81 _ rfl wq.heap.size 0 rfl cp _ G2.out u0 rfl hpl ?_
        simp only [Act.put, List.setIfInBounds_toArray, List.set_cons_zero, List.set_cons_succ]
        go_big_quiet_step ((exact Calls.regrown_of (GM.out _)))
        go_big_quiet_step (fail)
        refine wpQuiet_nil ?_
        intro wz hz'
        have hbz : Below v.heap.size v wz := by obtain ⟨pp, rfl⟩ := hz'; exact below_regrown _ _ _
        clear hz'
        refine wpList_store_mid rfl 81 (.tmp 63) (.tmp 62) rfl d.br (k * 64) cx.toArray rfl rfl ?_ GS.out GO.out ?_
        · rw [GX.out]; exact GT.out _ hbz
        have hfin := GD.out wz _ hbz rfl
        go_wp2
        go_roundw
        case rel => exact ⟨k + 1, tailAddr a cap c, len - c, cap - c, by omega, by go_num, rfl, hfin⟩
        case measure => simp [intOf]; omega
    · obtain rfl : k = d.n := by omega
      have hst := hu.st
      have hchg := hu.chg
      have hcr : s.crashed p = (s.crashTo p d.n).flushed := by rw [St.crashed, HC.out]
      obtain ⟨cur, k1, k2, k3⟩ := hst.sure.lies
      have hr := fun ty => Mem.runCopy ty hst.drew.sure hst.drew.now cur k1.drew
      have hn' := hst.drew.flushed cur k1.drew rfl
      have HR := Lib.hid hr
      have HN := Lib.hid hn'
      have HCR := Lib.hid hcr
      clear hst hr hn' k1 k2 k3 hcr hu
      go_wp2_with fail
      go_region_law ((refine Blk.step_copy rfl (.tmp 68) (.tmp 72) 64 64 rfl rfl rfl (HR.out _) ?_))
      all_goals
        go_wp2
        refine bodyPost_end (results_none rfl _ _ _) rfl ⟨rfl, by rw [HCR.out]; exact HN.out.1, hchg.trans (Blk.Chg.ofDrew HN.out.2)⟩
end Disk
end Go.Proofs.Ytjeidfknnophnaa

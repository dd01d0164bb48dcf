/-
The contract of the reference's Crash.
-/
import Derived.Test.YthjilmeaaghpaaaRefOps
import Derived.Test.YthjilmeaaghpaaaDiskCrash
import Derived.Test.YthjilmeaaghpaaaDiskAwake
namespace Go.Proofs.Ythjilmeaaghpaaa
open Go.RowKit
set_option linter.unusedVariables false
namespace Ref
open Disk (Sec Secs St hasB crashN crashStep mix mixb pick zero pick_sec mix_len mix_sec zero_sec)

def crashR (s : St) (p : List Int) (k : Nat) : St := { s with now := (crashN s.sure s.now p k).1 }
theorem crashed_eq (s : St) (p : List Int) : s.crashed p = { (crashR s p s.now.length).flushed with fuse := 0, off := false } := rfl

/-- The first k of res, then base. -/
def fillTo (res base : List Int) (k : Nat) : List Int := res.take k ++ base.drop k
theorem fillTo_len {res base : List Int} (hr : res.length = 64) (hb : base.length = 64) (k : Nat) (hk : k ≤ 64) : (fillTo res base k).length = 64 := by simp [fillTo, hr, hb]; omega
theorem fillTo_zero (res base : List Int) : fillTo res base 0 = base := by simp [fillTo]
theorem fillTo_all {res base : List Int} (hr : res.length = 64) (hb : base.length = 64) : fillTo res base 64 = res := by
  rw [fillTo, List.take_of_length_le (by omega), List.drop_eq_nil_of_le (by omega), List.append_nil]
theorem fillTo_succ {res base : List Int} (hr : res.length = 64) (hb : base.length = 64) {k : Nat} (hk : k < 64) : (fillTo res base k).set k (res.getD k 0) = fillTo res base (k + 1) := by
  have hl : (res.take k).length = k := by rw [List.length_take]; omega
  have hm : res.take (k + 1) = res.take k ++ [res.getD k 0] := by
    rw [List.take_succ_eq_append_getElem (by omega)]; simp [show k < res.length by omega]
  rw [fillTo, fillTo, List.set_append_right _ _ (by omega), hl, Nat.sub_self, hm, List.append_assoc]
  congr 1
  rw [show base.drop k = base[k] :: base.drop (k + 1) from List.drop_eq_getElem_cons (by omega), List.set_cons_zero]
  rfl
theorem mix_at (a b p : List Int) {k : Nat} (hk : k < 64) : (mix a b p).getD k 0 = mixb (a.getD k 0) (b.getD k 0) (p.getD k 0) := by simp [mix, hk]
theorem pick_at (p : List Int) {k : Nat} (hk : k < 64) : (pick p).getD k 0 = p.getD k 0 := by
  unfold pick
  by_cases h : k < p.length
  · simp only [List.getD_eq_getElem?_getD]
    rw [List.getElem?_append_left (by rw [List.length_take]; omega), List.getElem?_take, if_pos hk]
  · simp only [List.getD_eq_getElem?_getD]
    rw [List.getElem?_append_right (by rw [List.length_take]; omega), List.getElem?_eq_none (show p.length ≤ k by omega), List.getElem?_replicate]
    split <;> rfl

theorem bcells_toArray_at (zs : List Int) (j : Nat) (h : j < zs.length) : (bcells zs).toArray[j]? = some (.int .u8 (zs.getD j 0)) := by
  have := bcells_at zs j h
  simpa using this

structure Under (w u : World) (m : Rk) (s : St) (p : List Int) (k : Nat) (a : Option Addr) (len cap : Nat) : Prop where
  st : At u m (crashR s p k)
  row : Row u a len (crashN s.sure s.now p k).2
  le : len ≤ cap
  chg : Blk.Chg m.Has w u
  apart : 0 < len → ∀ x, a = some x → ¬ m.Has x.block
  nil : a = none → cap = 0
theorem Under.on {w u u' : World} {m s p k a len cap} (h : Under w u m s p k a len cap) (hb : Below u.heap.size u u') : Under w u' m s p k a len cap :=
  ⟨h.st.below hb, h.row.below hb, h.le, h.chg.trans (Blk.Chg.ofBelow' hb), h.apart, h.nil⟩
theorem Under.drewN {w u : World} {m s p k a len cap} (h : Under w u m s p k a len cap) (n : Nat) : Under w (u.drewN n) m s p k a len cap :=
  h.on ⟨rfl, rfl, rfl, Nat.le_refl _, fun _ _ => rfl⟩
theorem Under.same {w u : World} {m s p k a len cap} (h : Under w u m s p k a len cap) (he : (crashR s p k).now.getD k [] = s.sure.getD k []) : Under w u m s p (k + 1) a len cap := by
  have e := Disk.crash_same (s := s) (p := p) (k := k) he
  refine ⟨?_, by rw [e]; exact h.row, h.le, h.chg, h.apart, h.nil⟩
  have : crashR s p (k + 1) = crashR s p k := by rw [crashR, e]; rfl
  rw [this]; exact h.st
/-- The inner loop: the bytes of the new row from place 0 to j are made. -/
structure Inner (wq u : World) (m : Rk) (res p : List Int) (j : Nat) (a : Option Addr) (len cap : Nat) : Prop where
  below : Below wq.heap.size wq u
  blk : Blk.Is u wq.heap.size 5 (bcells (fillTo res zero j)).toArray
  row : Row wq a len (p.drop j)
  le : len ≤ cap
  apart : 0 < len → ∀ x, a = some x → ¬ m.Has x.block
  nil : a = none → cap = 0

theorem Inner.put {wq u u' : World} {m : Rk} {res p : List Int} {j : Nat} {a a' : Option Addr} {len len' cap cap' : Nat} (h : Inner wq u m res p j a len cap) (hj : j < 64) (hres : res.length = 64) (v : Value) (hv : v = .int .u8 (res.getD j 0))
    (hu : u' = u.setCell ⟨wq.heap.size, j, none⟩ v) (row : Row wq a' len' (p.drop (j + 1))) (le : len' ≤ cap') (apart : 0 < len' → ∀ x, a' = some x → ¬ m.Has x.block) (nil : a' = none → cap' = 0) : Inner wq u' m res p (j + 1) a' len' cap' := by
  refine ⟨by rw [hu]; exact h.below.setCell (Nat.le_refl _) _, ?_, row, le, apart, nil⟩
  have := h.blk.set j v
  rw [hu]
  have e : (bcells (fillTo res zero j)).toArray.setIfInBounds j v = (bcells (fillTo res zero (j + 1))).toArray := by
    rw [← fillTo_succ hres zero_sec.len hj, hv]
    apply Array.ext'
    simp [bcells, List.map_set]
  rwa [e] at this
theorem Inner.on {wq u u' : World} {m : Rk} {res p : List Int} {j : Nat} {a : Option Addr} {len cap : Nat} (h : Inner wq u m res p j a len cap) (n : Nat) (e : u' = u.drewN n) : Inner wq u' m res p j a len cap := by
  subst e
  exact ⟨⟨h.below.os, h.below.tape, h.below.output, h.below.size, h.below.block⟩, h.blk, h.row, h.le, h.apart, h.nil⟩

set_option maxRecDepth 100000 in
theorem ref_crash_any (m : Rk) (s : St) (a : Option Addr) (len cap : Nat) (p : List Int) (w : World) (h : At w m s) (hr : Row w a len p) (hl : len ≤ cap) (ha : 0 < len → ∀ x, a = some x → ¬ m.Has x.block) (hn : a = none → cap = 0) :
    Calls Try.prog 26 #[m.ptr, .slice a len cap] w fun e w' => e = .returned (.tuple #[]) ∧ At w' m (s.crashed p) ∧ Blk.Chg m.Has w w' := by
  obtain ⟨z, hmk, hzz⟩ : ∃ z, (∀ w : World, (Instr.makeSlice 28 (.int .i64 64) (.int .i64 64)).run Try.prog w = .ok (.slice (some ⟨w.heap.size, 0, none⟩) 64 64) (w.alloc (.cells z 5))) ∧ z = (bcells zero).toArray := ⟨_, Disk.run_make_bytes, rfl⟩
  have hcn := h.now.secs.count
  have hfew := h.now.few
  obtain ⟨a0, cap0, hv0, hcap0⟩ := h.now.shape
  obtain ⟨a1, cap1, hv1, hcap1⟩ := h.sure.shape
  have c0 := h.flds.c0
  rw [hv0] at c0
  have H := Lib.hid h
  have HR := Lib.hid hr
  have HC := Lib.hid hcn
  have HZ := Lib.hid hzz
  have HV0 := Lib.hid hv0
  have HV1 := Lib.hid hv1
  clear h hr hcn hzz hv0 hv1
  unfold Rk.ptr
  go_enter Try.func26, Try.ntmps26
  go_wp2
  go_loopw [1, 13] (fun pk i wr => ∃ k : Nat, ∃ (a : Option Addr) (len cap : Nat), k ≤ m.n ∧ i = .int .i64 k ∧ pk = .slice a len cap ∧ Under w wr m s p k a len cap) (fun _ i _ => m.n - (intOf i).toNat)
  case atStart => exact ⟨0, a, len, cap, by omega, rfl, rfl, H.out, HR.out, hl, Blk.Chg.refl _ _, ha, hn⟩
  case round =>
    obtain ⟨k, a, len, cap, hk, rfl, rfl, hu⟩ := hrel
    clear c0 HR
    by_cases hlt : k < m.n
    · obtain ⟨g, cg, x, cx, hv, hg, hob, hfr, ⟨hcell, hle, hba, hby, hrow⟩⟩ := hu.st.now.place k hlt
      obtain ⟨g', cg', x', cx', hv', hg', hob', hfr', ⟨hcell', hle', hba', hby', hrow'⟩⟩ := hu.st.sure.place k hlt
      have b0 := hu.st.flds.c0
      have b1 := hu.st.flds.c1
      rw [hv] at b0
      rw [hv'] at b1
      have s0 := hu.st.now.secs.at hlt
      have s1 := hu.st.sure.secs.at hlt
      obtain ⟨mm, hm⟩ : ∃ mm, (crashR s p k).now.getD k [] = mm := ⟨_, rfl⟩
      obtain ⟨q, hq⟩ : ∃ q, (crashR s p k).sure.getD k [] = q := ⟨_, rfl⟩
      rw [hm] at s0 hrow
      rw [hq] at s1 hrow'
      have heq := str_beq s0.byt s1.byt
      have e0 : ∀ n, (convert 28 9 (.slice (some ⟨x, 0, none⟩) 64 cx)).run Try.prog (wr.drewN n) = .ok (.string (strOfNums mm)) (wr.drewN n) := fun n => (Row.below (w' := wr.drewN n) hrow ⟨rfl, rfl, rfl, Nat.le_refl _, fun _ _ => rfl⟩).conv cx
      have e1 : ∀ n, (convert 28 9 (.slice (some ⟨x', 0, none⟩) 64 cx')).run Try.prog (wr.drewN n) = .ok (.string (strOfNums q)) (wr.drewN n) := fun n => (Row.below (w' := wr.drewN n) hrow' ⟨rfl, rfl, rfl, Nat.le_refl _, fun _ _ => rfl⟩).conv cx'
      generalize strOfNums mm = t0 at *
      generalize strOfNums q = t1 at *
      have i0 : (0 : Int) ≤ k := by omega
      have i1 : (k : Int) < m.n := by omega
      have HU := Lib.hid hu
      have HM := Lib.hid hm
      have HQ := Lib.hid hq
      have HROW := Lib.hid hrow
      have HROW' := Lib.hid hrow'
      have HV := Lib.hid hv
      have HV' := Lib.hid hv'
      clear hu hm hq hrow hrow' hv hv' hob hob' hfr hfr' hby hby'
      by_cases hsame : mm = q
      · have he : decide (mm = q) = true := by simpa using hsame
        rw [he] at heq
        have HS := Lib.hid hsame
        clear hsame he
        go_wp2_with fail
        go_quiet (fail)
        go_wp2
        go_roundw
        case rel => exact ⟨k + 1, a, len, cap, by omega, by go_num, rfl, (HU.out.drewN nq).same (by rw [HM.out, HS.out]; exact HQ.out.symm)⟩
        case measure => simp [intOf]; omega
      · have he : decide (mm = q) = false := by simpa using hsame
        rw [he] at heq
        have HS := Lib.hid hsame
        clear hsame he
        go_wp2_with fail
        go_quiet (fail)
        obtain ⟨wq, hwq⟩ : ∃ wq, wq = wr.drewN nq := ⟨_, rfl⟩
        rw [← hwq]
        obtain ⟨pk0, hpk⟩ : ∃ pk0, (crashN s.sure s.now p k).2 = pk0 := ⟨_, rfl⟩
        have hu := HU.out.drewN nq
        rw [← hwq] at hu
        have hrq := hu.row
        rw [hpk] at hrq
        have hpick := pick_sec hrq.byt
        have q0 : wq.cell? ⟨m.p, 0, none⟩ = some (.slice (some ⟨g, 0, none⟩) m.n cg) := by rw [hwq]; exact b0
        have q1 : wq.cell? ⟨m.p, 1, none⟩ = some (.slice (some ⟨g', 0, none⟩) m.n cg') := by rw [hwq]; exact b1
        have q2 : wq.cell? ⟨g, k, none⟩ = some (.slice (some ⟨x, 0, none⟩) 64 cx) := by rw [hwq]; exact hcell
        have q3 : wq.cell? ⟨g', k, none⟩ = some (.slice (some ⟨x', 0, none⟩) 64 cx') := by rw [hwq]; exact hcell'
        have q4 : Row wq (some ⟨x, 0, none⟩) 64 mm := by rw [hwq]; exact Row.below (w' := wr.drewN nq) HROW.out ⟨rfl, rfl, rfl, Nat.le_refl _, fun _ _ => rfl⟩
        have q5 : Row wq (some ⟨x', 0, none⟩) 64 q := by rw [hwq]; exact Row.below (w' := wr.drewN nq) HROW'.out ⟨rfl, rfl, rfl, Nat.le_refl _, fun _ _ => rfl⟩
        have hin0 : Inner wq (wq.alloc (.cells z 5)) m (mix q mm (pick pk0)) pk0 0 a len cap :=
          ⟨(Below.refl _ _).alloc (Nat.le_refl _) _, by rw [fillTo_zero, ← HZ.out]; exact Blk.Is.new wq _ _, hrq, hu.le, hu.apart, hu.nil⟩
        have HIN0 := Lib.hid hin0
        have HU2 := Lib.hid hu
        have HPK := Lib.hid hpk
        have Q0 := Lib.hid q0
        have Q1 := Lib.hid q1
        have Q2 := Lib.hid q2
        have Q3 := Lib.hid q3
        have Q4 := Lib.hid q4
        have Q5 := Lib.hid q5
        have HRQ := Lib.hid hrq
        clear HU HROW HROW' hin0 hu hpk q0 q1 q2 q3 q4 q5 hwq b0 b1 hcell hcell' e0 e1 heq hrq
        go_wp2_with fail
        go_loopw [1, 36] (fun pk i u => ∃ j : Nat, ∃ (a : Option Addr) (len cap : Nat), j ≤ 64 ∧ i = .int .i64 j ∧ pk = .slice a len cap ∧ Inner wq u m (mix q mm (pick pk0)) pk0 j a len cap) (fun _ i _ => 64 - (intOf i).toNat)
        case atStart => exact ⟨0, a, len, cap, by omega, rfl, rfl, HIN0.out⟩
        case round =>
          clear HIN0
          obtain ⟨j, a, len, cap, hj, rfl, rfl, hin⟩ := hrel
          by_cases hj64 : j < 64
          · have hb := hin.below
            have lt : ∀ {A v}, wq.cell? A = some v → wr.cell? A = some v := fun {A v} hA => by rw [hb.cell (block_lt_of_cell hA)]; exact hA
            have r0 := lt Q0.out
            have r1 := lt Q1.out
            have r2 := lt Q2.out
            have r3 := lt Q3.out
            obtain ⟨_, _, e, _, k4⟩ := (Q4.out.below hb).cells (by omega)
            cases e
            obtain ⟨_, _, e, _, k5⟩ := (Q5.out.below hb).cells (by omega)
            cases e
            have r4 := k4 j hj64
            have r5 := k5 j hj64
            rw [Nat.zero_add] at r4 r5
            obtain ⟨v4, hv4⟩ : ∃ v, mm.getD j 0 = v := ⟨_, rfl⟩
            obtain ⟨v5, hv5⟩ : ∃ v, q.getD j 0 = v := ⟨_, rfl⟩
            rw [hv4] at r4
            rw [hv5] at r5
            have r6 : ∃ v6, wr.cell? ⟨wq.heap.size, j, none⟩ = some v6 := ⟨_, hin.blk.at (bcells_toArray_at _ j (by rw [fillTo_len (mix_len _ _ _) zero_sec.len j hj]; exact hj64))⟩
            have r7 := hin.blk.free j
            obtain ⟨v6, r6⟩ := r6
            have hres : (mix q mm (pick pk0)).getD j 0 = bits .or .u8 (bits .and .u8 v4 (pk0.getD j 0)) (bits .andNot .u8 v5 (pk0.getD j 0)) := by
              rw [mix_at _ _ _ hj64, pick_at _ hj64, mixb, Disk.or_comm8, hv4, hv5]
            obtain ⟨pv, hpv⟩ : ∃ v, pk0.getD j 0 = v := ⟨_, rfl⟩
            rw [hpv] at hres
            have j0 : (0 : Int) ≤ j := by omega
            have j1 : (j : Int) < 64 := by omega
            have HPV := Lib.hid hpv
            have HRES := Lib.hid hres
            have HIN := Lib.hid hin
            clear hb k4 k5 hv4 hv5 hres hpv hin
            by_cases h0 : 0 < len
            · obtain ⟨pb, po, rfl, hpb, hpc⟩ := HIN.out.row.cells h0
              have hc0 := hpc 0 h0
              have hgd : (pk0.drop j).getD 0 0 = pv := by rw [← HPV.out]; simp
              rw [hgd, Nat.add_zero] at hc0
              have r8 : wr.cell? ⟨pb, po, none⟩ = some (.int .u8 pv) := by rw [HIN.out.below.cell (by exact hpb)]; exact hc0
              have hle8 := HIN.out.le
              have hsl := Disk.run_slice_tail (some ⟨pb, po, none⟩) len cap 1 h0 hle8
              rw [show ((1 : Nat) : Int) = 1 from rfl] at hsl
              have hlen1 : (0 : Int) < len := by omega
              clear hpc hc0 hgd hpb
              go_wp2_with fail
              go_quiet (fail)
              go_wp2_with fail
              refine Reg.wp_class_tail 28 (by kernel_rfl) (by kernel_rfl) (fun v => ∃ n, v = (wr.drewN nq).drewN n) ⟨1, rfl⟩ ?_
              simp only [List.take_succ_cons, List.take_zero, List.drop_succ_cons, List.drop_zero]
              iterate 28 (go_big_quiet_step (fail))
              refine wpQuiet_nil ?_
              intro u3 hu3
              obtain ⟨n3, rfl⟩ := hu3
              have hin3 := HIN.out.on (nq + n3) rfl
              have hrow1 := hin3.row.tail 1 h0 hle8
              rw [List.drop_drop] at hrow1
              go_wp2
              go_roundw
              case rel =>
                refine ⟨j + 1, tailAddr (some ⟨pb, po, none⟩) cap 1, len - 1, cap - 1, by omega, by go_num, rfl, hin3.put hj64 (mix_len _ _ _) _ (congrArg _ HRES.out.symm) rfl hrow1 (by omega) ?_ ?_⟩
                · intro _ y hy
                  obtain ⟨x1, hx1, hb1⟩ := tailAddr_block hy
                  rw [← hb1]; exact hin3.apart h0 x1 hx1
                · intro hy
                  unfold tailAddr at hy
                  split at hy <;> cases hy
              case measure => simp [intOf]; omega
            · obtain rfl : len = 0 := by omega
              have hrc := HIN.out.row.count
              obtain rfl : 0 = pv := by
                rw [← HPV.out]
                have : pk0.length ≤ j := by
                  have := congrArg List.length (List.eq_nil_of_length_eq_zero hrc)
                  simp at this; omega
                simp [List.getD, List.getElem?_eq_none this]
              clear hrc
              go_wp2_with fail
              refine Reg.wp_class_tail 28 (by kernel_rfl) (by kernel_rfl) (fun v => ∃ n, v = wr.drewN n) ⟨1, rfl⟩ ?_
              simp only [List.take_succ_cons, List.take_zero, List.drop_succ_cons, List.drop_zero]
              iterate 28 (go_big_quiet_step (fail))
              refine wpQuiet_nil ?_
              intro u3 hu3
              obtain ⟨n3, rfl⟩ := hu3
              have hin3 := HIN.out.on n3 rfl
              have hrow1 : Row wq a 0 (pk0.drop (j + 1)) := by
                have : pk0.drop (j + 1) = [] := by
                  have h1 := congrArg (List.drop 1) (List.eq_nil_of_length_eq_zero hin3.row.count)
                  rwa [List.drop_drop] at h1
                rw [this]; exact Row.empty _ _
              go_wp2
              go_roundw
              case rel => exact ⟨j + 1, a, 0, cap, by omega, by go_num, rfl, hin3.put hj64 (mix_len _ _ _) _ (congrArg _ HRES.out.symm) rfl hrow1 hin3.le hin3.apart hin3.nil⟩
              case measure => simp [intOf]; omega
          · obtain rfl : j = 64 := by omega
            have hb := hin.below
            have hu3 := HU2.out.on hb
            have hblk := hin.blk
            rw [fillTo_all (mix_len _ _ _) zero_sec.len] at hblk
            have hmB : m.B ≤ wq.heap.size := by have := HU2.out.st.obj.lt; have := HU2.out.st.base; omega
            have hmine : Mine wr m.B (.slice (some ⟨wq.heap.size, 0, none⟩) 64 64) (mix q mm (pick pk0)) := by
              refine ⟨⟨by simp [mix_len], .inr ⟨wq.heap.size, 64, _, by rw [mix_len], hmB, hblk, by rw [mix_len]; exact Nat.le_refl _, by unfold maxLen; omega, by simp [mix_len], ?_⟩⟩, (mix_sec _ _ _).byt⟩
              rw [List.toList_toArray, List.take_of_length_le (by simp)]
            have c0 : wr.cell? ⟨m.p, 0, none⟩ = some (.slice (some ⟨g, 0, none⟩) m.n cg) := by rw [hb.cell (block_lt_of_cell Q0.out)]; exact Q0.out
            have c2 : wr.cell? ⟨g, k, none⟩ = some (.slice (some ⟨x, 0, none⟩) 64 cx) := by rw [hb.cell (block_lt_of_cell Q2.out)]; exact Q2.out
            have hob : m.vn.ownBlock = some g := by rw [HV.out]; rfl
            obtain ⟨_, cg2, kg⟩ := tbl_block hu3.st.now hob
            have f2 := kg.free k
            have hput := hu3.st.put k hlt HV.out _ _ (mix_sec q mm (pick pk0)) hmine rfl
            have hrow1 := hin.row.below hb
            have hle1 := hin.le
            have hap1 := hin.apart
            have hnil1 := hin.nil
            have hdiff := Disk.crash_diff (s := s) (p := p) (k := k) (by show ¬ (crashR s p k).now.getD k [] = (crashR s p k).sure.getD k []; rw [HM.out, HQ.out]; exact HS.out)
            have hfin : Under w (wr.setCell ⟨g, k, none⟩ (.slice (some ⟨wq.heap.size, 0, none⟩) 64 64)) m s p (k + 1) a len cap := by
              refine ⟨?_, ?_, hle1, hu3.chg.trans hput.2, hap1, hnil1⟩
              · have : crashR s p (k + 1) = (crashR s p k).put k (mix q mm (pick pk0)) := by
                  rw [← HPK.out, ← HM.out, ← HQ.out, crashR, hdiff]; rfl
                rw [this]; exact hput.1
              · rw [hdiff, HPK.out]
                exact hrow1.keep hput.2 (fun h0 b off e => hap1 h0 _ e)
            clear hin hb hu3 hblk hmine hput hrow1 hle1 hap1 hnil1 hdiff kg hob
            have HF := Lib.hid hfin
            clear hfin
            go_wp2
            go_roundw
            case rel => exact ⟨k + 1, a, len, cap, by omega, by go_num, rfl, HF.out⟩
            case measure => simp [intOf]; omega
    · obtain rfl : k = m.n := by omega
      have b0 := hu.st.flds.c0
      have b1 := hu.st.flds.c1
      obtain ⟨w2, hr, h2, c2⟩ := hu.st.drew.flushed 3
      have hchg := hu.chg
      rw [HV0.out] at b0 hr
      rw [HV1.out] at b1 hr
      have g3 := h2.flds.c3
      have g4 := h2.flds.c4
      have f3 := h2.flds.f 3
      have f4 := h2.flds.f 4
      have hcr : s.crashed p = { (crashR s p m.n).flushed with fuse := 0, off := false } := by rw [crashed_eq, HC.out]
      have HCR := Lib.hid hcr
      have HR2 := Lib.hid hr
      have H2 := Lib.hid h2
      clear hu hr h2 hcr
      go_wp2_with fail
      go_region_law ((refine Blk.step_copy rfl (.tmp 87) (.tmp 91) 32 32 rfl rfl rfl HR2.out ?_))
      all_goals
        go_wp2
        refine bodyPost_end (results_none rfl _ _ _) rfl ⟨rfl, ?_, ?_⟩
        · rw [HCR.out]
          refine H2.out.set _ rfl rfl (by show (0:Int) ≤ 0; decide) (by show (0:Int) ≤ _; decide) ?_ ?_
          · have := (H2.out.obj.set 4 (.bool false)).set 3 (.int .i64 0)
            simpa [Rk.cells] using this
          · refine Blk.Chg.setAt ?_ rfl; exact Blk.Chg.setAt (Blk.Chg.refl _ _) rfl
        · refine hchg.trans ((Blk.Chg.ofDrew c2).trans ?_)
          refine Blk.Chg.setAt ?_ (.inl rfl); exact Blk.Chg.setAt (Blk.Chg.refl _ _) (.inl rfl)
end Ref
end Go.Proofs.Ythjilmeaaghpaaa

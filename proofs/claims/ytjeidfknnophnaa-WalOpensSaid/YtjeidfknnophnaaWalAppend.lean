/-
The contract of Append.
-/
import Derived.Test.YtjeidfknnophnaaWalOpen
import Derived.Deep.RegionLaw
namespace Go.Proofs.Ytjeidfknnophnaa
open Go.RowKit
set_option linter.unusedVariables false
namespace Wal
open Disk (Dk St Sec Secs)

theorem append_long (p dp : Nat) (l : LSt) (a : Option Addr) (len cap : Nat) (w : World) (h : LAt w p dp l) (hl : 8192 < len) (hs : len ≤ 9223372036854775807) :
    Calls Try.prog 29 #[.pointer (some ⟨p, 0, none⟩), .slice a len cap] w fun e w' => e = .returned (.int .i64 2) ∧ w = w' := by
  clear h
  go_enter Try.func29, Try.ntmps29
  go_wp2
  go_ret
  exact ⟨rfl, rfl⟩
theorem append_room (p dp : Nat) (l : LSt) (a : Option Addr) (len cap : Nat) (w : World) (h : LAt w p dp l) (hl : len ≤ 8192) (hr : l.count = 512 ∨ l.to < l.next + needN len) :
    Calls Try.prog 29 #[.pointer (some ⟨p, 0, none⟩), .slice a len cap] w fun e w' => e = .returned (.int .i64 6) ∧ Below w.heap.size w w' := by
  have c4 := h.flds.c4
  by_cases h512 : l.count = 512
  · rw [h512] at c4
    have e : (((512 : Nat) : Int) == 512) = true := by rfl
    clear h hr h512
    go_enter Try.func29, Try.ntmps29
    go_wp2
    go_ret
    exact ⟨rfl, Below.refl _ _⟩
  · have hne : ((l.count : Int) == 512) = false := by simp; omega
    have hfr := free_any p dp l w h
    have hq := needN_any len
    have hb : decide (((l.to - l.next : Nat) : Int) < (needN len : Int)) = true := by
      have := h.ok.o1
      simp; omega
    obtain ⟨F, hF⟩ : ∃ F, l.to - l.next = F := ⟨_, rfl⟩
    obtain ⟨N, hN⟩ : ∃ N, needN len = N := ⟨_, rfl⟩
    rw [hF] at hfr hb
    rw [hN] at hq hb
    have hFN : F < N := by simpa using hb
    have HF := Lib.hid hfr
    have HQ := Lib.hid hq
    clear h hr h512 hfr hq hF hN hb
    go_enter Try.func29, Try.ntmps29
    go_wp2_with fail
    refine (HQ.out _ (by omega)).mono ?_
    rintro e w' ⟨rfl, rfl⟩
    go_wp2_with fail
    refine HF.out.mono ?_
    rintro e w1 hT
    obtain ⟨rfl, hb1⟩ := hT.below
    clear hT HF HQ
    go_wp2
    go_ret
    exact ⟨rfl, hb1⟩
theorem append_state (p dp : Nat) (l : LSt) (a : Option Addr) (len cap : Nat) (w : World) (h : LAt w p dp l) (hl : len ≤ 8192) (hc : l.count < 512) (hr : l.next + needN len ≤ l.to) (hf : l.failed = true) :
    Calls Try.prog 29 #[.pointer (some ⟨p, 0, none⟩), .slice a len cap] w fun e w' => e = .returned (.int .i64 13) ∧ Below w.heap.size w w' := by
  have c4 := h.flds.c4
  have hne : ((l.count : Int) == 512) = false := by simp; omega
  have hfr := free_any p dp l w h
  have hq := needN_any len
  have hle : needN len ≤ l.to - l.next := by omega
  obtain ⟨F, hF⟩ : ∃ F, l.to - l.next = F := ⟨_, rfl⟩
  obtain ⟨N, hN⟩ : ∃ N, needN len = N := ⟨_, rfl⟩
  rw [hF] at hfr hle
  rw [hN] at hq hle
  have HF := Lib.hid hfr
  have HQ := Lib.hid hq
  have H := Lib.hid h
  have HFL := Lib.hid hf
  clear h hr hfr hq hF hN hf
  go_enter Try.func29, Try.ntmps29
  go_wp2_with fail
  refine (HQ.out _ (by omega)).mono ?_
  rintro e w' ⟨rfl, rfl⟩
  go_wp2_with fail
  refine HF.out.mono ?_
  rintro e w1 hT
  obtain ⟨rfl, hb1⟩ := hT.below
  have c6 := (H.out.below hb1).flds.c6
  rw [HFL.out] at c6
  clear hT HF HQ
  go_wp2
  go_ret
  exact ⟨rfl, hb1⟩

theorem wp_alloc_agg {o : Oper} {a : Act} {w : World} {K : Act → World → Prop} {Q : Exit → Act → World → Prop} (ty : TypeId) (ho : o.op = .alloc ty) (z : Array Value) (hz : (zeroValue ty).run Try.prog w = .ok (.agg z) w)
    (h : K (a.put o.dst (.pointer (some ⟨w.heap.size, 0, none⟩))) (w.alloc (.cells z ty))) : o.wp Try.prog a w K Q := by
  unfold Oper.wp execOp
  simp [ho, hz, Instr.alloc, newVar, newRow, Value.cells, Oper.upon]
  exact h
/-- What Append makes of the disk and the log, and what it tells. -/
def appendS (s : St) (l : LSt) (zs : List Int) : St × LSt × Int :=
  if (wsure s l.next (record zs) (needN zs.length)).2 = 0 then
    if (wsure (wsure s l.next (record zs) (needN zs.length)).1 l.base (setMark l.marks l.count) 1).2 = 0 then
      ((wsure (wsure s l.next (record zs) (needN zs.length)).1 l.base (setMark l.marks l.count) 1).1, ({ l with marks := setMark l.marks l.count } : LSt).stepped zs.length, 0)
    else ((wsure (wsure s l.next (record zs) (needN zs.length)).1 l.base (setMark l.marks l.count) 1).1, { l with failed := true }, (wsure (wsure s l.next (record zs) (needN zs.length)).1 l.base (setMark l.marks l.count) 1).2)
  else ((wsure s l.next (record zs) (needN zs.length)).1, { l with failed := true }, (wsure s l.next (record zs) (needN zs.length)).2)
structure Appended (w : World) (p : Nat) (d : Dk) (s : St) (l : LSt) (zs : List Int) (e : Ending) (w' : World) : Prop where
  told : e = .returned (.int .i64 (appendS s l zs).2.2)
  disk : Disk.At w' d (appendS s l zs).1
  log : LAt w' p d.p (appendS s l zs).2.1
  chg : Blk.Chg (fun k => k = p ∨ d.Has k) w w'
theorem mine_bytes {w : World} {base n cap : Nat} {x : Addr} {zs : List Int} (h : Mine w base (.slice (some x) n cap) zs) : ∃ cur, Blk.Is w x.block 5 cur := by
  rcases h.1.2 with ⟨h1, _⟩ | ⟨g, cap', cur, h1, _, h3, _⟩ <;> simp only [Value.slice.injEq] at h1
  · exact absurd h1.1 (by simp)
  · have e := h1.1
    cases e
    exact ⟨cur, h3⟩
theorem flush_calls (s : St) : s.flush.calls = s.calls + 1 := by unfold St.flush; split <;> rfl
theorem wsure_calls (s : St) (i : Nat) (zs : List Int) (n : Nat) : (wsure s i zs n).1.calls ≤ s.calls + n + 1 := by
  induction n generalizing s i zs with
  | zero => rw [wsure, flush_calls]; omega
  | succ n ih =>
    rw [wsure]
    split
    · have := ih (s.write i (zs.take 64)) (i + 1) (zs.drop 64)
      rw [write_calls] at this; omega
    · rw [write_calls]; omega
theorem yieldsIf_slice_marks {ops : Array Oper} {S : World → Prop} {op : Oper} {a : Act} (hw : Region.wanted op (yielded ops a.tmps) = true) (x : Operand) (ho : op.op = .slice 69 x none none none)
    (b : Nat) (hx : a.eval x = .pointer (some ⟨b, 0, none⟩)) : YieldsIf Try.prog ops S op (.slice (some ⟨b, 0, none⟩) 64 64) a := by
  refine .inl ⟨hw, fun w hS => ?_⟩
  have hsz : (sizeOf 5).run Try.prog w = .ok 1 w := by
    obtain ⟨i0, hi, hz0, hz1, hz2⟩ := info_parts infoU8
    simp [sizeOf, typeInfo, hi, hz1]
  unfold execOp
  simp [ho, hx, Instr.sliceAt, Instr.slice, Instr.sliceBounds, Instr.sureAddr, run_underlying Try.underlying69, hsz, Addr.add]
theorem yieldsIf_load_ptr {ops : Array Oper} {S : World → Prop} {op : Oper} {a : Act} (hw : Region.wanted op (yielded ops a.tmps) = true) (ty : TypeId) (x : Operand) (ho : op.op = .load ty x)
    (b o : Nat) (hx : a.eval x = .pointer (some ⟨b, o, none⟩)) (v : Value) (hc : ∀ w, S w → w.cell? ⟨b, o, none⟩ = some v) {e : TypeId} (hu : Try.prog.underlying ty = some (.pointer e)) : YieldsIf Try.prog ops S op v a := by
  refine .inl ⟨hw, fun w hS => ?_⟩
  have h := hc w hS
  unfold execOp
  simp [ho, hx, Instr.loadAt, Instr.sureAddr, loadVar, isAgg, run_underlying hu, h]
theorem yieldsIf_load_one {ops : Array Oper} {S : World → Prop} {op : Oper} {a : Act} (hw : Region.wanted op (yielded ops a.tmps) = true) (ty : TypeId) (x : Operand) (ho : op.op = .load ty x)
    (b o : Nat) (hx : a.eval x = .pointer (some ⟨b, o, none⟩)) (v : Value) (hc : ∀ w, S w → w.cell? ⟨b, o, none⟩ = some v) (hu : Try.prog.underlying ty = some (.int .i64)) : YieldsIf Try.prog ops S op v a := by
  refine .inl ⟨hw, fun w hS => ?_⟩
  have h := hc w hS
  unfold execOp
  simp [ho, hx, Instr.loadAt, Instr.sureAddr, loadVar, isAgg, run_underlying hu, h]
set_option maxRecDepth 100000 in
set_option maxHeartbeats 4000000 in
set_option linter.unusedSimpArgs false in
theorem append_go (p : Nat) (d : Dk) (s : St) (l : LSt) (a : Option Addr) (len cap : Nat) (zs : List Int) (w : World) (h : LAt w p d.p l) (hd : Disk.At w d s) (hr : Row w a len zs) (hn : a = none → cap = 0) (hcap : len ≤ cap)
    (ha : 0 < len → ∀ b off, a = some ⟨b, off, none⟩ → ¬ (b = p ∨ d.Has b)) (hl : len ≤ 8192) (hc : l.count < 512) (hf : l.next + needN len ≤ l.to) (hto : l.to ≤ d.n) (hfl : l.failed = false) (hcal : s.calls < 4611686018427000000) :
    Calls Try.prog 29 #[.pointer (some ⟨p, 0, none⟩), .slice a len cap] w (Appended w p d s l zs) := by
  have c4 := h.flds.c4
  have hne : ((l.count : Int) == 512) = false := by simp; omega
  have hfr := free_any p d.p l w h
  have hq := needN_any len
  have hle : needN len ≤ l.to - l.next := by omega
  obtain ⟨F, hF⟩ : ∃ F, l.to - l.next = F := ⟨_, rfl⟩
  obtain ⟨N, hN⟩ : ∃ N, needN len = N := ⟨_, rfl⟩
  rw [hF] at hfr hle
  rw [hN] at hq hle hf
  have hN1 : N ≤ 129 := by rw [← hN]; exact needN_le len
  have ho2 := h.ok.o2
  have ho3 := h.ok.o3
  have HF := Lib.hid hfr
  have HQ := Lib.hid hq
  have H := Lib.hid h
  have HD := Lib.hid hd
  have R0 := Lib.hid hr
  have HNN := Lib.hid hN
  have HNIL := Lib.hid hn
  have HAP := Lib.hid ha
  have HFL := Lib.hid hfl
  clear h hr hfr hq hF hN hfl hd hn ha
  go_enter Try.func29, Try.ntmps29
  go_wp2_with fail
  refine (HQ.out _ (by omega)).mono ?_
  rintro e w' ⟨rfl, rfl⟩
  go_wp2_with fail
  refine HF.out.mono ?_
  rintro e w1 hT
  obtain ⟨rfl, hb1⟩ := hT.below
  have c6 := (H.out.below hb1).flds.c6
  rw [HFL.out] at c6
  clear hT HF HQ
  obtain ⟨zm, hzm, hzs⟩ := zeroMarks
  have L1 := Lib.hid (H.out.below hb1)
  have k4 : ∀ u, Below w1.heap.size w1 u → u.cell? ⟨p, 4, none⟩ = some (.int .i64 l.count) := fun u hu => by rw [hu.cell (by exact L1.out.obj.lt)]; exact L1.out.flds.c4
  obtain ⟨cm, hcm⟩ : ∃ c, c = bcells l.marks := ⟨_, rfl⟩
  have km : ∀ u, Below w1.heap.size w1 u → u.rangeAt p 5 cm := fun u hu j v hv => by
    rw [hu.cell (by exact L1.out.obj.lt)]; exact L1.out.flds.m j v (by rw [← hcm]; exact hv)
  have hwi := fun u => with_any l.marks l.count u L1.out.ok.sec hc
  rw [← hcm] at hwi
  obtain ⟨cn, hcn⟩ : ∃ c, c = (bcells (setMark l.marks l.count)).toArray := ⟨_, rfl⟩
  rw [← hcn] at hwi
  have u0 := Try.underlying69
  have z0 : (Try.prog.info? 69).map (·.size) = some cm.length := by rw [sizeMarks, hcm, bcells_length, L1.out.ok.sec.len]
  have z1 : cm.length = 64 := by rw [hcm, bcells_length, L1.out.ok.sec.len]
  have n1 : cn.size = 64 := by rw [hcn]; simp [setMark_len, L1.out.ok.sec.len]
  have n0 : (Try.prog.info? 69).map (·.size) = some cn.size := by rw [sizeMarks, n1]
  have n2 : cn.all (·.oneCell') = true := by rw [hcn]; exact all_oneCell_toArray (bcells_one _)
  have HWI := Lib.hid hwi
  have HCN := Lib.hid hcn
  have HZS := Lib.hid hzs
  clear hwi hcm hcn hzs
  go_wp2_with fail
  refine wp_region_held (S := fun u => Below w1.heap.size w1 u) (by kernel_rfl) ?_
  change wpAnyH _ _ _ _ _ 11 _ _ _
  refine wpAnyH_take (i := 0) (v := .pointer (some ⟨p, 0, none⟩)) rfl (by kernel_rfl) (by kernel_rfl) (by kernel_rfl) (fun _ _ _ h => h) (.inl ⟨rfl, fun w _ => rfl⟩) ((Below.refl _ _).drew) ?_
  simp only [Act.put, List.getElem_toArray, List.getElem_cons_zero, List.getElem_cons_succ, List.setIfInBounds_toArray, List.set_cons_zero, List.set_cons_succ]
  refine wpAnyH_take (i := 1) (v := .pointer (some ⟨p, 0, none⟩)) rfl (by kernel_rfl) (by kernel_rfl) (by kernel_rfl) (fun _ _ _ h => h) (.inl ⟨rfl, fun w _ => rfl⟩) ((Below.refl _ _).drew) ?_
  simp only [Act.put, List.getElem_toArray, List.getElem_cons_zero, List.getElem_cons_succ, List.setIfInBounds_toArray, List.set_cons_zero, List.set_cons_succ]
  refine wpAnyH_take (i := 2) (v := .pointer (some ⟨p, 5, none⟩)) rfl (by kernel_rfl) (by kernel_rfl) (by kernel_rfl) (fun _ _ _ h => h) (.inl ⟨rfl, fun w _ => rfl⟩) ((Below.refl _ _).drew) ?_
  simp only [Act.put, List.getElem_toArray, List.getElem_cons_zero, List.getElem_cons_succ, List.setIfInBounds_toArray, List.set_cons_zero, List.set_cons_succ]
  refine wpAnyH_take (i := 3) (v := .agg cm.toArray) rfl (by kernel_rfl) (by kernel_rfl) (by kernel_rfl) (fun _ _ _ h => h) (yieldsIf_load_mid rfl 69 _ rfl p 5 rfl cm _ km u0 rfl z0) ((Below.refl _ _).drew) ?_
  simp only [Act.put, List.getElem_toArray, List.getElem_cons_zero, List.getElem_cons_succ, List.setIfInBounds_toArray, List.set_cons_zero, List.set_cons_succ]
  refine wpAnyH_take (i := 4) (v := .pointer (some ⟨p, 0, none⟩)) rfl (by kernel_rfl) (by kernel_rfl) (by kernel_rfl) (fun _ _ _ h => h) (.inl ⟨rfl, fun w _ => rfl⟩) ((Below.refl _ _).drew) ?_
  simp only [Act.put, List.getElem_toArray, List.getElem_cons_zero, List.getElem_cons_succ, List.setIfInBounds_toArray, List.set_cons_zero, List.set_cons_succ]
  refine wpAnyH_take (i := 5) (v := .pointer (some ⟨p, 0, none⟩)) rfl (by kernel_rfl) (by kernel_rfl) (by kernel_rfl) (fun _ _ _ h => h) (.inl ⟨rfl, fun w _ => rfl⟩) ((Below.refl _ _).drew) ?_
  simp only [Act.put, List.getElem_toArray, List.getElem_cons_zero, List.getElem_cons_succ, List.setIfInBounds_toArray, List.set_cons_zero, List.set_cons_succ]
  refine wpAnyH_take (i := 6) (v := .pointer (some ⟨p, 4, none⟩)) rfl (by kernel_rfl) (by kernel_rfl) (by kernel_rfl) (fun _ _ _ h => h) (.inl ⟨rfl, fun w _ => rfl⟩) ((Below.refl _ _).drew) ?_
  simp only [Act.put, List.getElem_toArray, List.getElem_cons_zero, List.getElem_cons_succ, List.setIfInBounds_toArray, List.set_cons_zero, List.set_cons_succ]
  refine wpAnyH_take (i := 7) (v := .int .i64 l.count) rfl (by kernel_rfl) (by kernel_rfl) (by kernel_rfl) (fun _ _ _ h => h) (yieldsIf_load_one rfl 3 _ rfl p 4 rfl _ k4 Try.underlying3) ((Below.refl _ _).drew) ?_
  simp only [Act.put, List.getElem_toArray, List.getElem_cons_zero, List.getElem_cons_succ, List.setIfInBounds_toArray, List.set_cons_zero, List.set_cons_succ]
  have hw1 : Below w1.heap.size w1 w1.drew := (Below.refl _ _).drew
  change wpAnyH _ _ _ _ _ 3 _ _ w1.drew
  refine wpAnyH_all (rs := [8, 9]) (by kernel_rfl) (by simp) ?_
  intro i hi
  simp only [List.mem_cons, List.not_mem_nil, or_false] at hi
  rcases hi with rfl | rfl
  focus
    refine Reg.wpOp_list rfl ?_
    go_wp2_with fail
    refine (HWI.out _).mono ?_
    rintro e wW ⟨rfl, hbW⟩
    go_wp2_with fail
    change _ ∧ _
    have hW1 : Below w1.heap.size w1 wW := hw1.trans (hbW.mono hw1.size)
    refine ⟨hW1, ?_⟩
    refine wpAnyH_all (rs := [9]) (by kernel_rfl) (by simp) ?_
    intro i hi
    obtain rfl := List.mem_singleton.1 hi
    refine Reg.wpOp_list rfl ?_
    go_wp2_with fail
    change _ ∧ _
    refine ⟨hW1.alloc hW1.size _, ?_⟩
    refine wpAnyH_all (rs := [10]) (by kernel_rfl) (by simp) ?_
    intro i hi
    obtain rfl := List.mem_singleton.1 hi
    refine Reg.wpOp_list rfl ?_
    refine wpList_store_row rfl 69 _ _ rfl wW.heap.size cn rfl rfl 69 zm (Blk.Is.new wW _ _) n0 (by rw [HZS.out, n1]) n2 ?_
    change _ ∧ _
    simp only [Act.put, List.getElem_toArray, List.getElem_cons_zero, List.getElem_cons_succ, List.setIfInBounds_toArray, List.set_cons_zero, List.set_cons_succ]
    refine ⟨Blk.belowRow (hW1.alloc hW1.size _) hW1.size _, ?_⟩
    refine wpAnyH_done (by kernel_rfl) ?_ _
    have hfinB : Below w1.heap.size w1 ((wW.alloc (.cells zm 69)).setRow wW.heap.size cn) := Blk.belowRow (hW1.alloc hW1.size _) hW1.size _
    have hfinI : Blk.Is ((wW.alloc (.cells zm 69)).setRow wW.heap.size cn) wW.heap.size 69 cn := (Blk.Is.new wW _ _).row _
    have hfinQ : w1.heap.size ≤ wW.heap.size := hW1.size
    clear hbW hW1
    generalize (wW.alloc (.cells zm 69)).setRow wW.heap.size cn = w2 at *
    generalize wW.heap.size = q at *
    clear wW
  rotate_left
  focus
    refine Reg.wpOp_list rfl ?_
    go_wp2_with fail
    change _ ∧ _
    refine ⟨hw1.alloc hw1.size _, ?_⟩
    refine wpAnyH_all (rs := [8]) (by kernel_rfl) (by simp) ?_
    intro i hi
    obtain rfl := List.mem_singleton.1 hi
    refine Reg.wpOp_list rfl ?_
    go_wp2_with fail
    refine (HWI.out _).mono ?_
    rintro e wW ⟨rfl, hbW⟩
    go_wp2_with fail
    change _ ∧ _
    have hW1 : Below w1.heap.size w1 wW := (hw1.alloc hw1.size _).trans (hbW.mono (hw1.alloc hw1.size _).size)
    have hbn := (Blk.Chg.ofBelow' (S := fun _ => False) hbW).is (Blk.Is.new w1.drew 69 zm) (by simp)
    refine ⟨hW1, ?_⟩
    refine wpAnyH_all (rs := [10]) (by kernel_rfl) (by simp) ?_
    intro i hi
    obtain rfl := List.mem_singleton.1 hi
    refine Reg.wpOp_list rfl ?_
    refine wpList_store_row rfl 69 _ _ rfl w1.heap.size cn rfl rfl 69 zm hbn n0 (by rw [HZS.out, n1]) n2 ?_
    change _ ∧ _
    simp only [Act.put, List.getElem_toArray, List.getElem_cons_zero, List.getElem_cons_succ, List.setIfInBounds_toArray, List.set_cons_zero, List.set_cons_succ]
    refine ⟨Blk.belowRow hW1 (Nat.le_refl _) _, ?_⟩
    refine wpAnyH_done (by kernel_rfl) ?_ _
    have hfinB : Below w1.heap.size w1 (wW.setRow w1.heap.size cn) := Blk.belowRow hW1 (Nat.le_refl _) _
    have hfinI : Blk.Is (wW.setRow w1.heap.size cn) w1.heap.size 69 cn := hbn.row _
    have hfinQ : w1.heap.size ≤ w1.heap.size := Nat.le_refl _
    clear hbW hW1 hbn
    obtain ⟨w2, hw2⟩ : ∃ w2, w2 = wW.setRow w1.heap.size cn := ⟨_, rfl⟩
    rw [← hw2] at hfinB hfinI ⊢
    obtain ⟨q, hq⟩ : ∃ q, q = w1.heap.size := ⟨_, rfl⟩
    rw [← hq] at hfinI hfinQ ⊢
    clear hw2 hq
  all_goals
    have D2 := Lib.hid (HD.out.below (hb1.trans (hfinB.mono hb1.size)))
    have L2 := Lib.hid (H.out.below (hb1.trans (hfinB.mono hb1.size)))
    have R2 := Lib.hid (R0.out.below (hb1.trans (hfinB.mono hb1.size)))
    have B2 := Lib.hid (hb1.trans (hfinB.mono hb1.size))
    have M2 := Lib.hid hfinI
    have hS2 : w2.drew.cell? ⟨p, 0, none⟩ = some (.pointer (some ⟨d.p, 0, none⟩)) ∧ w2.drew.cell? ⟨p, 2, none⟩ = some (.int .i64 l.next) := And.intro L2.out.flds.c0 L2.out.flds.c2
    clear hfinB hfinI hfinQ hb1 c6 c4 k4 km u0 z0 z1 n0 n1 n2 HWI HZS hzm L1 hw1
    go_wp2_with fail
    refine wp_region_held (S := fun u => u.cell? ⟨p, 0, none⟩ = some (.pointer (some ⟨d.p, 0, none⟩)) ∧ u.cell? ⟨p, 2, none⟩ = some (.int .i64 l.next)) (by kernel_rfl) ?_
    change wpAnyH _ _ _ _ _ 12 _ _ w2.drew
    refine wpAnyH_take (i := 0) (v := .pointer (some ⟨p, 0, none⟩)) rfl (by kernel_rfl) (by kernel_rfl) (by kernel_rfl) (fun _ _ _ h => h) (.inl ⟨rfl, fun w _ => rfl⟩) hS2 ?_
    simp only [Act.put, List.getElem_toArray, List.getElem_cons_zero, List.getElem_cons_succ, List.setIfInBounds_toArray, List.set_cons_zero, List.set_cons_succ]
    refine wpAnyH_take (i := 1) (v := .pointer (some ⟨p, 0, none⟩)) rfl (by kernel_rfl) (by kernel_rfl) (by kernel_rfl) (fun _ _ _ h => h) (.inl ⟨rfl, fun w _ => rfl⟩) hS2 ?_
    simp only [Act.put, List.getElem_toArray, List.getElem_cons_zero, List.getElem_cons_succ, List.setIfInBounds_toArray, List.set_cons_zero, List.set_cons_succ]
    refine wpAnyH_take (i := 2) (v := .pointer (some ⟨p, 0, none⟩)) rfl (by kernel_rfl) (by kernel_rfl) (by kernel_rfl) (fun _ _ _ h => h) (.inl ⟨rfl, fun w _ => rfl⟩) hS2 ?_
    simp only [Act.put, List.getElem_toArray, List.getElem_cons_zero, List.getElem_cons_succ, List.setIfInBounds_toArray, List.set_cons_zero, List.set_cons_succ]
    refine wpAnyH_take (i := 3) (v := .pointer (some ⟨d.p, 0, none⟩)) rfl (by kernel_rfl) (by kernel_rfl) (by kernel_rfl) (fun _ _ _ h => h) (yieldsIf_load_ptr rfl 31 _ rfl p 0 rfl _ (fun u h => h.1) Try.underlying31) hS2 ?_
    simp only [Act.put, List.getElem_toArray, List.getElem_cons_zero, List.getElem_cons_succ, List.setIfInBounds_toArray, List.set_cons_zero, List.set_cons_succ]
    refine wpAnyH_take (i := 4) (v := .pointer (some ⟨p, 0, none⟩)) rfl (by kernel_rfl) (by kernel_rfl) (by kernel_rfl) (fun _ _ _ h => h) (.inl ⟨rfl, fun w _ => rfl⟩) hS2 ?_
    simp only [Act.put, List.getElem_toArray, List.getElem_cons_zero, List.getElem_cons_succ, List.setIfInBounds_toArray, List.set_cons_zero, List.set_cons_succ]
    refine wpAnyH_take (i := 5) (v := .pointer (some ⟨p, 0, none⟩)) rfl (by kernel_rfl) (by kernel_rfl) (by kernel_rfl) (fun _ _ _ h => h) (.inl ⟨rfl, fun w _ => rfl⟩) hS2 ?_
    simp only [Act.put, List.getElem_toArray, List.getElem_cons_zero, List.getElem_cons_succ, List.setIfInBounds_toArray, List.set_cons_zero, List.set_cons_succ]
    refine wpAnyH_take (i := 6) (v := .pointer (some ⟨p, 2, none⟩)) rfl (by kernel_rfl) (by kernel_rfl) (by kernel_rfl) (fun _ _ _ h => h) (.inl ⟨rfl, fun w _ => rfl⟩) hS2 ?_
    simp only [Act.put, List.getElem_toArray, List.getElem_cons_zero, List.getElem_cons_succ, List.setIfInBounds_toArray, List.set_cons_zero, List.set_cons_succ]
    refine wpAnyH_take (i := 7) (v := .int .i64 l.next) rfl (by kernel_rfl) (by kernel_rfl) (by kernel_rfl) (fun _ _ _ h => h) (yieldsIf_load_one rfl 3 _ rfl p 2 rfl _ (fun u h => h.2) Try.underlying3) hS2 ?_
    simp only [Act.put, List.getElem_toArray, List.getElem_cons_zero, List.getElem_cons_succ, List.setIfInBounds_toArray, List.set_cons_zero, List.set_cons_succ]
    refine wpAnyH_take (i := 8) (v := .slice a len cap) rfl (by kernel_rfl) (by kernel_rfl) (by kernel_rfl) (fun _ _ _ h => h) (.inl ⟨rfl, fun w _ => rfl⟩) hS2 ?_
    simp only [Act.put, List.getElem_toArray, List.getElem_cons_zero, List.getElem_cons_succ, List.setIfInBounds_toArray, List.set_cons_zero, List.set_cons_succ]
    change wpAnyH _ _ _ _ _ 3 _ _ w2.drew
    refine wpAnyH_all (rs := [9]) (by kernel_rfl) (by simp) ?_
    intro i hi
    obtain rfl := List.mem_singleton.1 hi
    clear hi
    refine Reg.wpOp_list rfl ?_
    go_wp2_with fail
    refine (frame_any a len cap zs w2.drew (R2.out.below (Below.refl _ _).drew) HNIL.out hcap hl).mono ?_
    rintro e w3 ⟨v3, rfl, hm3, hb3⟩
    obtain ⟨n3, a3, c3, rfl, hc3, hl3, hr3⟩ := hm3.rows
    have hb3' : Below w2.heap.size w2 w3 := ((Below.refl _ _).drew : Below w2.heap.size w2 w2.drew).trans hb3
    have hn3 : 64 * N = n3 := by rw [← hl3, record_lenN (by rw [R2.out.count]; exact hl), R2.out.count, HNN.out]
    subst hn3
    have D3 := D2.out.below hb3'
    have hap3 : 0 < N → ∀ x, a3 = some x → ¬ d.Has x.block := fun h0 x hx => by
      subst hx
      obtain ⟨_, _, hx', _⟩ := hr3.cells (by omega)
      obtain ⟨cur, hcur⟩ := mine_bytes hm3
      exact At_notBytes D3 hcur
    have hws := writeSure_any d s l.next N a3 c3 (record zs) w3 D3 hr3 hap3 hc3 (by omega) (by omega)
    obtain ⟨q1, hq1⟩ : ∃ q1, wsure s l.next (record zs) N = q1 := ⟨_, rfl⟩
    rw [hq1] at hws
    unfold Dk.ptr at hws
    have L3 := Lib.hid (L2.out.below hb3')
    have M3 := Lib.hid ((Blk.Chg.ofBelow' (S := fun _ => False) hb3').is M2.out (by simp))
    have R3 := Lib.hid (R2.out.below hb3')
    have B3 := Lib.hid (B2.out.trans (hb3'.mono B2.out.size))
    have D3' := Lib.hid D3
    have hS3 := And.intro L3.out.flds.c0 L3.out.flds.c2
    have HWS := Lib.hid hws
    have HQ1 := Lib.hid hq1
    clear hm3 hb3 hl3 hr3 hb3' D3 hap3 hws hq1 D2 L2 R2 M2 B2 hS2
    go_wp2_with fail
    change _ ∧ _
    refine ⟨hS3, ?_⟩
    refine wpAnyH_all (rs := [10]) (by kernel_rfl) (by simp) ?_
    intro i hi
    obtain rfl := List.mem_singleton.1 hi
    clear hi
    refine Reg.wpOp_list rfl ?_
    go_wp2_with fail
    refine HWS.out.mono ?_
    rintro e w4 ⟨rfl, hd4, hc4⟩
    have hnp : ¬ d.Has p := L3.out.ne D3'.out
    have hnq : ¬ d.Has q := by
      obtain ⟨c1, h1, _⟩ := D3'.out.now.lies
      obtain ⟨c2, h2, _⟩ := D3'.out.sure.lies
      rintro (h | h | h)
      · rw [h] at M3; exact M3.out.ne D3'.out.obj (by decide) rfl
      · rw [h] at M3; exact M3.out.ne h1 (by decide) rfl
      · rw [h] at M3; exact M3.out.ne h2 (by decide) rfl
    have L4 := Lib.hid (L3.out.chg hc4 hnp)
    have M4 := Lib.hid (hc4.is M3.out hnq)
    have R4 := Lib.hid (R3.out.keep hc4 (fun h0 b off e h => HAP.out h0 b off e (.inr h)))
    have C4 := Lib.hid ((Blk.Chg.ofBelow' (S := d.Has) B3.out).trans hc4)
    have D4 := Lib.hid hd4
    have hS4 := And.intro L4.out.flds.c0 L4.out.flds.c2
    have HNP := Lib.hid hnp
    have HNQ := Lib.hid hnq
    clear hd4 hc4 hnp hnq L3 M3 R3 B3 D3' HWS hS3
    obtain ⟨er, her⟩ : ∃ er, q1.2 = er := ⟨_, rfl⟩
    rw [her]
    have HER := Lib.hid her
    clear her
    go_wp2_with fail
    change _ ∧ _
    refine ⟨hS4, ?_⟩
    refine wpAnyH_all (rs := [11]) (by kernel_rfl) (by simp) ?_
    intro i hi
    obtain rfl := List.mem_singleton.1 hi
    clear hi
    refine Reg.wpOp_list rfl ?_
    go_wp2_with fail
    change _ ∧ _
    refine ⟨hS4, ?_⟩
    refine wpAnyH_done (by kernel_rfl) ?_ _
    clear hS4
    by_cases he0 : er = 0
    · subst he0
      go_wp2_with fail
      refine wp_region_held (S := fun u => u.cell? ⟨p, 0, none⟩ = some (.pointer (some ⟨d.p, 0, none⟩)) ∧ u.cell? ⟨p, 1, none⟩ = some (.int .i64 l.base)) (by kernel_rfl) ?_
      change wpAnyH _ _ _ _ _ 11 _ _ w4.drew
      have hS5 : w4.drew.cell? ⟨p, 0, none⟩ = some (.pointer (some ⟨d.p, 0, none⟩)) ∧ w4.drew.cell? ⟨p, 1, none⟩ = some (.int .i64 l.base) := And.intro L4.out.flds.c0 L4.out.flds.c1
      refine wpAnyH_take (i := 0) (v := .pointer (some ⟨p, 0, none⟩)) rfl (by kernel_rfl) (by kernel_rfl) (by kernel_rfl) (fun _ _ _ h => h) (.inl ⟨rfl, fun w _ => rfl⟩) hS5 ?_
      simp only [Act.put, List.getElem_toArray, List.getElem_cons_zero, List.getElem_cons_succ, List.setIfInBounds_toArray, List.set_cons_zero, List.set_cons_succ]
      refine wpAnyH_take (i := 1) (v := .pointer (some ⟨p, 0, none⟩)) rfl (by kernel_rfl) (by kernel_rfl) (by kernel_rfl) (fun _ _ _ h => h) (.inl ⟨rfl, fun w _ => rfl⟩) hS5 ?_
      simp only [Act.put, List.getElem_toArray, List.getElem_cons_zero, List.getElem_cons_succ, List.setIfInBounds_toArray, List.set_cons_zero, List.set_cons_succ]
      refine wpAnyH_take (i := 2) (v := .pointer (some ⟨p, 0, none⟩)) rfl (by kernel_rfl) (by kernel_rfl) (by kernel_rfl) (fun _ _ _ h => h) (.inl ⟨rfl, fun w _ => rfl⟩) hS5 ?_
      simp only [Act.put, List.getElem_toArray, List.getElem_cons_zero, List.getElem_cons_succ, List.setIfInBounds_toArray, List.set_cons_zero, List.set_cons_succ]
      refine wpAnyH_take (i := 3) (v := .pointer (some ⟨d.p, 0, none⟩)) rfl (by kernel_rfl) (by kernel_rfl) (by kernel_rfl) (fun _ _ _ h => h) (yieldsIf_load_ptr rfl 31 _ rfl p 0 rfl _ (fun u h => h.1) Try.underlying31) hS5 ?_
      simp only [Act.put, List.getElem_toArray, List.getElem_cons_zero, List.getElem_cons_succ, List.setIfInBounds_toArray, List.set_cons_zero, List.set_cons_succ]
      refine wpAnyH_take (i := 4) (v := .pointer (some ⟨p, 0, none⟩)) rfl (by kernel_rfl) (by kernel_rfl) (by kernel_rfl) (fun _ _ _ h => h) (.inl ⟨rfl, fun w _ => rfl⟩) hS5 ?_
      simp only [Act.put, List.getElem_toArray, List.getElem_cons_zero, List.getElem_cons_succ, List.setIfInBounds_toArray, List.set_cons_zero, List.set_cons_succ]
      refine wpAnyH_take (i := 5) (v := .pointer (some ⟨p, 0, none⟩)) rfl (by kernel_rfl) (by kernel_rfl) (by kernel_rfl) (fun _ _ _ h => h) (.inl ⟨rfl, fun w _ => rfl⟩) hS5 ?_
      simp only [Act.put, List.getElem_toArray, List.getElem_cons_zero, List.getElem_cons_succ, List.setIfInBounds_toArray, List.set_cons_zero, List.set_cons_succ]
      refine wpAnyH_take (i := 6) (v := .pointer (some ⟨p, 1, none⟩)) rfl (by kernel_rfl) (by kernel_rfl) (by kernel_rfl) (fun _ _ _ h => h) (.inl ⟨rfl, fun w _ => rfl⟩) hS5 ?_
      simp only [Act.put, List.getElem_toArray, List.getElem_cons_zero, List.getElem_cons_succ, List.setIfInBounds_toArray, List.set_cons_zero, List.set_cons_succ]
      refine wpAnyH_take (i := 7) (v := .int .i64 l.base) rfl (by kernel_rfl) (by kernel_rfl) (by kernel_rfl) (fun _ _ _ h => h) (yieldsIf_load_one rfl 3 _ rfl p 1 rfl _ (fun u h => h.2) Try.underlying3) hS5 ?_
      simp only [Act.put, List.getElem_toArray, List.getElem_cons_zero, List.getElem_cons_succ, List.setIfInBounds_toArray, List.set_cons_zero, List.set_cons_succ]
      refine wpAnyH_take (i := 8) (v := .slice (some ⟨q, 0, none⟩) 64 64) rfl (by kernel_rfl) (by kernel_rfl) (by kernel_rfl) (fun _ _ _ h => h) (yieldsIf_slice_marks rfl _ rfl q rfl) hS5 ?_
      simp only [Act.put, List.getElem_toArray, List.getElem_cons_zero, List.getElem_cons_succ, List.setIfInBounds_toArray, List.set_cons_zero, List.set_cons_succ]
      change wpAnyH _ _ _ _ _ 2 _ _ w4.drew
      have hrm : Row w4 (some ⟨q, 0, none⟩) (64 * 1) (setMark l.marks l.count) := by
        have hs := setMark_sec L4.out.ok.sec l.count
        refine Row.ofIs M4.out 0 _ _ hs.len (by omega) hs.byt fun j hj => ?_
        have := bcells_at (setMark l.marks l.count) j (by rw [hs.len]; exact hj)
        rw [HCN.out, Nat.zero_add]; simpa using this
      have hcal4 : q1.1.calls ≤ s.calls + N + 1 := by rw [← HQ1.out]; exact wsure_calls _ _ _ _
      have hws := writeSure_any d q1.1 l.base 1 (some ⟨q, 0, none⟩) 64 (setMark l.marks l.count) w4.drew (D4.out.below (Below.refl _ _).drew) (hrm.below (Below.refl _ _).drew) (fun _ x e => by cases e; exact HNQ.out) (Nat.le_refl _) (by omega) (by omega)
      rw [Nat.mul_one] at hws
      obtain ⟨q2, hq2⟩ : ∃ q2, wsure q1.1 l.base (setMark l.marks l.count) 1 = q2 := ⟨_, rfl⟩
      rw [hq2] at hws
      unfold Dk.ptr at hws
      have HWS := Lib.hid hws
      have HQ2 := Lib.hid hq2
      clear hrm hws hq2 hS5
      refine wpAnyH_all (rs := [9]) (by kernel_rfl) (by simp) ?_
      intro i hi
      obtain rfl := List.mem_singleton.1 hi
      clear hi
      refine Reg.wpOp_list rfl ?_
      go_wp2_with fail
      refine HWS.out.mono ?_
      rintro e w5 ⟨rfl, hd5, hc5⟩
      have hc5 : Blk.Chg d.Has w4 w5 := Blk.Chg.trans (Blk.Chg.drew (Blk.Chg.refl _ w4)) hc5
      have L5 := Lib.hid (L4.out.chg hc5 HNP.out)
      have M5 := Lib.hid (hc5.is M4.out HNQ.out)
      have C5 := Lib.hid (C4.out.trans hc5)
      have D5 := Lib.hid hd5
      have hS5 := And.intro L5.out.flds.c0 L5.out.flds.c1
      clear hd5 hc5 L4 M4 R4 C4 D4 HWS
      obtain ⟨e2, he2⟩ : ∃ e2, q2.2 = e2 := ⟨_, rfl⟩
      rw [he2]
      have HE2 := Lib.hid he2
      clear he2
      go_wp2_with fail
      change _ ∧ _
      refine ⟨hS5, ?_⟩
      refine wpAnyH_all (rs := [10]) (by kernel_rfl) (by simp) ?_
      intro i hi
      obtain rfl := List.mem_singleton.1 hi
      clear hi
      refine Reg.wpOp_list rfl ?_
      go_wp2_with fail
      change _ ∧ _
      refine ⟨hS5, ?_⟩
      refine wpAnyH_done (by kernel_rfl) ?_ _
      clear hS5
      by_cases h20 : e2 = 0
      · subst h20
        have hcb : cn = (bcells (setMark l.marks l.count)).toArray := HCN.out
        have hcl : cn.size = 64 := by rw [hcb]; simp [setMark_len, L5.out.ok.sec.len]
        have g0 : (Try.prog.info? 69).map (·.size) = some cn.size := by rw [sizeMarks, hcl]
        have g1 : cn.all (·.oneCell') = true := by rw [hcb]; exact all_oneCell_toArray (bcells_one _)
        have g2 : w5.there p 5 cn.size := by
          rw [hcl]
          exact fun j hj => ⟨by rw [L5.out.flds.m j _ (List.getElem?_eq_getElem (by rw [bcells_length, L5.out.ok.sec.len]; exact hj))]; rfl, L5.out.flds.f _⟩
        have hm5 := L5.out.marks (setMark l.marks l.count) (setMark_sec L5.out.ok.sec l.count) (w' := w5.setCells p 5 cn.toList) (by rw [hcb])
        have hch : Blk.Chg (fun k => k = p) w5 (w5.setCells p 5 cn.toList) := by
          rw [Blk.setCells_row cn.toList _ 5 L5.out.obj (by rw [lcells_size L5.out.ok.sec, Array.length_toList, hcl]; omega)]
          exact Blk.Chg.setRow (S := fun k => k = p) (Blk.Chg.refl _ _) rfl _
        have hdk := D5.out.chg hch (fun k hk e => HNP.out (e ▸ hk))
        have hc6 : Blk.Chg (fun k => k = p ∨ d.Has k) w (w5.setCells p 5 cn.toList) := (C5.out.mono fun k _ hk => .inr hk).trans (hch.mono fun k _ hk => .inl hk)
        have M5' := M5.out
        have hstp := step_any p d.p { l with marks := setMark l.marks l.count } a len cap _ hm5 (by omega) hc (by show l.next + needN len ≤ l.to; rw [HNN.out]; exact hf)
        have e1 : appendS s l zs = (q2.1, ({ l with marks := setMark l.marks l.count } : LSt).stepped len, 0) := by
          unfold appendS
          rw [R0.out.count, HNN.out, HQ1.out, HER.out, if_pos rfl, HQ2.out, if_pos HE2.out]
        have MM := Lib.hid M5'
        have G0 := Lib.hid g0
        have G1 := Lib.hid g1
        have G2 := Lib.hid g2
        have HST := Lib.hid hstp
        have HDK := Lib.hid hdk
        have HC6 := Lib.hid hc6
        have E1 := Lib.hid e1
        clear hcb hcl g0 g1 g2 hm5 hch hdk hc6 M5' hstp e1 L5 M5 C5 D5
        go_wp2_with (first
          | (refine wpList_load_row rfl 69 _ rfl q rfl 69 cn (0, 0) _ MM.out Try.underlying69 rfl G0.out ?_)
          | (refine wpList_store_mid rfl 69 (.tmp 74) (.tmp 72) rfl p 5 cn rfl rfl G2.out G0.out G1.out ?_))
        refine HST.out.mono ?_
        rintro e w7 ⟨rfl, hl7, hc7⟩
        have hfin : Appended w p d s l zs (.returned (.int .i64 0)) w7 := by
          refine ⟨by rw [E1.out], ?_, ?_, ?_⟩
          · rw [E1.out]; exact HDK.out.chg hc7 (fun k hk e => HNP.out (e ▸ hk))
          · rw [E1.out]; exact hl7
          · exact HC6.out.trans (hc7.mono fun k _ hk => .inl hk)
        have HFIN := Lib.hid hfin
        clear hfin hl7 hc7 HST HDK HC6 E1 MM G0 G1 G2
        go_wp2
        go_ret
        exact HFIN.out
      · have hne2 : (e2 != 0) = true := by simpa using h20
        have f6 := L5.out.flds.f 69
        have hth : ∃ v, w5.cell? ⟨p, 69, none⟩ = some v := ⟨_, L5.out.flds.c6⟩
        have hfin : Appended w p d s l zs (.returned (.int .i64 e2)) (w5.setCell ⟨p, 69, none⟩ (.bool true)) := by
          have e1 : appendS s l zs = (q2.1, { l with failed := true }, q2.2) := by
            unfold appendS
            rw [R0.out.count, HNN.out, HQ1.out, HER.out, if_pos rfl, HQ2.out, if_neg (by rw [HE2.out]; exact h20)]
          refine ⟨by rw [e1, HE2.out], ?_, ?_, ?_⟩
          · rw [e1]; exact D5.out.chg (S := fun k => k = p) ((Blk.Chg.refl _ _).setAt rfl) (fun k hk e => HNP.out (e ▸ hk))
          · rw [e1]; exact L5.out.fail rfl
          · exact Blk.Chg.setAt (C5.out.mono fun k _ hk => .inr hk) (.inl rfl)
        have HFIN := Lib.hid hfin
        obtain ⟨v6, c6⟩ := hth
        clear hfin h20 L5 M5 C5 D5
        go_wp2
        go_ret
        exact HFIN.out
    · have hne : (er == 0) = false := by simpa using he0
      have hne2 : (er != 0) = true := by simpa using he0
      have f6 := L4.out.flds.f 69
      have hth : ∃ v, w4.cell? ⟨p, 69, none⟩ = some v := ⟨_, L4.out.flds.c6⟩
      have hfin : Appended w p d s l zs (.returned (.int .i64 er)) (w4.setCell ⟨p, 69, none⟩ (.bool true)) := by
        have e1 : appendS s l zs = (q1.1, { l with failed := true }, q1.2) := by
          unfold appendS
          rw [R0.out.count, HNN.out, HQ1.out, if_neg (by rw [HER.out]; exact he0)]
        refine ⟨by rw [e1, HER.out], ?_, ?_, ?_⟩
        · rw [e1]; exact D4.out.chg (S := fun k => k = p) ((Blk.Chg.refl _ _).setAt rfl) (fun k hk e => HNP.out (e ▸ hk))
        · rw [e1]; exact L4.out.fail rfl
        · exact Blk.Chg.setAt (C4.out.mono fun k _ hk => .inr hk) (.inl rfl)
      have HFIN := Lib.hid hfin
      obtain ⟨v6, c6⟩ := hth
      clear hfin he0 L4 M4 R4 C4 D4
      go_wp2
      go_ret
      exact HFIN.out

end Wal
end Go.Proofs.Ytjeidfknnophnaa

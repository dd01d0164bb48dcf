/-
A log in memory; the contracts of Len, Free, step.
-/
import Derived.Test.YtjeidfknnophnaaWalSmall
import Derived.Test.YtjeidfknnophnaaWalMarks
import Derived.Test.YtjeidfknnophnaaRowsRef
import Derived.Test.YtjeidfknnophnaaReg
namespace Go.Proofs.Ytjeidfknnophnaa
open Go.RowKit
set_option linter.unusedVariables false
namespace Wal
open Disk (Dk St Sec Secs)

/-- A log. -/
structure LSt where
  base : Nat
  next : Nat
  to : Nat
  count : Nat
  marks : List Int
  failed : Bool
def lcells (dp : Nat) (s : LSt) : Array Value :=
  (.pointer (some ⟨dp, 0, none⟩) :: .int .i64 s.base :: .int .i64 s.next :: .int .i64 s.to :: .int .i64 s.count :: (bcells s.marks ++ [.bool s.failed])).toArray
/-- What holds of a log. -/
structure LOk (s : LSt) : Prop where
  sec : Sec s.marks
  o1 : s.next ≤ s.to
  o2 : s.to ≤ 4096
  o3 : s.base < s.next
  o4 : s.count ≤ 512
structure LAt (w : World) (p dp : Nat) (s : LSt) : Prop where
  obj : Blk.Is w p 71 (lcells dp s)
  ok : LOk s
theorem LAt.chg {w w' p dp s} {S : Nat → Prop} (h : LAt w p dp s) (hb : Blk.Chg S w w') (hn : ¬ S p) : LAt w' p dp s := ⟨hb.is h.obj hn, h.ok⟩
theorem LAt.below {w w' p dp s} (h : LAt w p dp s) (hb : Below w.heap.size w w') : LAt w' p dp s := h.chg (S := fun _ => False) (Blk.Chg.ofBelow' hb) (by simp)
theorem LAt.drew {w p dp s} (h : LAt w p dp s) : LAt w.drew p dp s := h.below (Below.refl _ _).drew
structure LFlds (w : World) (p dp : Nat) (s : LSt) : Prop where
  c0 : w.cell? ⟨p, 0, none⟩ = some (.pointer (some ⟨dp, 0, none⟩))
  c1 : w.cell? ⟨p, 1, none⟩ = some (.int .i64 s.base)
  c2 : w.cell? ⟨p, 2, none⟩ = some (.int .i64 s.next)
  c3 : w.cell? ⟨p, 3, none⟩ = some (.int .i64 s.to)
  c4 : w.cell? ⟨p, 4, none⟩ = some (.int .i64 s.count)
  c6 : w.cell? ⟨p, 69, none⟩ = some (.bool s.failed)
  m : w.rangeAt p 5 (bcells s.marks)
  f : ∀ j, w.frozen? ⟨p, j, none⟩ = false
theorem lcells_mark {dp : Nat} {s : LSt} (h : Sec s.marks) (j : Nat) (hj : j < 64) : (lcells dp s)[5 + j]? = (bcells s.marks)[j]? := by
  have hl := h.len
  simp only [lcells, List.getElem?_toArray]
  rw [show 5 + j = j + 5 by omega]
  simp only [List.getElem?_cons_succ]
  rw [List.getElem?_append_left (by simp; omega)]
theorem lcells_failed {dp : Nat} {s : LSt} (h : Sec s.marks) : (lcells dp s)[69]? = some (.bool s.failed) := by
  have hl := h.len
  simp only [lcells, List.getElem?_toArray]
  rw [show 69 = 64 + 5 by omega]
  simp only [List.getElem?_cons_succ]
  rw [List.getElem?_append_right (by simp; omega), bcells_length, hl]
  rfl
theorem lcells_size {dp : Nat} {s : LSt} (h : Sec s.marks) : (lcells dp s).size = 70 := by
  have hl := h.len
  simp [lcells, hl]
theorem LAt.flds {w p dp s} (h : LAt w p dp s) : LFlds w p dp s := by
  have hl := h.ok.sec.len
  refine ⟨h.obj.at ?_, h.obj.at ?_, h.obj.at ?_, h.obj.at ?_, h.obj.at ?_, h.obj.at (lcells_failed h.ok.sec), fun j v hv => ?_, h.obj.free⟩
  iterate 5 simp [lcells]
  have hj : j < 64 := by have := (List.getElem?_eq_some_iff.1 hv).1; simp at this; omega
  exact h.obj.at ((lcells_mark h.ok.sec j hj).trans hv)
theorem LAt.ne {w p dp s d t} (h : LAt w p dp s) (k : Disk.At w d t) : ¬ d.Has p := by
  obtain ⟨c1, h1, _⟩ := k.now.lies
  obtain ⟨c2, h2, _⟩ := k.sure.lies
  rintro (rfl | rfl | rfl)
  · exact h.obj.ne k.obj (by decide) rfl
  · exact h.obj.ne h1 (by decide) rfl
  · exact h.obj.ne h2 (by decide) rfl
/-- A field is stored. -/
theorem LAt.count {w w' p dp s} (h : LAt w p dp s) (n : Nat) (hn : n ≤ 512) (hw : w' = w.setCell ⟨p, 4, none⟩ (.int .i64 n)) : LAt w' p dp { s with count := n } := by
  refine ⟨?_, ⟨h.ok.sec, h.ok.o1, h.ok.o2, h.ok.o3, hn⟩⟩
  rw [hw]
  have := h.obj.set 4 (.int .i64 n)
  simpa [lcells] using this
theorem LAt.next {w w' p dp s} (h : LAt w p dp s) (n : Nat) (h1 : n ≤ s.to) (h2 : s.base < n) (hw : w' = w.setCell ⟨p, 2, none⟩ (.int .i64 n)) : LAt w' p dp { s with next := n } := by
  refine ⟨?_, ⟨h.ok.sec, h1, h.ok.o2, h2, h.ok.o4⟩⟩
  rw [hw]
  have := h.obj.set 2 (.int .i64 n)
  simpa [lcells] using this
theorem LAt.fail {w w' p dp s} (h : LAt w p dp s) (hw : w' = w.setCell ⟨p, 69, none⟩ (.bool true)) : LAt w' p dp { s with failed := true } := by
  refine ⟨?_, ⟨h.ok.sec, h.ok.o1, h.ok.o2, h.ok.o3, h.ok.o4⟩⟩
  rw [hw]
  have hl := h.ok.sec.len
  have := h.obj.set 69 (.bool true)
  have e : (lcells dp s).setIfInBounds 69 (.bool true) = lcells dp { s with failed := true } := by
    apply Array.ext'
    simp only [lcells, Array.toList_setIfInBounds, List.toList_toArray]
    rw [show 69 = 64 + 5 by omega]
    simp only [List.set_cons_succ]
    rw [List.set_append_right _ _ (by simp; omega), bcells_length, hl]
    rfl
  rwa [e] at this
theorem lcells_over {dp : Nat} {s : LSt} (h : Sec s.marks) (m : List Int) (hm : Sec m) : (Blk.over (lcells dp s).toList 5 (bcells m)).toArray = lcells dp { s with marks := m } := by
  have hl := h.len
  have hml := hm.len
  apply Array.ext'
  simp only [Blk.over, bcells_length, hml, lcells, List.toList_toArray, List.take_succ_cons, List.take_zero, List.cons_append, List.nil_append, List.cons.injEq, true_and]
  rw [show 5 + 64 = 64 + 5 by omega]
  simp only [List.drop_succ_cons]
  rw [List.drop_append, bcells_length, hl, List.drop_eq_nil_of_le (by simp; omega)]
  rfl
theorem LAt.marks {w w' p dp s} (h : LAt w p dp s) (m : List Int) (hm : Sec m) (hw : w' = w.setCells p 5 (bcells m)) : LAt w' p dp { s with marks := m } := by
  refine ⟨?_, ⟨hm, h.ok.o1, h.ok.o2, h.ok.o3, h.ok.o4⟩⟩
  have hl := h.ok.sec.len
  have hml := hm.len
  have := h.obj.cells 5 (bcells m) (by rw [lcells_size h.ok.sec, bcells_length, hml]; omega)
  have e : ((lcells dp s).toList.take 5 ++ bcells m ++ (lcells dp s).toList.drop (5 + (bcells m).length)).toArray = lcells dp { s with marks := m } := by
    apply Array.ext'
    rw [bcells_length, hml]
    simp only [lcells, List.toList_toArray, List.take_succ_cons, List.take_zero, List.cons_append, List.nil_append, List.cons.injEq, true_and]
    rw [show 5 + 64 = 64 + 5 by omega]
    simp only [List.drop_succ_cons]
    rw [List.drop_append, bcells_length, hl, List.drop_eq_nil_of_le (by simp; omega)]
    rfl
  rw [hw]
  rwa [e] at this

/-- Where a log and its disk lie. -/
structure Lk where
  p : Nat
  d : Dk
def Lk.ptr (g : Lk) : Value := .pointer (some ⟨g.p, 0, none⟩)
def Lk.Has (g : Lk) (k : Nat) : Prop := k = g.p ∨ g.d.Has k

theorem logLen_any (p dp : Nat) (s : LSt) (w : World) (h : LAt w p dp s) :
    Calls Try.prog 24 #[.pointer (some ⟨p, 0, none⟩)] w fun e w' => e = .returned (.int .i64 s.count) ∧ w = w' := by
  obtain ⟨c0, c1, c2, c3, c4, c6, m, f⟩ := h.flds
  clear m f c0 c1 c2 c3 c6 h
  go_enter Try.func24, Try.ntmps24
  go_wp2
  go_ret
  exact ⟨rfl, rfl⟩
theorem nilLogLen_any (w : World) : Calls Try.prog 24 #[.pointer none] w fun e w' => e = .returned (.int .i64 0) ∧ w = w' := by
  go_enter Try.func24, Try.ntmps24
  go_wp2
  go_ret
  exact ⟨rfl, rfl⟩
theorem nilFree_any (w : World) : Calls Try.prog 25 #[.pointer none] w fun e w' => e = .returned (.int .i64 0) ∧ w = w' := by
  go_enter Try.func25, Try.ntmps25
  go_wp2
  go_ret
  exact ⟨rfl, rfl⟩
theorem nilAppend_any (v : Value) (w : World) : Calls Try.prog 29 #[.pointer none, v] w fun e w' => e = .returned (.int .i64 1) ∧ w = w' := by
  go_enter Try.func29, Try.ntmps29
  go_wp2
  go_ret
  exact ⟨rfl, rfl⟩
/-- Free, which draws. -/
def Told (w : World) (v : Value) (e : Ending) (w' : World) : Prop := e = .returned v ∧ ∃ n, w' = w.drewN n
theorem Told.below {w v e w'} (h : Told w v e w') : e = .returned v ∧ Below w.heap.size w w' := by
  obtain ⟨h1, n, h2⟩ := h
  exact ⟨h1, by rw [h2]; exact drewN_below w n⟩
theorem free_any (p dp : Nat) (s : LSt) (w : World) (h : LAt w p dp s) :
    Calls Try.prog 25 #[.pointer (some ⟨p, 0, none⟩)] w fun e w' => Told w (.int .i64 ((s.to - s.next : Nat) : Int)) e w' := by
  obtain ⟨c0, c1, c2, c3, c4, c6, m, f⟩ := h.flds
  have h1 := h.ok.o1
  have h2 := h.ok.o2
  have e : IntKind.i64.wrap ((s.to : Int) - s.next) = ((s.to - s.next : Nat) : Int) := by rw [IntWalk.i64_in _ (by omega)]; omega
  clear m f c0 c1 c4 c6 h
  go_enter Try.func25, Try.ntmps25
  go_wp2_with fail
  go_quiet (fail)
  go_wp2
  go_ret
  exact ⟨rfl, nq, rfl⟩

theorem needQ (n : Nat) (w : World) (h : n ≤ 9223372036854775807) : Calls Try.prog 12 #[.int .i64 n] w fun e w' => e = .returned (.int .i64 (needN n)) ∧ w' = w :=
  (needN_any n w h).mono fun e w' hh => ⟨hh.1, hh.2.symm⟩
/-- The log behind one more record of n bytes. -/
def LSt.stepped (s : LSt) (n : Nat) : LSt := { s with count := s.count + 1, next := s.next + needN n }
theorem step_any (p dp : Nat) (s : LSt) (a : Option Addr) (len cap : Nat) (w : World) (h : LAt w p dp s) (hl : len ≤ 9223372036854775807) (hc : s.count < 512) (hn : s.next + needN len ≤ s.to) :
    Calls Try.prog 42 #[.pointer (some ⟨p, 0, none⟩), .slice a len cap] w fun e w' => e = .returned (.tuple #[]) ∧ LAt w' p dp (s.stepped len) ∧ Blk.Chg (fun k => k = p) w w' := by
  obtain ⟨c0, c1, c2, c3, c4, c6, m, f⟩ := h.flds
  have f4 := f 4
  have h2 := h.ok.o2
  have hq : ∀ n, Calls Try.prog 12 #[.int .i64 len] ((w.setCell ⟨p, 4, none⟩ (.int .i64 ((s.count : Int) + 1))).drewN n) fun e w' => e = .returned (.int .i64 (needN len)) ∧ w' = (w.setCell ⟨p, 4, none⟩ (.int .i64 ((s.count : Int) + 1))).drewN n := fun n => needQ len _ hl
  have h1 : LAt (w.setCell ⟨p, 4, none⟩ (.int .i64 ((s.count : Int) + 1))) p dp { s with count := s.count + 1 } := h.count (s.count + 1) (by omega) (by rw [show ((s.count : Int) + 1) = ((s.count + 1 : Nat) : Int) by omega])
  have hc1 : Blk.Chg (fun k => k = p) w (w.setCell ⟨p, 4, none⟩ (.int .i64 ((s.count : Int) + 1))) := (Blk.Chg.refl _ w).setAt rfl
  obtain ⟨c0', c1', d2, c3', c4', c6', m', f'⟩ := h1.flds
  have g2 := f' 2
  have hfin : ∀ n, LAt (((w.setCell ⟨p, 4, none⟩ (.int .i64 ((s.count : Int) + 1))).drewN n).setCell ⟨p, 2, none⟩ (.int .i64 ((s.next : Int) + needN len))) p dp (s.stepped len) := fun n => by
    have := h1.below (drewN_below _ n)
    exact this.next (s.next + needN len) hn (by have := h.ok.o3; show s.base < _; omega) (by rw [show ((s.next : Int) + needN len) = ((s.next + needN len : Nat) : Int) by omega])
  have hs : IntKind.i64.wrap ((s.next : Int) + needN len) = (s.next : Int) + needN len := by rw [IntWalk.i64_in _ (by have := needN_le len; omega)]
  have HQ := Lib.hid hq
  have HF := Lib.hid hfin
  have HC := Lib.hid hc1
  have HS := Lib.hid hs
  have HN := Lib.hid hn
  clear c0 c1 c2 c3 c6 m f h c0' c1' c3' c4' c6' m' f' h1 hq hfin hc1 hs hn
  obtain ⟨N, hN⟩ : ∃ N, needN len = N := ⟨_, rfl⟩
  rw [hN] at HQ HF HS HN
  clear hN
  go_enter Try.func42, Try.ntmps42
  go_wp2_with fail
  generalize w.setCell ⟨p, 4, none⟩ (.int .i64 ((s.count : Int) + 1)) = w1 at *
  have hs := HS.out
  refine Reg.wp_class_tail 10 (by kernel_rfl) (by kernel_rfl) (fun u => ∃ n, u = w1.drewN n) ⟨1, rfl⟩ ?_
  simp only [List.take_succ_cons, List.take_zero, List.drop_succ_cons, List.drop_zero]
  iterate 6 (go_big_quiet_step (fail))
  go_big_quiet_step ((exact Calls.quiet_of_same (HQ.out _)))
  iterate 3 (go_big_quiet_step (fail))
  refine wpQuiet_nil ?_
  intro wz hz
  obtain ⟨n, rfl⟩ := hz
  go_wp2
  refine bodyPost_end (results_none rfl _ _ _) rfl ⟨rfl, HF.out n, Blk.Chg.setAt (HC.out.trans (Blk.Chg.ofBelow' (drewN_below _ n))) rfl⟩
end Wal
end Go.Proofs.Ytjeidfknnophnaa

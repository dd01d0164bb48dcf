/-
A disk of the program in memory.
-/
import Derived.Test.YtjeidfknnophnaaRow
import Derived.Test.YtjeidfknnophnaaDiskSt
namespace Go.Proofs.Ytjeidfknnophnaa
open Go.RowKit
set_option linter.unusedVariables false
namespace Disk

theorem sizeSector : (Try.prog.info? 81).map (·.size) = some 64 := by kernel_rfl
theorem infoSector : (Try.prog.info? 81).map (fun i => (i.size, i.bytes)) = some (64, 64) := by kernel_rfl

/-- Sectors in a block: n of them, with room for cap. -/
structure Mem (w : World) (b n cap : Nat) (l : List (List Int)) : Prop where
  secs : Secs n l
  le : n ≤ cap
  few : n ≤ 4096
  max : cap ≤ maxLen
  lies : ∃ cur, Blk.Is w b 81 cur ∧ cur.size = cap * 64 ∧ cur.toList.take (n * 64) = bcells l.flatten

theorem Mem.lt {w b n cap l} (h : Mem w b n cap l) : b < w.heap.size := by
  obtain ⟨cur, h1, _⟩ := h.lies; exact h1.lt
theorem Mem.chg {w w' b n cap l} {S : Nat → Prop} (h : Mem w b n cap l) (hb : Blk.Chg S w w') (hn : ¬ S b) : Mem w' b n cap l := by
  obtain ⟨cur, h1, h2, h3⟩ := h.lies
  exact ⟨h.secs, h.le, h.few, h.max, cur, hb.is h1 hn, h2, h3⟩
theorem take_at {cur : Array Value} {m : Nat} {zs : List Int} (h : cur.toList.take m = bcells zs) (hz : zs.length = m) (j : Nat) (hj : j < m) : cur[j]? = some (.int .u8 (zs.getD j 0)) := by
  have := bcells_at zs j (by omega)
  rw [← h, List.getElem?_take, if_pos hj] at this
  simpa using this
theorem Mem.cell {w b n cap l} (h : Mem w b n cap l) (i j : Nat) (hi : i < n) (hj : j < 64) : w.cell? ⟨b, i * 64 + j, none⟩ = some (.int .u8 ((l.getD i []).getD j 0)) := by
  obtain ⟨cur, h1, h2, h3⟩ := h.lies
  have hf := h.secs.flat
  refine h1.at ((take_at h3 hf _ (by omega)).trans ?_)
  have := flat_at h.secs.lens i j (by rw [h.secs.count]; exact hi) hj
  rw [List.getD_eq_getElem?_getD, List.getD_eq_getElem?_getD, this]
theorem Mem.free {w b n cap l} (h : Mem w b n cap l) (j : Nat) : w.frozen? ⟨b, j, none⟩ = false := by
  obtain ⟨cur, h1, _⟩ := h.lies; exact h1.free j
theorem Mem.row {w b n cap l} (h : Mem w b n cap l) (i : Nat) (hi : i < n) : Row w (some ⟨b, i * 64, none⟩) 64 (l.getD i []) :=
  ⟨(h.secs.at hi).len, by omega, (h.secs.at hi).byt, fun _ => ⟨b, i * 64, rfl, h.lt, fun j hj => h.cell i j hi hj⟩⟩
theorem Mem.range {w b n cap l} (h : Mem w b n cap l) (i : Nat) (hi : i < n) : w.rangeAt b (i * 64) (bcells (l.getD i [])) := fun j v hv => by
  have hj := (List.getElem?_eq_some_iff.1 hv).1
  have hl := (h.secs.at hi).len
  simp only [bcells_length] at hj
  rw [h.cell i j hi (by omega), ← hv, bcells_at _ _ hj]
theorem Mem.there {w b n cap l} (h : Mem w b n cap l) (i : Nat) (hi : i < n) : w.there b (i * 64) 64 := by
  obtain ⟨cur, h1, h2, h3⟩ := h.lies
  exact h1.there _ _ (by have := h.le; omega)
/-- The row behind a sector's store. -/
theorem Mem.stored {w w' b n cap l} (h : Mem w b n cap l) (i : Nat) (hi : i < n) (r : List Int) (hr : Sec r) (cur : Array Value) (h1 : Blk.Is w b 81 cur) (hw : Blk.Is w' b 81 (Blk.over cur.toList (i * 64) (bcells r)).toArray) : Mem w' b n cap (l.set i r) := by
  obtain ⟨cur', g1, g2, g3⟩ := h.lies
  obtain rfl := (h1.inj g1).2
  have hle := h.le
  have hc := h.secs.count
  have hrl := hr.len
  refine ⟨h.secs.set i hr, h.le, h.few, h.max, _, hw, ?_, ?_⟩
  · simp only [Blk.over, List.size_toArray, List.length_append, List.length_take, List.length_drop, Array.length_toList, bcells_length]
    omega
  · simp only [Blk.over]
    rw [flat_set h.secs.lens i (by omega) r hrl]
    have hf := h.secs.flat
    have e1 : (cur.toList.take (i * 64)) = bcells (l.flatten.take (i * 64)) := by
      have := congrArg (List.take (i * 64)) g3
      rw [List.take_take, Nat.min_eq_left (by omega)] at this
      rw [this, bcells, bcells, List.map_take]
    have e2 : (cur.toList.drop (i * 64 + 64)).take (n * 64 - (i * 64 + 64)) = bcells (l.flatten.drop (i * 64 + 64)) := by
      have := congrArg (List.drop (i * 64 + 64)) g3
      rw [List.drop_take] at this
      rw [this, bcells, bcells, List.map_drop]
    rw [e1, bcells_length, hrl, List.take_append, List.take_of_length_le (by simp; omega), List.length_append, bcells_length, bcells_length, List.length_take, hf, hrl,
      show n * 64 - (min (i * 64) (n * 64) + 64) = n * 64 - (i * 64 + 64) by omega, e2]
    simp [bcells]
/-- The row behind a copy of all. -/
theorem Mem.copied {w w' b n cap l} (h : Mem w b n cap l) (m : List (List Int)) (hm : Secs n m) (cur : Array Value) (h1 : Blk.Is w b 81 cur) (hw : Blk.Is w' b 81 (Blk.over cur.toList 0 (bcells m.flatten)).toArray) : Mem w' b n cap m := by
  obtain ⟨cur', g1, g2, g3⟩ := h.lies
  obtain rfl := (h1.inj g1).2
  have hle := h.le
  have hf := hm.flat
  refine ⟨hm, h.le, h.few, h.max, _, hw, ?_, ?_⟩
  · simp only [Blk.over, List.size_toArray, List.length_append, List.length_take, List.length_drop, Array.length_toList, bcells_length]
    omega
  · simp only [Blk.over, List.take_zero, List.nil_append, bcells_length, hf]
    rw [List.take_append, bcells_length, hf, Nat.sub_self, List.take_zero, List.append_nil, List.take_of_length_le (by rw [bcells_length, hf]; exact Nat.le_refl _)]

/-- Where a disk lies. -/
structure Dk where
  p : Nat
  br : Nat
  bs : Nat
  n : Nat
  cr : Nat
  cs : Nat
/-- The blocks of a disk. -/
def Dk.Has (d : Dk) (k : Nat) : Prop := k = d.p ∨ k = d.br ∨ k = d.bs
def Dk.ptr (d : Dk) : Value := .pointer (some ⟨d.p, 0, none⟩)
def Dk.cells (d : Dk) (s : St) : Array Value := #[.slice (some ⟨d.br, 0, none⟩) d.n d.cr, .slice (some ⟨d.bs, 0, none⟩) d.n d.cs, .int .i64 s.calls, .int .i64 s.fuse, .bool s.off]

structure At (w : World) (d : Dk) (s : St) : Prop where
  obj : Blk.Is w d.p 66 (d.cells s)
  now : Mem w d.br d.n d.cr s.now
  sure : Mem w d.bs d.n d.cs s.sure
  apart : d.br ≠ d.bs
  fuse0 : 0 ≤ s.fuse
  fuse1 : s.fuse ≤ 9223372036854775807
theorem At.ne {w d s} (h : At w d s) : d.p ≠ d.br ∧ d.p ≠ d.bs := by
  obtain ⟨c1, h1, _⟩ := h.now.lies
  obtain ⟨c2, h2, _⟩ := h.sure.lies
  exact ⟨h.obj.ne h1 (by decide), h.obj.ne h2 (by decide)⟩
theorem At.chg {w w' d s} {S : Nat → Prop} (h : At w d s) (hb : Blk.Chg S w w') (hn : ∀ k, d.Has k → ¬ S k) : At w' d s :=
  ⟨hb.is h.obj (hn _ (.inl rfl)), h.now.chg hb (hn _ (.inr (.inl rfl))), h.sure.chg hb (hn _ (.inr (.inr rfl))), h.apart, h.fuse0, h.fuse1⟩
theorem At.below {w w' d s} (h : At w d s) (hb : Below w.heap.size w w') : At w' d s := h.chg (S := fun _ => False) (Blk.Chg.ofBelow' hb) (by simp)
theorem At.drew {w d s} (h : At w d s) : At w.drew d s := h.chg (S := fun _ => False) (Blk.Chg.drew (Blk.Chg.refl _ w)) (by simp)

/-- The five fields, as the walk asks for them. -/
structure Flds (w : World) (d : Dk) (s : St) : Prop where
  c0 : w.cell? ⟨d.p, 0, none⟩ = some (.slice (some ⟨d.br, 0, none⟩) d.n d.cr)
  c1 : w.cell? ⟨d.p, 1, none⟩ = some (.slice (some ⟨d.bs, 0, none⟩) d.n d.cs)
  c2 : w.cell? ⟨d.p, 2, none⟩ = some (.int .i64 s.calls)
  c3 : w.cell? ⟨d.p, 3, none⟩ = some (.int .i64 s.fuse)
  c4 : w.cell? ⟨d.p, 4, none⟩ = some (.bool s.off)
  f : ∀ j, w.frozen? ⟨d.p, j, none⟩ = false
theorem At.flds {w d s} (h : At w d s) : Flds w d s := ⟨h.obj.at rfl, h.obj.at rfl, h.obj.at rfl, h.obj.at rfl, h.obj.at rfl, h.obj.free⟩

theorem len_any (d : Dk) (s : St) (w : World) (h : At w d s) :
    Calls Try.prog 18 #[d.ptr] w fun e w' => e = .returned (.int .i64 d.n) ∧ w = w' := by
  obtain ⟨c0, c1, c2, c3, c4, f⟩ := h.flds
  clear f
  unfold Dk.ptr
  go_enter Try.func18, Try.ntmps18
  go_wp2
  go_ret
  exact ⟨rfl, rfl⟩
theorem calls_any (d : Dk) (s : St) (w : World) (h : At w d s) :
    Calls Try.prog 34 #[d.ptr] w fun e w' => e = .returned (.int .i64 s.calls) ∧ w = w' := by
  obtain ⟨c0, c1, c2, c3, c4, f⟩ := h.flds
  clear f
  unfold Dk.ptr
  go_enter Try.func34, Try.ntmps34
  go_wp2
  go_ret
  exact ⟨rfl, rfl⟩
end Disk
end Go.Proofs.Ytjeidfknnophnaa

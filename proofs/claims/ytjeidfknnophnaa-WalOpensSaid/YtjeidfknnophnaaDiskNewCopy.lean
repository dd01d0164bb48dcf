/-
The contracts of the program's New and Copy, and of its calls on a disk that there isn't.
-/
import Derived.Test.YtjeidfknnophnaaDiskCrash
import Derived.Laws.MakeOwn
import Derived.Deep.RegionHeld3
namespace Go.Proofs.Ytjeidfknnophnaa
open Go.RowKit
set_option linter.unusedVariables false
namespace Disk

def sizeOf (n : Int) : Nat := (min (max n 0) 4096).toNat
theorem flat_zero (m : Nat) : (List.replicate m zero).flatten = List.replicate (m * 64) 0 := by
  induction m with
  | zero => simp
  | succ m ih => rw [List.replicate_succ, List.flatten_cons, ih, zero, List.replicate_append_replicate]; congr 1; omega
def zeros (m : Nat) : Array Value := (bcells (List.replicate m zero).flatten).toArray
theorem run_make_sectors (m : Nat) (hm : m ≤ 4096) (w : World) :
    (Instr.makeSlice 64 (.int .i64 m) (.int .i64 m)).run Try.prog w = .ok (.slice (some ⟨w.heap.size, 0, none⟩) m m) (w.alloc (.cells (zeros m) 81)) := by
  obtain ⟨i0, hi, hz0, hz1, hz2⟩ := info_parts infoSec
  have := run_make (P := Try.prog) w 64 81 i0 zsec Try.underlying64 hi hz0 .i64 .i64 m m (by omega) (by omega) (by rw [hz2]; omega) (by omega)
  rw [this, hz1]
  simp only [Int.toNat_natCast]
  congr 3
  unfold zeros
  rw [flat_zero, bcells, List.map_replicate]
  apply Array.ext
  · simp [size_madeCells]
  · intro i h1 h2
    have h3 : i % 64 < 64 := Nat.mod_lt _ (by omega)
    simp [madeCells, zsec, Value.cells, h3]
theorem secs_zero (m : Nat) : Secs m (List.replicate m zero) := ⟨by simp, fun r hr => by rw [List.eq_of_mem_replicate hr]; exact zero_sec⟩
theorem Mem.zeros {w : World} {b m : Nat} (hm : m ≤ 4096) (h : Blk.Is w b 81 (zeros m)) : Mem w b m m (List.replicate m zero) := by
  have hf := (secs_zero m).flat
  refine ⟨secs_zero m, Nat.le_refl _, hm, by unfold maxLen; omega, _, h, ?_, ?_⟩
  · unfold Disk.zeros; rw [List.size_toArray, bcells_length, hf]
  · unfold Disk.zeros; rw [List.toList_toArray, List.take_of_length_le (by rw [bcells_length, hf]; exact Nat.le_refl _)]
def Dk.From (d : Dk) (B : Nat) : Prop := B ≤ d.p ∧ B ≤ d.br ∧ B ≤ d.bs
theorem Dk.From.has {d : Dk} {B k : Nat} (h : d.From B) (hk : d.Has k) : B ≤ k := by
  rcases hk with rfl | rfl | rfl
  · exact h.1
  · exact h.2.1
  · exact h.2.2
/-- What New hands back. -/
def Made (w : World) (m : Nat) (e : Ending) (w' : World) : Prop := ∃ d : Dk, e = .returned d.ptr ∧ d.n = m ∧ d.From w.heap.size ∧ At w' d (fresh m) ∧ Below w.heap.size w w'
theorem new_any (n : Int) (w : World) :
    Calls Try.prog 26 #[.int .i64 n] w fun e w' => Made w (sizeOf n) e w' := by
  obtain ⟨m, hm, hle⟩ : ∃ m, sizeOf n = m ∧ m ≤ 4096 := ⟨_, rfl, by unfold sizeOf; omega⟩
  rw [hm]
  have hmk := run_make_sectors m hle
  have fin : ∀ b1 b2, (b1 = w.heap.size ∧ b2 = w.heap.size + 1 ∨ b1 = w.heap.size + 1 ∧ b2 = w.heap.size) →
      Made w m (.returned (.pointer (some ⟨w.heap.size + 1 + 1, 0, none⟩))) (((w.alloc (.cells (zeros m) 81)).alloc (.cells (zeros m) 81)).alloc (.cells #[.slice (some ⟨b1, 0, none⟩) m m, .slice (some ⟨b2, 0, none⟩) m m, .int .i64 0, .int .i64 0, .bool false] 66)).drew := by
    intro b1 b2 hb12
    obtain ⟨u, hu⟩ : ∃ u, u = (w.alloc (.cells (zeros m) 81)).alloc (.cells (zeros m) 81) := ⟨_, rfl⟩
    rw [← hu]
    have hb : Below w.heap.size w u := by rw [hu]; exact ((Below.refl _ _).alloc (Nat.le_refl _) _).alloc (by simp) _
    have hs : u.heap.size = w.heap.size + 1 + 1 := by rw [hu]; simp
    have h0 : Blk.Is u w.heap.size 81 (zeros m) := by rw [hu]; exact (Blk.Is.new w _ _).alloc _
    have h1 : Blk.Is u (w.heap.size + 1) 81 (zeros m) := by
      have := Blk.Is.new (w.alloc (.cells (zeros m) 81)) 81 (zeros m)
      rw [World.size_alloc] at this
      rw [hu]; exact this
    have hp := Blk.Is.new u 66 #[.slice (some ⟨b1, 0, none⟩) m m, .slice (some ⟨b2, 0, none⟩) m m, .int .i64 0, .int .i64 0, .bool false]
    rw [hs] at hp
    refine ⟨⟨w.heap.size + 1 + 1, b1, b2, m, m, m⟩, rfl, rfl, ⟨by show _ ≤ w.heap.size + 1 + 1; omega, by show _ ≤ b1; omega, by show _ ≤ b2; omega⟩, At.drew ⟨hp, ?_, ?_, by show b1 ≠ b2; omega, Int.le_refl _, by show (0:Int) ≤ _; decide⟩, (hb.alloc (by omega) _).drew⟩
    · rcases hb12 with ⟨rfl, rfl⟩ | ⟨rfl, rfl⟩
      · exact Mem.zeros hle (h0.alloc _)
      · exact Mem.zeros hle (h1.alloc _)
    · rcases hb12 with ⟨rfl, rfl⟩ | ⟨rfl, rfl⟩
      · exact Mem.zeros hle (h1.alloc _)
      · exact Mem.zeros hle (h0.alloc _)
  generalize zeros m = z at *
  have FIN := Lib.hid fin
  clear fin
  unfold sizeOf at hm
  rcases (show n < 0 ∨ 0 ≤ n ∧ n ≤ 4096 ∨ 4096 < n by omega) with h0 | ⟨h0, h1⟩ | h0
  · obtain rfl : m = 0 := by omega
    clear hm hle
    rw [show ((0 : Nat) : Int) = 0 from rfl] at hmk
    go_enter Try.func26, Try.ntmps26
    go_wp2
    go_region
    all_goals
      go_wp2
      go_ret
      exact FIN.out _ _ (by omega)
  · obtain rfl : n = (m : Int) := by omega
    clear hm h0
    go_enter Try.func26, Try.ntmps26
    go_wp2
    go_region
    all_goals
      go_wp2
      go_ret
      exact FIN.out _ _ (by omega)
  · obtain rfl : m = 4096 := by omega
    clear hm hle
    rw [show ((4096 : Nat) : Int) = 4096 from rfl] at hmk
    go_enter Try.func26, Try.ntmps26
    go_wp2
    go_region
    all_goals
      go_wp2
      go_ret
      exact FIN.out _ _ (by omega)

/-- What Copy hands back. -/
def Copied (w : World) (d : Dk) (s : St) (e : Ending) (w' : World) : Prop := ∃ c : Dk, e = .returned c.ptr ∧ c.n = d.n ∧ c.From w.heap.size ∧ At w' c s ∧ Below w.heap.size w w'
/-- The walk's own keeping, in Copy's last statement. -/
structure KeepC (w u : World) (s : St) : Prop where
  base : Below w.heap.size w u
  lt : w.heap.size < u.heap.size
  obj : ∃ x y, Blk.Is u w.heap.size 66 #[x, y, .int .i64 s.calls, .int .i64 s.fuse, .bool s.off]
def fstC (w u : World) : Value := (u.cell? ⟨w.heap.size, 0, none⟩).getD undef
def sndC (w u : World) : Value := (u.cell? ⟨w.heap.size, 1, none⟩).getD undef
theorem KeepC.fst {w u s} (h : KeepC w u s) : u.cell? ⟨w.heap.size, 0, none⟩ = some (fstC w u) := by
  obtain ⟨x, y, k⟩ := h.obj
  have := k.at (i := 0) (v := x) rfl
  rw [fstC, this]; rfl
theorem KeepC.snd {w u s} (h : KeepC w u s) : u.cell? ⟨w.heap.size, 1, none⟩ = some (sndC w u) := by
  obtain ⟨x, y, k⟩ := h.obj
  have := k.at (i := 1) (v := y) rfl
  rw [sndC, this]; rfl
theorem KeepC.free {w u s} (h : KeepC w u s) (j : Nat) : u.frozen? ⟨w.heap.size, j, none⟩ = false := by
  obtain ⟨x, y, k⟩ := h.obj
  exact k.free j
theorem KeepC.call {w u u' s} (h : KeepC w u s) (hb : Below u.heap.size u u') : KeepC w u' s := by
  obtain ⟨x, y, k⟩ := h.obj
  exact ⟨h.base.trans (hb.mono h.base.size), Nat.lt_of_lt_of_le h.lt hb.size, x, y, (Blk.Chg.ofBelow' (S := fun _ => False) hb).is k (by simp)⟩
theorem KeepC.set0 {w u s} (h : KeepC w u s) (v : Value) : KeepC w (u.setCell ⟨w.heap.size, 0, none⟩ v) s := by
  obtain ⟨x, y, k⟩ := h.obj
  exact ⟨h.base.setCell (Nat.le_refl _) _, by simpa [World.setCell] using h.lt, v, y, by simpa using k.set 0 v⟩
theorem KeepC.set1 {w u s} (h : KeepC w u s) (v : Value) : KeepC w (u.setCell ⟨w.heap.size, 1, none⟩ v) s := by
  obtain ⟨x, y, k⟩ := h.obj
  exact ⟨h.base.setCell (Nat.le_refl _) _, by simpa [World.setCell] using h.lt, x, v, by simpa using k.set 1 v⟩

/-! ### a disk that there isn't -/
theorem nilFuse_any (n : Int) (w : World) : Calls Try.prog 31 #[.pointer none, .int .i64 n] w fun e w' => e = .returned (.tuple #[]) ∧ w = w' := by
  go_enter Try.func31, Try.ntmps31
  go_wp2
  refine bodyPost_end (results_none rfl _ _ _) rfl ⟨rfl, rfl⟩
theorem nilCrash_any (v : Value) (w : World) : Calls Try.prog 32 #[.pointer none, v] w fun e w' => e = .returned (.tuple #[]) ∧ w = w' := by
  go_enter Try.func32, Try.ntmps32
  go_wp2
  refine bodyPost_ret (v := .tuple #[]) (results_none rfl _ _ _) rfl ⟨rfl, rfl⟩
theorem nilRead_any (i : Int) (w : World) : Calls Try.prog 33 #[.pointer none, .int .i64 i] w fun e w' => e = .returned (.tuple #[.slice none 0 0, .int .i64 1]) ∧ w = w' := by
  go_enter Try.func33, Try.ntmps33
  go_wp2
  go_ret2
  exact ⟨rfl, rfl⟩
theorem nilWrite_any (i : Int) (v : Value) (w : World) : Calls Try.prog 37 #[.pointer none, .int .i64 i, v] w fun e w' => e = .returned (.int .i64 1) ∧ w = w' := by
  go_enter Try.func37, Try.ntmps37
  go_wp2
  go_ret
  exact ⟨rfl, rfl⟩
theorem nilFlush_any (w : World) : Calls Try.prog 38 #[.pointer none] w fun e w' => e = .returned (.int .i64 1) ∧ w = w' := by
  go_enter Try.func38, Try.ntmps38
  go_wp2
  go_ret
  exact ⟨rfl, rfl⟩
theorem nilLen_any (w : World) : Calls Try.prog 18 #[.pointer none] w fun e w' => e = .returned (.int .i64 0) ∧ w = w' := by
  go_enter Try.func18, Try.ntmps18
  go_wp2
  go_ret
  exact ⟨rfl, rfl⟩
theorem nilCalls_any (w : World) : Calls Try.prog 34 #[.pointer none] w fun e w' => e = .returned (.int .i64 0) ∧ w = w' := by
  go_enter Try.func34, Try.ntmps34
  go_wp2
  go_ret
  exact ⟨rfl, rfl⟩
end Disk
end Go.Proofs.Ytjeidfknnophnaa

/-
The contracts of the program's New and Copy, and of its calls on a disk that there isn't.
-/
import Derived.Test.YthjilmeaaghpaaaDiskCrash
import Derived.Laws.MakeOwn
import Derived.Deep.RegionHeld3
namespace Go.Proofs.Ythjilmeaaghpaaa
open Go.RowKit
set_option linter.unusedVariables false
namespace Disk

def sizeOf (n : Int) : Nat := (min (max n 0) 4096).toNat
theorem flat_zero (m : Nat) : (List.replicate m zero).flatten = List.replicate (m * 64) 0 := by
  induction m with
  | zero => simp
  | succ m ih => rw [List.replicate_succ, List.flatten_cons, ih, zero, List.replicate_append_replicate]; congr 1; omega
def zeros (m : Nat) : Array Value := (bcells (List.replicate m zero).flatten).toArray
theorem run_make_sectors (m : Nat) (hm : m ≤ 4096) (w : World) :
    (Instr.makeSlice 54 (.int .i64 m) (.int .i64 m)).run Try.prog w = .ok (.slice (some ⟨w.heap.size, 0, none⟩) m m) (w.alloc (.cells (zeros m) 59)) := by
  obtain ⟨i0, hi, hz0, hz1, hz2⟩ := info_parts infoSec
  have := run_make (P := Try.prog) w 54 59 i0 zsec Try.underlying54 hi hz0 .i64 .i64 m m (by omega) (by omega) (by rw [hz2]; omega) (by omega)
  rw [this, hz1]
  simp only [Int.toNat_natCast]
  congr 3
  unfold zeros
  rw [flat_zero, bcells, List.map_replicate]
  apply Array.ext
  · simp [size_madeCells]
  · intro i h1 h2
    have h3 : i % 64 < 64 := Nat.mod_lt _ (by omega)
    simp [madeCells, zsec, Value.cells, h3]
theorem secs_zero (m : Nat) : Secs m (List.replicate m zero) := ⟨by simp, fun r hr => by rw [List.eq_of_mem_replicate hr]; exact zero_sec⟩
theorem Mem.zeros {w : World} {b m : Nat} (hm : m ≤ 4096) (h : Blk.Is w b 59 (zeros m)) : Mem w b m m (List.replicate m zero) := by
  have hf := (secs_zero m).flat
  refine ⟨secs_zero m, Nat.le_refl _, hm, by unfold maxLen; omega, _, h, ?_, ?_⟩
  · unfold Disk.zeros; rw [List.size_toArray, bcells_length, hf]
  · unfold Disk.zeros; rw [List.toList_toArray, List.take_of_length_le (by rw [bcells_length, hf]; exact Nat.le_refl _)]
def Dk.From (d : Dk) (B : Nat) : Prop := B ≤ d.p ∧ B ≤ d.br ∧ B ≤ d.bs
theorem Dk.From.has {d : Dk} {B k : Nat} (h : d.From B) (hk : d.Has k) : B ≤ k := by
  rcases hk with rfl | rfl | rfl
  · exact h.1
  · exact h.2.1
  · exact h.2.2
/-- What New hands back. -/
def Made (w : World) (m : Nat) (e : Ending) (w' : World) : Prop := ∃ d : Dk, e = .returned d.ptr ∧ d.n = m ∧ d.From w.heap.size ∧ At w' d (fresh m) ∧ Below w.heap.size w w'
theorem new_any (n : Int) (w : World) :
    Calls Try.prog 9 #[.int .i64 n] w fun e w' => Made w (sizeOf n) e w' := by
  obtain ⟨m, hm, hle⟩ : ∃ m, sizeOf n = m ∧ m ≤ 4096 := ⟨_, rfl, by unfold sizeOf; omega⟩
  rw [hm]
  have hmk := run_make_sectors m hle
  have fin : ∀ b1 b2, (b1 = w.heap.size ∧ b2 = w.heap.size + 1 ∨ b1 = w.heap.size + 1 ∧ b2 = w.heap.size) →
      Made w m (.returned (.pointer (some ⟨w.heap.size + 1 + 1, 0, none⟩))) (((w.alloc (.cells (zeros m) 59)).alloc (.cells (zeros m) 59)).alloc (.cells #[.slice (some ⟨b1, 0, none⟩) m m, .slice (some ⟨b2, 0, none⟩) m m, .int .i64 0, .int .i64 0, .bool false] 56)).drew := by
    intro b1 b2 hb12
    obtain ⟨u, hu⟩ : ∃ u, u = (w.alloc (.cells (zeros m) 59)).alloc (.cells (zeros m) 59) := ⟨_, rfl⟩
    rw [← hu]
    have hb : Below w.heap.size w u := by rw [hu]; exact ((Below.refl _ _).alloc (Nat.le_refl _) _).alloc (by simp) _
    have hs : u.heap.size = w.heap.size + 1 + 1 := by rw [hu]; simp
    have h0 : Blk.Is u w.heap.size 59 (zeros m) := by rw [hu]; exact (Blk.Is.new w _ _).alloc _
    have h1 : Blk.Is u (w.heap.size + 1) 59 (zeros m) := by
      have := Blk.Is.new (w.alloc (.cells (zeros m) 59)) 59 (zeros m)
      rw [World.size_alloc] at this
      rw [hu]; exact this
    have hp := Blk.Is.new u 56 #[.slice (some ⟨b1, 0, none⟩) m m, .slice (some ⟨b2, 0, none⟩) m m, .int .i64 0, .int .i64 0, .bool false]
    rw [hs] at hp
    refine ⟨⟨w.heap.size + 1 + 1, b1, b2, m, m, m⟩, rfl, rfl, ⟨by show _ ≤ w.heap.size + 1 + 1; omega, by show _ ≤ b1; omega, by show _ ≤ b2; omega⟩, At.drew ⟨hp, ?_, ?_, by show b1 ≠ b2; omega, Int.le_refl _, by show (0:Int) ≤ _; decide⟩, (hb.alloc (by omega) _).drew⟩
    · rcases hb12 with ⟨rfl, rfl⟩ | ⟨rfl, rfl⟩
      · exact Mem.zeros hle (h0.alloc _)
      · exact Mem.zeros hle (h1.alloc _)
    · rcases hb12 with ⟨rfl, rfl⟩ | ⟨rfl, rfl⟩
      · exact Mem.zeros hle (h1.alloc _)
      · exact Mem.zeros hle (h0.alloc _)
  generalize zeros m = z at *
  have FIN := Lib.hid fin
  clear fin
  unfold sizeOf at hm
  rcases (show n < 0 ∨ 0 ≤ n ∧ n ≤ 4096 ∨ 4096 < n by omega) with h0 | ⟨h0, h1⟩ | h0
  · obtain rfl : m = 0 := by omega
    clear hm hle
    rw [show ((0 : Nat) : Int) = 0 from rfl] at hmk
    go_enter Try.func9, Try.ntmps9
    go_wp2
    go_region
    all_goals
      go_wp2
      go_ret
      exact FIN.out _ _ (by omega)
  · obtain rfl : n = (m : Int) := by omega
    clear hm h0
    go_enter Try.func9, Try.ntmps9
    go_wp2
    go_region
    all_goals
      go_wp2
      go_ret
      exact FIN.out _ _ (by omega)
  · obtain rfl : m = 4096 := by omega
    clear hm hle
    rw [show ((4096 : Nat) : Int) = 4096 from rfl] at hmk
    go_enter Try.func9, Try.ntmps9
    go_wp2
    go_region
    all_goals
      go_wp2
      go_ret
      exact FIN.out _ _ (by omega)

/-- What Copy hands back. -/
def Copied (w : World) (d : Dk) (s : St) (e : Ending) (w' : World) : Prop := ∃ c : Dk, e = .returned c.ptr ∧ c.n = d.n ∧ c.From w.heap.size ∧ At w' c s ∧ Below w.heap.size w w'
/-- The walk's own keeping, in Copy's last statement. -/
structure KeepC (w u : World) (s : St) : Prop where
  base : Below w.heap.size w u
  lt : w.heap.size < u.heap.size
  obj : ∃ x y, Blk.Is u w.heap.size 56 #[x, y, .int .i64 s.calls, .int .i64 s.fuse, .bool s.off]
def fstC (w u : World) : Value := (u.cell? ⟨w.heap.size, 0, none⟩).getD undef
def sndC (w u : World) : Value := (u.cell? ⟨w.heap.size, 1, none⟩).getD undef
theorem KeepC.fst {w u s} (h : KeepC w u s) : u.cell? ⟨w.heap.size, 0, none⟩ = some (fstC w u) := by
  obtain ⟨x, y, k⟩ := h.obj
  have := k.at (i := 0) (v := x) rfl
  rw [fstC, this]; rfl
theorem KeepC.snd {w u s} (h : KeepC w u s) : u.cell? ⟨w.heap.size, 1, none⟩ = some (sndC w u) := by
  obtain ⟨x, y, k⟩ := h.obj
  have := k.at (i := 1) (v := y) rfl
  rw [sndC, this]; rfl
theorem KeepC.free {w u s} (h : KeepC w u s) (j : Nat) : u.frozen? ⟨w.heap.size, j, none⟩ = false := by
  obtain ⟨x, y, k⟩ := h.obj
  exact k.free j
theorem KeepC.call {w u u' s} (h : KeepC w u s) (hb : Below u.heap.size u u') : KeepC w u' s := by
  obtain ⟨x, y, k⟩ := h.obj
  exact ⟨h.base.trans (hb.mono h.base.size), Nat.lt_of_lt_of_le h.lt hb.size, x, y, (Blk.Chg.ofBelow' (S := fun _ => False) hb).is k (by simp)⟩
theorem KeepC.set0 {w u s} (h : KeepC w u s) (v : Value) : KeepC w (u.setCell ⟨w.heap.size, 0, none⟩ v) s := by
  obtain ⟨x, y, k⟩ := h.obj
  exact ⟨h.base.setCell (Nat.le_refl _) _, by simpa [World.setCell] using h.lt, v, y, by simpa using k.set 0 v⟩
theorem KeepC.set1 {w u s} (h : KeepC w u s) (v : Value) : KeepC w (u.setCell ⟨w.heap.size, 1, none⟩ v) s := by
  obtain ⟨x, y, k⟩ := h.obj
  exact ⟨h.base.setCell (Nat.le_refl _) _, by simpa [World.setCell] using h.lt, x, v, by simpa using k.set 1 v⟩
theorem copy_any (d : Dk) (s : St) (w : World) (h : At w d s) (hn : 0 < d.n) :
    Calls Try.prog 18 #[d.ptr] w fun e w' => Copied w d s e w' := by
  obtain ⟨c0, c1, c2, c3, c4, f⟩ := h.flds
  clear f
  have H := Lib.hid h
  obtain ⟨g0, g1⟩ := h.ne
  have hlt : d.p < w.heap.size := h.obj.lt
  have k0 : ∀ u, KeepC w u s → u.cell? ⟨d.p, 0, none⟩ = some (.slice (some ⟨d.br, 0, none⟩) d.n d.cr) := fun u hu => by rw [hu.base.cell (by exact hlt)]; exact c0
  have k1 : ∀ u, KeepC w u s → u.cell? ⟨d.p, 1, none⟩ = some (.slice (some ⟨d.bs, 0, none⟩) d.n d.cs) := fun u hu => by rw [hu.base.cell (by exact hlt)]; exact c1
  have k2 : ∀ u, KeepC w u s → u.cell? ⟨w.heap.size, 0, none⟩ = some (fstC w u) := fun u hu => hu.fst
  have k3 : ∀ u, KeepC w u s → u.cell? ⟨w.heap.size, 1, none⟩ = some (sndC w u) := fun u hu => hu.snd
  have k4 : ∀ u, KeepC w u s → u.frozen? ⟨w.heap.size, 0, none⟩ = false := fun u hu => hu.free 0
  have k5 : ∀ u, KeepC w u s → u.frozen? ⟨w.heap.size, 1, none⟩ = false := fun u hu => hu.free 1
  have ka : ∀ u, KeepC w u s → Mem u d.br d.n d.cr s.now := fun u hu => h.now.chg (S := fun _ => False) ⟨hu.base.os, hu.base.tape, hu.base.output, hu.base.size, fun k hk _ => hu.base.block k hk⟩ (by simp)
  have kb : ∀ u, KeepC w u s → Mem u d.bs d.n d.cs s.sure := fun u hu => h.sure.chg (S := fun _ => False) ⟨hu.base.os, hu.base.tape, hu.base.output, hu.base.size, fun k hk _ => hu.base.block k hk⟩ (by simp)
  have K0 : KeepC w (w.alloc (.cells #[.slice (some ⟨d.br, 0, none⟩) d.n d.cr, .slice (some ⟨d.bs, 0, none⟩) d.n d.cs, .int .i64 s.calls, .int .i64 s.fuse, .bool s.off] 56)) s :=
    ⟨(Below.refl _ _).alloc (Nat.le_refl _) _, by simp, _, _, Blk.Is.new w _ _⟩
  have KA := Lib.hid ka
  have KB := Lib.hid kb
  have HK0 := Lib.hid K0
  clear h ka kb K0
  unfold Dk.ptr
  go_enter Try.func18, Try.ntmps18
  go_wp2_with fail
  go_region_held3 (fun u => KeepC w u s)
    (first | exact HK0.out.call (Below.refl _ _).drew | (refine KeepC.call ?_ hbB; assumption) | (refine KeepC.call ?_ hbA; assumption) | (refine KeepC.set0 ?_ _; assumption) | (refine KeepC.set1 ?_ _; assumption))
    (first
      | (go_at_call_of 30 (Value.slice (some ⟨d.br, 0, none⟩) d.n d.cr); refine (cloneSectors_any _ _ _ _ _ (KA.out _ (by assumption)) hn).mono ?_; rintro e wA ⟨bA, cA, rfl, gA, mA, hbA⟩)
      | (go_at_call_of 30 (Value.slice (some ⟨d.bs, 0, none⟩) d.n d.cs); refine (cloneSectors_any _ _ _ _ _ (KB.out _ (by assumption)) hn).mono ?_; rintro e wB ⟨bB, cB, rfl, gB, mB, hbB⟩))
  have hheld : KeepC w ((wB.setCell ⟨w.heap.size, 0, none⟩ (.slice (some ⟨bA, 0, none⟩) d.n cA)).setCell ⟨w.heap.size, 1, none⟩ (.slice (some ⟨bB, 0, none⟩) d.n cB)) s := by assumption
  have q1 := (Blk.Chg.ofBelow' (S := fun _ => False) hbB).is ((Blk.Chg.ofBelow' (S := fun _ => False) hbA).is (Blk.Is.new w _ _).drew (by simp)) (by simp)
  have q2 := (q1.set 0 (.slice (some ⟨bA, 0, none⟩) d.n cA)).set 1 (.slice (some ⟨bB, 0, none⟩) d.n cB)
  have hgA : w.heap.size + 1 ≤ bA := by simpa [World.size_alloc] using gA
  have hgB : w.heap.size + 1 ≤ bB := by have h1 := hbA.size; have h2 : w.heap.size + 1 ≤ wA.heap.size := by simpa [World.size_alloc] using h1
                                        omega
  have hc : Blk.Chg (fun k => k = w.heap.size) wB ((wB.setCell ⟨w.heap.size, 0, none⟩ (.slice (some ⟨bA, 0, none⟩) d.n cA)).setCell ⟨w.heap.size, 1, none⟩ (.slice (some ⟨bB, 0, none⟩) d.n cB)) := by
    refine Blk.Chg.setAt ?_ rfl; exact Blk.Chg.setAt (Blk.Chg.refl _ _) rfl
  have nA := (mA.chg (S := fun _ => False) (Blk.Chg.ofBelow' hbB) (by simp)).chg hc (by omega)
  have nB := mB.chg hc (by omega)
  have hAB : bA ≠ bB := by have := mA.lt; omega
  have q0 := H.out.fuse0
  have q3 := H.out.fuse1
  clear k0 k1 k2 k3 k4 k5 mA mB gA gB q1 hc
  go_wp2
  go_ret
  refine ⟨⟨w.heap.size, bA, bB, d.n, cA, cB⟩, rfl, rfl, ⟨Nat.le_refl _, by show _ ≤ bA; omega, by show _ ≤ bB; omega⟩, ⟨?_, nA, nB, hAB, q0, q3⟩, hheld.base⟩
  simpa [Dk.cells] using q2

/-! ### a disk that there isn't -/
theorem nilFuse_any (n : Int) (w : World) : Calls Try.prog 19 #[.pointer none, .int .i64 n] w fun e w' => e = .returned (.tuple #[]) ∧ w = w' := by
  go_enter Try.func19, Try.ntmps19
  go_wp2
  refine bodyPost_end (results_none rfl _ _ _) rfl ⟨rfl, rfl⟩
theorem nilCrash_any (v : Value) (w : World) : Calls Try.prog 20 #[.pointer none, v] w fun e w' => e = .returned (.tuple #[]) ∧ w = w' := by
  go_enter Try.func20, Try.ntmps20
  go_wp2
  refine bodyPost_ret (v := .tuple #[]) (results_none rfl _ _ _) rfl ⟨rfl, rfl⟩
theorem nilRead_any (i : Int) (w : World) : Calls Try.prog 16 #[.pointer none, .int .i64 i] w fun e w' => e = .returned (.tuple #[.slice none 0 0, .int .i64 1]) ∧ w = w' := by
  go_enter Try.func16, Try.ntmps16
  go_wp2
  go_ret2
  exact ⟨rfl, rfl⟩
theorem nilWrite_any (i : Int) (v : Value) (w : World) : Calls Try.prog 21 #[.pointer none, .int .i64 i, v] w fun e w' => e = .returned (.int .i64 1) ∧ w = w' := by
  go_enter Try.func21, Try.ntmps21
  go_wp2
  go_ret
  exact ⟨rfl, rfl⟩
theorem nilFlush_any (w : World) : Calls Try.prog 22 #[.pointer none] w fun e w' => e = .returned (.int .i64 1) ∧ w = w' := by
  go_enter Try.func22, Try.ntmps22
  go_wp2
  go_ret
  exact ⟨rfl, rfl⟩
theorem nilLen_any (w : World) : Calls Try.prog 17 #[.pointer none] w fun e w' => e = .returned (.int .i64 0) ∧ w = w' := by
  go_enter Try.func17, Try.ntmps17
  go_wp2
  go_ret
  exact ⟨rfl, rfl⟩
theorem nilCalls_any (w : World) : Calls Try.prog 12 #[.pointer none] w fun e w' => e = .returned (.int .i64 0) ∧ w = w' := by
  go_enter Try.func12, Try.ntmps12
  go_wp2
  go_ret
  exact ⟨rfl, rfl⟩
theorem nilDown_any (w : World) : Calls Try.prog 13 #[.pointer none] w fun e w' => e = .returned (.bool false) ∧ w = w' := by
  go_enter Try.func13, Try.ntmps13
  go_wp2
  go_ret
  exact ⟨rfl, rfl⟩
theorem nilCopy_any (w : World) : Calls Try.prog 18 #[.pointer none] w fun e w' => e = .returned (.pointer none) ∧ w = w' := by
  go_enter Try.func18, Try.ntmps18
  go_wp2
  go_ret
  exact ⟨rfl, rfl⟩
end Disk
end Go.Proofs.Ythjilmeaaghpaaa

/-
The contracts of wal's marks: has, with.
-/
import Derived.Test.YtjeidfknnophnaaWalBits
import Derived.Test.YtjeidfknnophnaaDiskMix
import Derived.IntWalk
import Derived.BigQuiet
namespace Go.Proofs.Ytjeidfknnophnaa
open Go.RowKit
set_option linter.unusedVariables false
namespace Wal
open Disk (Sec mixb)

theorem sizeMarks : (Try.prog.info? 69).map (·.size) = some 64 := by kernel_rfl
/-- The test of one bit. -/
theorem and_wgt {z : Int} (hz : 0 ≤ z ∧ z < 256) (i : Nat) : (bits .and .u8 z (wgt i) != 0) = tb z (7 - i % 8) := by
  have h := and8_byte hz (wgt_byte i)
  cases hb : tb z (7 - i % 8) with
  | true =>
    rw [bne_iff_ne]
    intro e
    have := h.2 (7 - i % 8)
    rw [e, wgt_tb, hb] at this
    simp [tb] at this
  | false =>
    have : bits .and .u8 z (wgt i) = 0 := tb_ext h.1 (by omega) fun q hq => by
      rw [h.2, wgt_tb]
      by_cases e : 7 - i % 8 = q
      · subst e; rw [hb]; simp [tb]
      · simp [tb, e]
    rw [this]; rfl

set_option maxRecDepth 100000 in
theorem has_any (m : List Int) (i : Nat) (w : World) (hm : Sec m) (hi : i < 512) :
    Calls Try.prog 40 #[.agg (bcells m).toArray, .int .i64 i] w fun e w' => e = .returned (.bool (mark m i)) ∧ Below w.heap.size w w' := by
  have hq : IntKind.i64.wrap ((i : Int).tdiv 8) = ((i / 8 : Nat) : Int) := by
    rw [IntWalk.i64_quo _ _ (by omega)]; omega
  have q0 : (0 : Int) ≤ ((i / 8 : Nat) : Int) := by omega
  have q1 : ((i / 8 : Nat) : Int) < 64 := by omega
  have hby := Byte.getD hm.byt (i / 8)
  have hc : (w.alloc (.cells (bcells m).toArray 69)).cell? ⟨w.heap.size, i / 8, none⟩ = some (.int .u8 (m.getD (i / 8) 0)) := by
    refine (Blk.Is.new w 69 _).at ?_
    have := bcells_at m (i / 8) (by rw [hm.len]; omega)
    simpa using this
  have hmk := mark_tb hm.byt i
  obtain ⟨z, hz⟩ : ∃ z, m.getD (i / 8) 0 = z := ⟨_, rfl⟩
  rw [hz] at hby hc hmk
  have hand := and_wgt hby i
  rw [← hmk] at hand
  obtain ⟨g, hg⟩ : ∃ g, mark m i = g := ⟨_, rfl⟩
  rw [hg] at hand
  rw [hg]
  obtain ⟨cs, hcs⟩ : ∃ c, c = (bcells m).toArray := ⟨_, rfl⟩
  rw [← hcs] at hc
  rw [← hcs]
  have hw : wgt i = 2 ^ (7 - i % 8) := rfl
  clear hz hmk hg hcs
  rcases (show i % 8 = 0 ∨ i % 8 = 1 ∨ i % 8 = 2 ∨ i % 8 = 3 ∨ i % 8 = 4 ∨ i % 8 = 5 ∨ i % 8 = 6 ∨ i % 8 = 7 by omega) with h8 | h8 | h8 | h8 | h8 | h8 | h8 | h8
  all_goals
    have hrem : (i : Int) % 8 = ((i % 8 : Nat) : Int) := by omega
    rw [h8] at hrem hw
    simp only [Nat.sub_zero, Nat.reduceSub, Int.reducePow, Int.cast_ofNat_Int] at hrem hw
    rw [hw] at hand
    clear hw h8
    go_enter Try.func40, Try.ntmps40
    go_wp2_with fail
    go_quiet (fail)
    go_wp2
    go_ret
    exact ⟨rfl, ((Below.refl _ _).alloc (Nat.le_refl _) _).trans ⟨rfl, rfl, rfl, Nat.le_refl _, fun _ _ => rfl⟩⟩

theorem zeroMarks : ∃ z : Array Value, (∀ w, (zeroValue 69).run Try.prog w = .ok (.agg z) w) ∧ z.size = 64 := by
  have hi : (Try.prog.info? 69).map (fun i => (i.zero, i.size, i.bytes)) = some (some (.agg (Array.replicate 64 (.int .u8 0))), 64, 64) := by kernel_rfl
  obtain ⟨i0, hi, hz0, _⟩ := info_parts hi
  exact ⟨Array.replicate 64 (.int .u8 0), fun w => by simp [zeroValue, typeInfo, hi, hz0], by simp⟩
set_option maxRecDepth 100000 in
theorem with_any (m : List Int) (i : Nat) (w : World) (hm : Sec m) (hi : i < 512) :
    Calls Try.prog 47 #[.agg (bcells m).toArray, .int .i64 i] w fun e w' => e = .returned (.agg (bcells (setMark m i)).toArray) ∧ Below w.heap.size w w' := by
  obtain ⟨zr, hzr, hzs⟩ := zeroMarks
  have hq : IntKind.i64.wrap ((i : Int).tdiv 8) = ((i / 8 : Nat) : Int) := by
    rw [IntWalk.i64_quo _ _ (by omega)]; omega
  have q0 : (0 : Int) ≤ ((i / 8 : Nat) : Int) := by omega
  have q1 : ((i / 8 : Nat) : Int) < 64 := by omega
  have hby := Byte.getD hm.byt (i / 8)
  have F0 : Blk.Is ((w.alloc (.cells (bcells m).toArray 69)).alloc (.cells zr 69)) w.heap.size 69 (bcells m).toArray := (Blk.Is.new w _ _).alloc _
  have F1 : Blk.Is ((w.alloc (.cells (bcells m).toArray 69)).alloc (.cells zr 69)) (w.heap.size + 1) 69 zr := by
    have := Blk.Is.new (w.alloc (.cells (bcells m).toArray 69)) 69 zr
    rwa [World.size_alloc] at this
  have FB : Below w.heap.size w ((w.alloc (.cells (bcells m).toArray 69)).alloc (.cells zr 69)) := ((Below.refl _ _).alloc (Nat.le_refl _) _).alloc (by simp) _
  have hc := F0.at (i := i / 8) (v := .int .u8 (m.getD (i / 8) 0)) (by
    have := bcells_at m (i / 8) (by rw [hm.len]; omega)
    simpa using this)
  have hf := F0.free (i / 8)
  have hset : (bcells m).toArray.setIfInBounds (i / 8) (.int .u8 (bits .or .u8 (m.getD (i / 8) 0) (wgt i))) = (bcells (setMark m i)).toArray := by
    apply Array.ext'
    simp [bcells, setMark, List.map_set]
  obtain ⟨z, hz⟩ : ∃ z, m.getD (i / 8) 0 = z := ⟨_, rfl⟩
  rw [hz] at hby hc hset
  obtain ⟨cs, hcs⟩ : ∃ c, c = (bcells m).toArray := ⟨_, rfl⟩
  obtain ⟨ds, hds⟩ : ∃ c, c = (bcells (setMark m i)).toArray := ⟨_, rfl⟩
  have s1 : (Try.prog.info? 69).map (·.size) = some ds.size := by rw [sizeMarks, hds]; simp [setMark_len, hm.len]
  have s2 : zr.size = ds.size := by rw [hzs, hds]; simp [setMark_len, hm.len]
  have s3 : ds.all (·.oneCell') = true := by rw [hds]; exact all_oneCell_toArray (bcells_one _)
  rw [← hcs, ← hds] at hset
  rw [← hcs] at hc hf F0 F1 FB
  rw [← hcs, ← hds]
  have hw : wgt i = 2 ^ (7 - i % 8) := rfl
  obtain ⟨y, hy⟩ : ∃ y, bits .or .u8 z (wgt i) = y := ⟨_, rfl⟩
  rw [hy] at hset
  have J0 : Blk.Is ((w.alloc (.cells ds 69)).alloc (.cells zr 69)).drew w.heap.size 69 ds := ((Blk.Is.new w _ _).alloc _).drew
  have J1 : Blk.Is ((w.alloc (.cells ds 69)).alloc (.cells zr 69)).drew (w.heap.size + 1) 69 zr := by
    have := Blk.Is.new (w.alloc (.cells ds 69)) 69 zr
    rw [World.size_alloc] at this
    exact this.drew
  have JB : Below w.heap.size w ((w.alloc (.cells ds 69)).alloc (.cells zr 69)).drew := (((Below.refl _ _).alloc (Nat.le_refl _) _).alloc (by simp) _).drew
  have H0 := Lib.hid J0
  have H1 := Lib.hid J1
  have S1 := Lib.hid s1
  have S2 := Lib.hid s2
  have S3 := Lib.hid s3
  clear hz hcs hds hzs s1 s2 s3
  rcases (show i % 8 = 0 ∨ i % 8 = 1 ∨ i % 8 = 2 ∨ i % 8 = 3 ∨ i % 8 = 4 ∨ i % 8 = 5 ∨ i % 8 = 6 ∨ i % 8 = 7 by omega) with h8 | h8 | h8 | h8 | h8 | h8 | h8 | h8
  all_goals
    have hrem : (i : Int) % 8 = ((i % 8 : Nat) : Int) := by omega
    rw [h8] at hrem hw
    simp only [Nat.sub_zero, Nat.reduceSub, Int.reducePow, Int.cast_ofNat_Int] at hrem hw
    rw [hw] at hy
    clear hw h8
    go_enter Try.func47, Try.ntmps47
    go_wp2_with fail
    go_region
    clear hc hf hset hq q0 q1 hrem hy
    go_wp2_with (first
      | (refine wpList_load_row rfl 69 _ rfl w.heap.size rfl 69 ds (0, 0) _ H0.out Try.underlying69 rfl S1.out ?_)
      | (refine wpList_store_row rfl 69 _ _ rfl (w.heap.size + 1) ds rfl rfl 69 zr H1.out S1.out S2.out S3.out ?_))
    refine bodyPost_ret (v := .agg ds) (results_cell_row (p := 4) (ty := 69) (by kernel_rfl) _ _ (w.heap.size + 1) 69 ds (0, 0) _ rfl (H1.out.row ds) Try.underlying69 rfl S1.out) rfl ⟨rfl, ?_⟩
    exact Blk.belowRow JB (by omega) ds
end Wal
end Go.Proofs.Ytjeidfknnophnaa

/-
The contract of crc.Table: the array of the 256 numbers.
-/
import Derived.Test.YtjeidfknnophnaaCrcEntry
import Derived.Deep.WholeRow
import Derived.Lib.Hide
namespace Go.Proofs.Ytjeidfknnophnaa
open Go.RowKit
set_option linter.unusedVariables false
namespace Crc

def zc : Array Value := Array.replicate 256 (.int .u32 0)
theorem zc_size : zc.size = 256 := by simp [zc]
theorem zeroTable : (∀ w, (zeroValue 88).run Try.prog w = .ok (.agg zc) w) ∧ (Try.prog.info? 88).map (·.size) = some 256 := zero_of_info (by kernel_rfl)

/-- The table with its first k entries made. -/
def part (k : Nat) : Array Value := Array.ofFn fun i : Fin 256 => .int .u32 (if i.val < k then num (tab (BitVec.ofNat 32 i.val)) else 0)
theorem part_size (k : Nat) : (part k).size = 256 := by simp [part]
theorem part_zero : part 0 = zc := by
  apply Array.ext
  · rw [part_size, zc_size]
  · intro i h1 h2; simp [part, zc]
theorem part_succ (k : Nat) (h : k < 256) : (part k).setIfInBounds k (.int .u32 (num (tab (BitVec.ofNat 32 k)))) = part (k + 1) := by
  apply Array.ext
  · simp [part_size]
  · intro i h1 h2
    have hi : i < 256 := by simpa [part_size] using h2
    rw [Array.getElem_setIfInBounds]
    · by_cases e : k = i
      · subst e; simp [part]
      · simp only [e, if_false, part, Array.getElem_ofFn]
        by_cases hlt : i < k
        · rw [if_pos hlt, if_pos (by omega)]
        · rw [if_neg hlt, if_neg (by omega)]
    · simpa using h1
def table : Array Value := part 256
theorem part_one (k : Nat) : (part k).all (·.oneCell') = true := by
  rw [Array.all_eq_true]; intro i h; simp [part, Value.oneCell']
theorem part_cell (k i : Nat) (h : i < 256) : (part k)[i]? = some (.int .u32 (if i < k then num (tab (BitVec.ofNat 32 i)) else 0)) := by
  rw [Array.getElem?_eq_getElem (by rw [part_size]; exact h)]; simp [part]
theorem table_cell (i : Nat) (h : i < 256) : table[i]? = some (.int .u32 (num (tab (BitVec.ofNat 32 i)))) := by
  rw [table, part_cell _ _ h, if_pos h]
theorem num_ofNat (k : Nat) (h : k < 256) : (k : Int) = num (BitVec.ofNat 32 k) := by
  unfold num; rw [BitVec.toNat_ofNat, Nat.mod_eq_of_lt (by omega)]

theorem below_setRow {B : Nat} {a w : World} (h : Below B a w) (g : Nat) (cs : Array Value) (hg : B ≤ g) : Below B a (w.setRow g cs) :=
  h.trans ⟨rfl, rfl, rfl, by simp [World.setRow], fun k hk => setRow_other w g k cs (by omega)⟩

def IsPart (k : Nat) (c : Array Value) : Prop := c = part k
theorem IsPart.cell {k c} (h : IsPart k c) (hk : k < 256) : ∃ v, c[k]? = some v := ⟨_, by rw [h]; exact part_cell k k hk⟩
theorem IsPart.size {k c} (h : IsPart k c) : c.size = 256 := by rw [h]; exact part_size k
theorem IsPart.next {k c} (h : IsPart k c) (hk : k < 256) {v : Int} (hv : v = num (tab (BitVec.ofNat 32 k))) : IsPart (k + 1) (c.setIfInBounds k (.int .u32 v)) := by
  unfold IsPart; rw [h, hv]; exact part_succ k hk

set_option maxRecDepth 100000 in
theorem table_any (w : World) :
    Calls Try.prog 62 #[] w fun e w' => e = .returned (.agg table) ∧ Below w.heap.size w w' := by
  obtain ⟨z, hz, hp⟩ : ∃ z, (∀ w, (zeroValue 88).run Try.prog w = .ok (.agg z) w) ∧ IsPart 0 z := ⟨zc, zeroTable.1, part_zero.symm⟩
  go_enter Try.func62, Try.ntmps62
  go_wp2
  go_loopw [2, 3] (fun b i wr => ∃ k : Nat, ∃ c : Array Value, k ≤ 256 ∧ i = .int .i64 k ∧ wr = (w.alloc (.cells z 88)).alloc (.cells c 88) ∧ IsPart k c) (fun _ i _ => 256 - (intOf i).toNat)
  case atStart => exact ⟨0, z, by omega, rfl, rfl, hp⟩
  case round =>
    obtain ⟨k, c, hk, rfl, rfl, hc⟩ := hrel
    by_cases hlt : k < 256
    · obtain ⟨v0, hcell⟩ := hc.cell hlt
      have HC := Lib.hid hc
      clear hc
      go_wp2_with fail
      refine (entry_any (BitVec.ofNat 32 k) _ (num_ofNat k hlt) _).mono ?_
      rintro e w' ⟨rfl, rfl⟩
      obtain ⟨m, hm⟩ : ∃ m, m = num (tab (BitVec.ofNat 32 k)) := ⟨_, rfl⟩
      rw [← hm]
      have HM := Lib.hid hm
      clear hm
      go_wp2
      go_roundw
      case rel => exact ⟨k + 1, _, by omega, by go_num, rfl, HC.out.next hlt HM.out⟩
      case measure => simp [intOf]; omega
    · obtain rfl : k = 256 := by omega
      have HC := Lib.hid hc
      clear hc
      go_wp2_with (first
        | (refine wpList_load_row rfl 88 _ rfl (w.heap.size + 1) rfl 88 c (0, 0) _ (heap_alloc2_new w _ _) Try.underlying88 rfl (by rw [zeroTable.2, HC.out.size]) ?_)
        | (refine wpList_store_row rfl 88 _ _ rfl w.heap.size c rfl rfl 88 z (heap_alloc2_old w _ _) (by rw [zeroTable.2, HC.out.size]) (by rw [hp.size, HC.out.size]) (by rw [HC.out]; exact part_one _) ?_))
      refine bodyPost_ret (v := .agg c) (results_cell_row (p := 0) (ty := 88) (by kernel_rfl) _ _ w.heap.size 88 c (0, 0) _ rfl (setRow_heap _ _ z c 88 (0, 0) (heap_alloc2_old w _ _)) Try.underlying88 rfl (by rw [zeroTable.2, HC.out.size])) rfl ⟨by rw [HC.out]; rfl, ?_⟩
      refine below_setRow (((Below.refl _ _).alloc (Nat.le_refl _) _).alloc (by simp) _) _ _ (Nat.le_refl _)
end Crc
end Go.Proofs.Ytjeidfknnophnaa

/-
DiskNil's and DiskNew's walks.
-/
import Derived.Test.YthjilmeaaghpaaaDiskAwake
import Derived.Deep.RegionHeldLaw
namespace Go.Proofs.Ythjilmeaaghpaaa
open Go.RowKit
set_option linter.unusedVariables false
namespace Disk

theorem run_eql_nil_disk (w : World) : (binOp .eql 23 (.pointer none) (.pointer none)).run Try.prog w = .ok (.bool true) w := by kernel_rfl
set_option maxRecDepth 100000 in
theorem diskNil_walk (i : Int) (v : Value) (w : World) :
    Calls Try.prog 6 #[.int .i64 i, v] w fun e w' => e = .returned (.bool true) ∧ Below w.heap.size w w' := by
  go_enter Try.func6, Try.ntmps6
  go_wp2_with fail
  refine (nilFuse_any i _).mono ?_
  rintro e w' ⟨rfl, rfl⟩
  go_wp2_with fail
  refine (nilCrash_any v _).mono ?_
  rintro e w' ⟨rfl, rfl⟩
  go_wp2_with fail
  refine (nilRead_any i _).mono ?_
  rintro e w' ⟨rfl, rfl⟩
  go_wp2_with fail
  refine (nilWrite_any i v _).mono ?_
  rintro e w' ⟨rfl, rfl⟩
  go_wp2_with fail
  refine (nilFlush_any _).mono ?_
  rintro e w' ⟨rfl, rfl⟩
  go_wp2_with fail
  refine (nilLen_any _).mono ?_
  rintro e w' ⟨rfl, rfl⟩
  go_wp2_with fail
  refine (nilCalls_any _).mono ?_
  rintro e w' ⟨rfl, rfl⟩
  go_wp2_with fail
  refine (nilDown_any _).mono ?_
  rintro e w' ⟨rfl, rfl⟩
  go_wp2_with fail
  refine (nilCopy_any _).mono ?_
  rintro e w' ⟨rfl, rfl⟩
  go_wp2_with fail
  refine (awake_any _).mono ?_
  rintro e w' ⟨rfl, hb⟩
  go_wp2
  go_ret
  exact ⟨rfl, hb⟩

theorem sizeOf_lt {n : Int} (h : n < 1) : sizeOf n = 0 := by unfold sizeOf; omega
theorem sizeOf_ge {n : Int} (h : 1 ≤ n) : (sizeOf n : Int) = min n 4096 ∧ 0 < sizeOf n := by unfold sizeOf; omega
theorem fresh_read0 (n : Nat) : (fresh n).read 0 = if 0 < n then (zero, 0) else ([], 1) := by
  unfold St.read fresh hasB
  by_cases h : 0 < n
  · cases n with
    | zero => omega
    | succ n =>
      rw [if_neg (by simp), if_pos (by simp), if_pos h]
      simp [List.replicate_succ]
  · obtain rfl : n = 0 := by omega
    rfl
set_option maxRecDepth 100000 in
set_option maxHeartbeats 4000000 in
theorem diskNew_walk (n : Int) (w : World) (hw : (Lit.int .i64 n).wf = true) :
    Calls Try.prog 4 #[.int .i64 n] w fun e w' => e = .returned (.bool true) ∧ Below w.heap.size w w' := by
  by_cases h1 : n < 1
  · have hs := sizeOf_lt h1
    have hr := fresh_read0 0
    have HS := Lib.hid hs
    have HR := Lib.hid hr
    clear hs hr
    go_enter Try.func4, Try.ntmps4
    go_wp2_with fail
    refine (new_any n _).mono ?_
    rintro e w1 ⟨d, rfl, hn, hf, h2, b1⟩
    rw [HS.out] at h2 hn
    have H2 := Lib.hid h2
    have HN := Lib.hid hn
    clear h2 hn
    go_wp2_with fail
    refine (read_any d _ 0 _ H2.out).mono ?_
    rintro e w2 ⟨v, rfl, hm, b2⟩
    rw [HR.out] at hm
    rw [HR.out]
    have H3 := Lib.hid (H2.out.below b2)
    have b3 := b1.trans (b2.mono b1.size)
    obtain ⟨m, a, cap, rfl, hcap, hlen, hrow⟩ := hm.rows
    obtain rfl : 0 = m := hlen
    clear hm hrow H2
    go_wp2_with fail
    refine (len_any d _ _ H3.out).mono ?_
    rintro e w' ⟨rfl, rfl⟩
    rw [HN.out]
    go_wp2_with fail
    refine (awake_any _).mono ?_
    rintro e w4 ⟨rfl, b4⟩
    go_wp2
    go_ret
    exact ⟨rfl, b3.trans (b4.mono b3.size)⟩
  · obtain ⟨hs, hs0⟩ := sizeOf_ge (show 1 ≤ n by omega)
    have hr := fresh_read0 (sizeOf n)
    rw [if_pos hs0] at hr
    have hn1 : 1 ≤ n := by omega
    obtain ⟨M, hM⟩ : ∃ M, min n 4096 = M := ⟨_, rfl⟩
    rw [hM] at hs
    rcases (show ((4096 < n) = False ∧ n ≤ 4096) ∧ n = M ∨ ((4096 < n) = True ∧ 4096 < n) ∧ 4096 = M by
      by_cases h : 4096 < n
      · exact Or.inr ⟨⟨by simpa using h, h⟩, by omega⟩
      · exact Or.inl ⟨⟨by simpa using h, by omega⟩, by omega⟩) with ⟨⟨hq, hle⟩, rfl⟩ | ⟨⟨hq, hle⟩, rfl⟩
    all_goals
      have HR := Lib.hid hr
      have HS := Lib.hid hs
      clear hr hs h1 hM
      go_enter Try.func4, Try.ntmps4
      go_wp2_with fail
      refine (new_any n _).mono ?_
      rintro e w1 ⟨d, rfl, hn, hf, h2, b1⟩
      have H2 := Lib.hid h2
      have HN := Lib.hid hn
      clear h2 hn
      go_wp2_with fail
      refine (read_any d _ 0 _ H2.out).mono ?_
      rintro e w2 ⟨v, rfl, hm, b2⟩
      rw [HR.out] at hm
      rw [HR.out]
      have h3 := H2.out.below b2
      have b3 := b1.trans (b2.mono b1.size)
      obtain ⟨m, a, cap, rfl, hcap, hlen, hrow⟩ := hm.rows
      obtain rfl : 64 = m := by rw [← hlen]; exact zero_sec.len.symm
      obtain ⟨b, off, rfl, _, hcell⟩ := hrow.cells (by omega)
      obtain ⟨z, hmk, hz⟩ : ∃ z, (∀ w : World, (Instr.makeSlice 28 (.int .i64 64) (.int .i64 64)).run Try.prog w = .ok (.slice (some ⟨w.heap.size, 0, none⟩) 64 64) (w.alloc (.cells z 5))) ∧ z = (bcells zero).toArray := ⟨_, run_make_bytes, rfl⟩
      obtain ⟨str, hstr⟩ : ∃ str, str = strOfNums zero := ⟨_, rfl⟩
      have hcv0 : ∀ u, Below w2.heap.size w2 u → (convert 28 9 (.slice (some ⟨b, off, none⟩) 64 cap)).run Try.prog u = .ok (.string str) u := fun u hu => by
        have hru := hrow.below hu
        obtain ⟨b', off', hbo, _, hcell'⟩ := hru.cells (by omega)
        cases hbo
        rw [hstr]
        exact run_convert_bytes_arg u 28 5 Try.underlying28 Try.underlying5 b off 64 cap zero zero_sec.len hcell' 9 Try.underlying9
      have hcv1 : ∀ u : World, (convert 28 9 (.slice (some ⟨u.heap.size, 0, none⟩) 64 64)).run Try.prog (u.alloc (.cells z 5)).drew = .ok (.string str) (u.alloc (.cells z 5)).drew := fun u => by
        rw [hstr]
        refine run_convert_bytes_arg _ 28 5 Try.underlying28 Try.underlying5 u.heap.size 0 64 64 zero zero_sec.len (fun j hj => ?_) 9 Try.underlying9
        refine (Blk.Is.new u 5 z).drew.at ?_
        have := bcells_at zero j (by rw [zero_sec.len]; exact hj)
        rw [hz, Nat.zero_add]; simpa using this
      have hlen3 := fun u (hu : Below w2.heap.size w2 u) => len_any d _ u (h3.below hu)
      have HL := Lib.hid hlen3
      have H3 := Lib.hid h3
      have HB := Lib.hid b3
      clear hm hrow hcell h3 hz hlen hlen3 b1 b2 b3 hstr
      go_wp2_with fail
      go_region_held_law (fun u => Below w2.heap.size w2 u) (first | exact (Below.refl _ _).drew | exact ((Below.refl _ _).alloc (Nat.le_refl _) _).drew | (refine Below.trans ?_ (Below.mono hbA ?_); assumption; exact Below.size (by assumption)))
        (first
          | (go_at_call 17; refine (HL.out _ (by assumption)).mono ?_; rintro e w' ⟨rfl, rfl⟩; rw [HN.out, HS.out])
          | (go_at_call 15; refine (awake_any _).mono ?_; rintro e w' ⟨rfl, hbA⟩))
      all_goals
        go_wp2
        go_ret
        exact ⟨rfl, HB.out.trans (Below.mono (by assumption) HB.out.size)⟩
end Disk
end Go.Proofs.Ythjilmeaaghpaaa

/-
The statements' own helpers on the program's disk alone: awake.
-/
import Derived.Test.YthjilmeaaghpaaaDiskNewCopy
namespace Go.Proofs.Ythjilmeaaghpaaa
open Go.RowKit
set_option linter.unusedVariables false
namespace Disk

theorem run_make_bytes (w : World) :
    (Instr.makeSlice 28 (.int .i64 64) (.int .i64 64)).run Try.prog w = .ok (.slice (some ⟨w.heap.size, 0, none⟩) 64 64) (w.alloc (.cells (bcells zero).toArray 5)) := by
  obtain ⟨i0, hi, hz0, hz1, hz2⟩ := info_parts infoU8
  have := run_make (P := Try.prog) w 28 5 i0 _ Try.underlying28 hi hz0 .i64 .i64 64 64 (by omega) (by omega) (by rw [hz2]; omega) (by omega)
  rw [this, hz1]
  simp only [show (64 : Int).toNat = 64 from rfl]
  congr 3
  apply Array.ext'
  rw [show (Value.int .u8 0).cells = #[Value.int .u8 0] from rfl, toList_madeCells_one]
  simp [bcells, zero]
theorem At.notBytes {w d s b cs} (h : At w d s) (k : Blk.Is w b 5 cs) : ¬ d.Has b := by
  obtain ⟨c1, h1, _⟩ := h.now.lies
  obtain ⟨c2, h2, _⟩ := h.sure.lies
  rintro (rfl | rfl | rfl)
  · exact h.obj.ne k (by decide) rfl
  · exact h1.ne k (by decide) rfl
  · exact h2.ne k (by decide) rfl
/-- Bytes ff, and 63 times 0. -/
def ff : List Int := 255 :: List.replicate 63 0
theorem ff_sec : Sec ff := ⟨by simp [ff], fun z hz => by
  rcases List.mem_cons.1 hz with rfl | h
  · omega
  · have := List.eq_of_mem_replicate h; omega⟩
/-- The disk behind awake's calls. -/
def aw : St := ((fresh 1).write 0 ff).crashed [15]
theorem aw_err : (fresh 1).writeErr 0 64 = 0 := by decide
theorem aw_read : (aw.read 0).2 = 0 ∧ (aw.read 0).1.length = 64 ∧ (aw.read 0).1.getD 0 0 = 15 := by decide +kernel

set_option maxRecDepth 100000 in
theorem awake_any (w : World) : Calls Try.prog 15 #[] w fun e w' => e = .returned (.bool true) ∧ Below w.heap.size w w' := by
  obtain ⟨z, hmk, hz⟩ : ∃ z, (∀ w : World, (Instr.makeSlice 28 (.int .i64 64) (.int .i64 64)).run Try.prog w = .ok (.slice (some ⟨w.heap.size, 0, none⟩) 64 64) (w.alloc (.cells z 5))) ∧ z = (bcells zero).toArray := ⟨_, run_make_bytes, rfl⟩
  have hff : z.setIfInBounds 0 (.int .u8 255) = (bcells ff).toArray := by rw [hz]; rfl
  have HF := Lib.hid hff
  have z0 : z[0]? = some (.int .u8 0) := by rw [hz]; rfl
  clear hz hff
  go_enter Try.func15, Try.ntmps15
  go_wp2_with fail
  refine (new_any 1 _).mono ?_
  rintro e w1 ⟨d, rfl, hn, hf, h1, b1⟩
  rw [show sizeOf 1 = 1 from rfl] at h1 hn
  have hk := Blk.Is.new w1 5 (z.setIfInBounds 0 (.int .u8 255))
  have h2 := h1.below ((Below.refl _ _).alloc (Nat.le_refl _) (.cells (z.setIfInBounds 0 (.int .u8 255)) 5))
  have hr : Row (w1.alloc (.cells (z.setIfInBounds 0 (.int .u8 255)) 5)) (some ⟨w1.heap.size, 0, none⟩) 64 ff := by
    refine Row.ofIs hk 0 64 ff ff_sec.len (by omega) ff_sec.byt fun j hj => ?_
    have := bcells_at ff j (by rw [ff_sec.len]; exact hj)
    rw [HF.out, Nat.zero_add]; simpa using this
  have ha := h2.notBytes hk
  have b2 : Below w.heap.size w (w1.alloc (.cells (z.setIfInBounds 0 (.int .u8 255)) 5)) := b1.alloc b1.size _
  have H2 := Lib.hid h2
  have HR := Lib.hid hr
  clear h1 hn h2 hr hk b1
  go_wp2_with fail
  refine (write_any d (fresh 1) 0 _ 64 64 ff _ H2.out (by show 0 < _; decide) HR.out (by intro b off e; cases e; exact ha)).mono ?_
  rintro e w2 ⟨rfl, h3, c3⟩
  rw [aw_err]
  have b3 : Below w.heap.size w w2 := b2.trans (c3.below (fun k hk => hf.has hk) b2.size)
  obtain ⟨s1, hs1⟩ : ∃ s, (fresh 1).write 0 ff = s := ⟨_, rfl⟩
  rw [hs1] at h3
  have S1 := Lib.hid hs1
  have h4 := h3.below ((Below.refl _ _).alloc (Nat.le_refl _) (.cells #[.int .u8 15] 5))
  have hk := Blk.Is.new w2 5 #[.int .u8 15]
  have ha' := h4.notBytes hk
  have hr : Row (w2.alloc (.cells #[.int .u8 15] 5)) (some ⟨w2.heap.size, 0, none⟩) 1 [15] := by
    refine Row.ofIs hk 0 1 [15] rfl (by omega) (by intro z hz; simp at hz; omega) fun j hj => ?_
    obtain rfl : j = 0 := by omega
    rfl
  have b4 : Below w.heap.size w (w2.alloc (.cells #[.int .u8 15] 5)) := b3.alloc b3.size _
  have H4 := Lib.hid h4
  have HR4 := Lib.hid hr
  clear h3 h4 hr hk c3 hs1 b2 b3
  go_wp2_with fail
  refine (crash_any d s1 _ 1 1 [15] _ H4.out HR4.out (Nat.le_refl _) (by intro _ x e; cases e; exact ha') (by intro e; cases e)).mono ?_
  rintro e w3 ⟨rfl, h5, c5⟩
  rw [← S1.out] at h5
  have h5 : At w3 d aw := h5
  have b5 : Below w.heap.size w w3 := b4.trans (c5.below (fun k hk => hf.has hk) b4.size)
  have H5 := Lib.hid h5
  clear h5 c5 b4
  go_wp2_with fail
  refine (read_any d aw 0 _ H5.out).mono ?_
  rintro e w4 ⟨v, rfl, hm, b6⟩
  obtain ⟨r0, r1, r2⟩ := aw_read
  rw [r0]
  have b7 := b5.trans (b6.mono b5.size)
  obtain ⟨n, a, cap, rfl, hcap, hlen, hrow⟩ := hm.rows
  obtain rfl : n = 64 := by omega
  obtain ⟨b, off, rfl, _, hcell⟩ := hrow.cells (by omega)
  have c0 := hcell 0 (by omega)
  rw [r2, Nat.add_zero] at c0
  clear hm hrow hcell r0 r1 r2 hlen H5
  go_wp2
  go_ret
  exact ⟨rfl, b7⟩
end Disk
end Go.Proofs.Ythjilmeaaghpaaa

/-
The two disks side by side: what each call of a script makes of both.
-/
import Derived.Test.YthjilmeaaghpaaaRefCrash
import Derived.Test.YthjilmeaaghpaaaDiskNewCopy
namespace Go.Proofs.Ythjilmeaaghpaaa
open Go.RowKit
set_option linter.unusedVariables false
namespace Pair
open Disk (Sec Secs St hasB)
open Ref (Rk)

/-- The program's state and the reference's say the same. -/
structure Like (d r : St) : Prop where
  now : d.now = r.now
  sure : d.sure = r.sure
  calls : d.calls = r.calls
  off : d.off = r.off
  fuse : d.off = false → d.fuse = r.fuse
theorem Like.read {d r : St} (h : Like d r) (i : Int) : d.read i = r.read i := by
  unfold St.read; rw [h.now, h.off]
theorem Like.count {d r : St} (h : Like d r) (h0 : 0 ≤ d.fuse) : Like d.count r.call := by
  obtain ⟨h1, h2, h3, h4, h5⟩ := h
  cases ho : d.off with
  | true =>
    have hr : r.off = true := by rw [← h4, ho]
    refine ⟨?_, ?_, ?_, ?_, ?_⟩
    · simp [St.count, St.call, hr, h1]
    · simp [St.count, St.call, hr, h2]
    · simp [St.count, St.call, hr, h3]
    · simp [St.count, St.call, hr, ho]
    · simp [St.count, ho]
  | false =>
    have hr : r.off = false := by rw [← h4, ho]
    have hf := h5 ho
    refine ⟨?_, ?_, ?_, ?_, ?_⟩
    · simp [St.count, St.call, hr, h1]
    · simp [St.count, St.call, hr, h2]
    · simp [St.count, St.call, hr, h3]
    · simp [St.count, St.call, hr, ho, hf]
    · intro _
      simp only [St.count, St.call, hr, Bool.false_eq_true, if_false, hf]
      rw [hf] at h0
      split <;> omega
theorem Like.write {d r : St} (h : Like d r) (h0 : 0 ≤ d.fuse) (i : Int) (zs : List Int) : Like (d.write i zs) (Ref.refWrite r i zs) := by
  have hc := h.count h0
  unfold St.write Ref.refWrite
  rw [h.off, h.now]
  split
  · exact ⟨by show (d.count.put i zs).now = (r.call.put i zs).now; rw [St.put, St.put, hc.now], hc.sure, hc.calls, hc.off, hc.fuse⟩
  · exact hc
theorem Like.writeErr {d r : St} (h : Like d r) (i : Int) (n : Nat) : d.writeErr i n = r.writeErr i n := by
  rw [Ref.writeErr_eq, Ref.writeErr_eq, h.off, h.now]
  unfold Ref.callLast
  rw [h.off]
  cases ho : r.off
  · rw [h.fuse (by rw [h.off, ho])]
  · simp
theorem Like.flushErr {d r : St} (h : Like d r) : d.flushErr = r.flushErr := by
  rw [Ref.flushErr_eq, Ref.flushErr_eq, h.off]
  unfold Ref.callLast
  rw [h.off]
  cases ho : r.off
  · rw [h.fuse (by rw [h.off, ho])]
  · simp
theorem Like.flush {d r : St} (h : Like d r) (h0 : 0 ≤ d.fuse) : Like d.flush (Ref.refFlush r) := by
  have hc := h.count h0
  have e : d.count.off = (r.off || Ref.callLast r) := by
    rw [hc.off]
    unfold St.call Ref.callLast
    cases ho : r.off
    · by_cases e : r.fuse = 1 <;> simp [e]
    · simp
  unfold St.flush Ref.refFlush
  rw [e]
  split
  · exact hc
  · exact ⟨hc.now, hc.now, hc.calls, hc.off, hc.fuse⟩
theorem Like.fuseSet {d r : St} (h : Like d r) (n : Int) : Like { d with fuse := n } { r with fuse := n } := ⟨h.now, h.sure, h.calls, h.off, fun _ => rfl⟩
theorem Like.crash {d r : St} (h : Like d r) (p : List Int) : Like (d.crashed p) (r.crashed p) := by
  obtain ⟨h1, h2, h3, h4, h5⟩ := h
  have e : (d.crashed p).now = (r.crashed p).now := by
    simp only [St.crashed, St.flushed, St.crashTo, h1, h2]
  refine ⟨e, ?_, ?_, rfl, fun _ => rfl⟩
  · simp only [St.crashed, St.flushed, St.crashTo, h1, h2]
  · simpa [St.crashed, St.flushed, St.crashTo] using h3
theorem like_fresh (n : Nat) : Like (Disk.fresh n) (Disk.fresh n) := ⟨rfl, rfl, rfl, rfl, fun _ => rfl⟩

/-- The bytes of a script's sector. -/
def full (b : Int) : List Int := (List.range 64).map fun (k : Nat) => (b + (k : Int)) % 256
def secLen (sh : Bool) : Nat := if sh then 5 else 64
def secBytes (b : Int) (sh : Bool) : List Int := (full b).take (secLen sh)
theorem full_len (b : Int) : (full b).length = 64 := by simp [full]
theorem full_at (b : Int) {k : Nat} (hk : k < 64) : (full b).getD k 0 = (b + (k : Int)) % 256 := by simp [full, hk]
theorem full_byte (b : Int) : Byte (full b) := by
  intro z hz
  obtain ⟨k, _, rfl⟩ := List.mem_map.1 hz
  omega
theorem secLen_le (sh : Bool) : secLen sh ≤ 64 := by cases sh <;> simp [secLen]
/-- What sector hands back. -/
def SecOf (b : Int) (sh : Bool) (w : World) (e : Ending) (w' : World) : Prop :=
  ∃ a : Nat, e = .returned (.slice (some ⟨a, 0, none⟩) (secLen sh) 64) ∧ Row w' (some ⟨a, 0, none⟩) (secLen sh) (secBytes b sh) ∧ (∃ cs, Blk.Is w' a 5 cs) ∧ w.heap.size ≤ a ∧ Below w.heap.size w w'
set_option maxRecDepth 100000 in
theorem sector_any (v0 v1 v4 : Value) (b : Int) (sh : Bool) (w : World) (hb : 0 ≤ b ∧ b < 256) :
    Calls Try.prog 23 #[.agg #[v0, v1, .int .u8 b, .bool sh, v4]] w fun e w' => SecOf b sh w e w' := by
  obtain ⟨z, hmk, hzz⟩ : ∃ z, (∀ w : World, (Instr.makeSlice 28 (.int .i64 64) (.int .i64 64)).run Try.prog w = .ok (.slice (some ⟨w.heap.size, 0, none⟩) 64 64) (w.alloc (.cells z 5))) ∧ z = (bcells Disk.zero).toArray := ⟨_, Disk.run_make_bytes, rfl⟩
  obtain ⟨hb0, hb1⟩ := hb
  have hz0 : z = (bcells (Ref.fillTo (full b) Disk.zero 0)).toArray := by rw [Ref.fillTo_zero, hzz]
  have F0 : Blk.Is ((w.alloc (.cells #[v0, v1, .int .u8 b, .bool sh, v4] 30)).alloc (.cells z 5)) w.heap.size 30 #[v0, v1, .int .u8 b, .bool sh, v4] := (Blk.Is.new w _ _).alloc _
  have F1 : Blk.Is ((w.alloc (.cells #[v0, v1, .int .u8 b, .bool sh, v4] 30)).alloc (.cells z 5)) (w.heap.size + 1) 5 z := by
    have := Blk.Is.new (w.alloc (.cells #[v0, v1, .int .u8 b, .bool sh, v4] 30)) 5 z
    rwa [World.size_alloc] at this
  have FB : Below w.heap.size w ((w.alloc (.cells #[v0, v1, .int .u8 b, .bool sh, v4] 30)).alloc (.cells z 5)) := ((Below.refl _ _).alloc (Nat.le_refl _) _).alloc (by simp) _
  have HZ0 := Lib.hid hz0
  have HF0 := Lib.hid F0
  have HF1 := Lib.hid F1
  have HFB := Lib.hid FB
  clear F0 F1 FB hz0 hzz
  go_enter Try.func23, Try.ntmps23
  go_wp2_with fail
  go_loopw [8] (fun i u => ∃ k : Nat, k ≤ 64 ∧ i = .int .i64 k ∧ Below w.heap.size w u ∧ Blk.Is u w.heap.size 30 #[v0, v1, .int .u8 b, .bool sh, v4] ∧ Blk.Is u (w.heap.size + 1) 5 (bcells (Ref.fillTo (full b) Disk.zero k)).toArray) (fun i _ => 64 - (intOf i).toNat)
  case atStart => exact ⟨0, by omega, rfl, HFB.out, HF0.out, by rw [← HZ0.out]; exact HF1.out⟩
  case round =>
    obtain ⟨k, hk, rfl, hbl, h1, h2⟩ := hrel
    clear HF0 HF1 HFB
    have c2 := h1.at (i := 2) rfl
    have c3 := h1.at (i := 3) rfl
    have H1 := Lib.hid h1
    have H2 := Lib.hid h2
    have HB := Lib.hid hbl
    clear h1 hbl
    by_cases hlt : k < 64
    · have r6 : ∃ v6, wr.cell? ⟨w.heap.size + 1, k, none⟩ = some v6 := ⟨_, h2.at (Ref.bcells_toArray_at _ k (by rw [Ref.fillTo_len (full_len b) Disk.zero_sec.len k hk]; exact hlt))⟩
      have r7 := h2.free k
      obtain ⟨v6, r6⟩ := r6
      clear h2
      have hnext : (bcells (Ref.fillTo (full b) Disk.zero k)).toArray.setIfInBounds k (.int .u8 ((b + (k : Int)) % 256)) = (bcells (Ref.fillTo (full b) Disk.zero (k + 1))).toArray := by
        rw [← Ref.fillTo_succ (full_len b) Disk.zero_sec.len hlt, full_at b hlt]
        apply Array.ext'
        simp [bcells, List.map_set]
      have HN := Lib.hid hnext
      clear hnext
      go_wp2_with fail
      go_roundw
      case rel =>
        refine ⟨k + 1, by omega, by go_num, HB.out.setCell (by show w.heap.size ≤ w.heap.size + 1; omega) _, H1.out.setOther _ (by show w.heap.size ≠ w.heap.size + 1; omega), ?_⟩
        rw [← HN.out]; exact H2.out.set k _
      case measure => simp [intOf]; omega
    · obtain rfl : k = 64 := by omega
      have hrow : ∀ n, n ≤ 64 → Row wr (some ⟨w.heap.size + 1, 0, none⟩) n ((full b).take n) := fun n hn => by
        have h := H2.out
        rw [Ref.fillTo_all (full_len b) Disk.zero_sec.len] at h
        refine (Row.ofIs h 0 64 (full b) (full_len b) (by omega) (full_byte b) fun j hj => ?_).take n hn
        rw [Nat.zero_add]
        exact Ref.bcells_toArray_at _ j (by rw [full_len]; exact hj)
      have HR := Lib.hid hrow
      clear hrow h2
      cases sh
      · go_wp2
        go_ret
        exact ⟨w.heap.size + 1, rfl, HR.out 64 (Nat.le_refl _), ⟨_, H2.out⟩, by omega, HB.out⟩
      · go_wp2
        go_ret
        exact ⟨w.heap.size + 1, rfl, HR.out 5 (by omega), ⟨_, H2.out⟩, by omega, HB.out⟩
end Pair
end Go.Proofs.Ythjilmeaaghpaaa

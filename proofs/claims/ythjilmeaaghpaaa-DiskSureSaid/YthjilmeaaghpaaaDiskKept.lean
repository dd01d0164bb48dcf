/-
What a crash keeps: the sectors that were not written since the flush; of the one that was, bit by bit, the old or the new.
-/
import Derived.Test.YthjilmeaaghpaaaDiskScript
namespace Go.Proofs.Ythjilmeaaghpaaa
open Go.RowKit
set_option linter.unusedVariables false
namespace Disk

theorem ofInt8 (x : BitVec 8) : BitVec.ofInt 8 ((x.toNat : Nat) : Int) = x := by
  rw [BitVec.ofInt_natCast]; simp
theorem xor8 (a b : Int) : bits .xor .u8 a b = ((BitVec.ofInt 8 a ^^^ BitVec.ofInt 8 b).toNat : Int) := by
  show IntKind.u8.wrap ((BitVec.ofInt 8 a ^^^ BitVec.ofInt 8 b).toNat : Int) = _
  have := (BitVec.ofInt 8 a ^^^ BitVec.ofInt 8 b).isLt
  rw [IntKind.wrap_u8]; omega
theorem and8 (a b : Int) : bits .and .u8 a b = ((BitVec.ofInt 8 a &&& BitVec.ofInt 8 b).toNat : Int) := by
  show IntKind.u8.wrap ((BitVec.ofInt 8 a &&& BitVec.ofInt 8 b).toNat : Int) = _
  have := (BitVec.ofInt 8 a &&& BitVec.ofInt 8 b).isLt
  rw [IntKind.wrap_u8]; omega
theorem or8 (a b : Int) : bits .or .u8 a b = ((BitVec.ofInt 8 a ||| BitVec.ofInt 8 b).toNat : Int) := by
  show IntKind.u8.wrap ((BitVec.ofInt 8 a ||| BitVec.ofInt 8 b).toNat : Int) = _
  have := (BitVec.ofInt 8 a ||| BitVec.ofInt 8 b).isLt
  rw [IntKind.wrap_u8]; omega
theorem andNot8 (a b : Int) : bits .andNot .u8 a b = ((BitVec.ofInt 8 a &&& ~~~ BitVec.ofInt 8 b).toNat : Int) := by
  show IntKind.u8.wrap ((BitVec.ofInt 8 a &&& ~~~ BitVec.ofInt 8 b).toNat : Int) = _
  have := (BitVec.ofInt 8 a &&& ~~~ BitVec.ofInt 8 b).isLt
  rw [IntKind.wrap_u8]; omega
theorem old_or_new_bits (o n p : Int) : bits .and .u8 (bits .xor .u8 (mixb o n p) o) (bits .xor .u8 (mixb o n p) n) = 0 := by
  unfold mixb
  rw [or8, andNot8, and8, xor8, xor8, and8]
  simp only [ofInt8]
  generalize BitVec.ofInt 8 o = a
  generalize BitVec.ofInt 8 n = b
  generalize BitVec.ofInt 8 p = c
  have : ((a &&& ~~~c ||| b &&& c) ^^^ a) &&& ((a &&& ~~~c ||| b &&& c) ^^^ b) = 0#8 := by
    apply BitVec.eq_of_getLsbD_eq
    intro i hi
    simp only [BitVec.getLsbD_and, BitVec.getLsbD_xor, BitVec.getLsbD_or, BitVec.getLsbD_not, BitVec.getLsbD_zero, hi, decide_true, Bool.true_and]
    cases a.getLsbD i <;> cases b.getLsbD i <;> cases c.getLsbD i <;> rfl
  rw [this]; rfl
theorem same_bits (o n : Int) : bits .and .u8 (bits .xor .u8 o o) (bits .xor .u8 o n) = 0 := by
  rw [xor8, xor8, and8]
  simp only [ofInt8, BitVec.xor_self]
  simp

theorem crashN_at (sure now : List (List Int)) (p : List Int) (j : Nat) (k : Nat) :
    (crashN sure now p k).1.length = now.length ∧ (now.getD j [] = sure.getD j [] → (crashN sure now p k).1.getD j [] = sure.getD j []) ∧
      (k ≤ j → (crashN sure now p k).1.getD j [] = now.getD j []) ∧
      (j < k → j < now.length → (crashN sure now p k).1.getD j [] = sure.getD j [] ∨ ∃ q, (crashN sure now p k).1.getD j [] = mix (sure.getD j []) (now.getD j []) (pick q)) := by
  induction k with
  | zero => exact ⟨rfl, fun h => h, fun _ => rfl, fun h => by omega⟩
  | succ k ih =>
    obtain ⟨h1, h2, h3, h4⟩ := ih
    rw [crashN, crashStep]
    split
    · rename_i he
      refine ⟨h1, h2, fun h => h3 (by omega), fun hj hl => ?_⟩
      by_cases hjk : j = k
      · subst hjk; exact .inl he
      · exact h4 (by omega) hl
    · rename_i he
      have hset : ∀ r, j ≠ k → ((crashN sure now p k).1.set k r).getD j [] = (crashN sure now p k).1.getD j [] := fun r hjk => by
        simp [List.getD, List.getElem?_set_ne (Ne.symm hjk)]
      refine ⟨by simp [h1], fun h => ?_, fun h => ?_, fun hj hl => ?_⟩
      · have hjk : j ≠ k := by rintro rfl; exact he (h2 h)
        rw [hset _ hjk]; exact h2 h
      · rw [hset _ (by omega)]; exact h3 (by omega)
      · by_cases hjk : j = k
        · subst hjk
          right
          refine ⟨(crashN sure now p j).2, ?_⟩
          have e := h3 (Nat.le_refl _)
          rw [e]
          simp [List.getD, h1, hl]
        · rw [hset _ hjk]; exact h4 (by omega) hl

/-- No fuse burns and the power is on. -/
structure Unlit (s : St) : Prop where
  off : s.off = false
  fuse : s.fuse = 0
theorem Unlit.count {s : St} (h : Unlit s) : Unlit s.count := by
  obtain ⟨h1, h2⟩ := h
  exact ⟨by simp [St.count, h1, h2], by simp [St.count, h2]⟩
theorem Unlit.write {s : St} (h : Unlit s) (i : Int) (zs : List Int) : Unlit (s.write i zs) := by
  have := h.count
  unfold St.write
  split
  · exact ⟨this.off, this.fuse⟩
  · exact this
theorem Unlit.flush {s : St} (h : Unlit s) : s.flushErr = 0 ∧ Unlit s.flush ∧ s.flush.sure = s.flush.now := by
  have := h.count
  unfold St.flushErr St.flush
  simp only [this.off]
  exact ⟨rfl, ⟨this.off, this.fuse⟩, rfl⟩

/-- s is what was flushed, t what is there behind a write at A and a crash. -/
structure Kept (s t : St) (A : Nat) (n : List Int) : Prop where
  off : t.off = false
  same : ∀ j, j < 4 → j ≠ A → t.now.getD j [] = s.now.getD j []
  bit : ∀ k, k < 64 → bits .and .u8 (bits .xor .u8 ((t.now.getD A []).getD k 0) ((s.now.getD A []).getD k 0)) (bits .xor .u8 ((t.now.getD A []).getD k 0) (n.getD k 0)) = 0
theorem mix_at (a b p : List Int) {k : Nat} (hk : k < 64) : (mix a b p).getD k 0 = mixb (a.getD k 0) (b.getD k 0) (p.getD k 0) := by
  simp [mix, hk]
theorem kept_of {s : St} (hc : Unlit s) (he : s.sure = s.now) (hl : s.now.length = 4) (A : Nat) (hA : A < 4) (n : List Int) (hn : n.length = 64) (p : List Int) :
    s.writeErr A 64 = 0 ∧ Kept s ((s.write A n).crashed p) A n := by
  have hco := hc.count.off
  have hb : hasB (A : Int) s.now.length = true := by simp [hasB, hl]; omega
  have hw : s.write A n = s.count.put A n := by unfold St.write; simp [hc.off, hb, hn]
  have hnow : (s.write A n).now = s.now.set A n := by rw [hw]; simp [St.put, St.count]
  have hsure : (s.write A n).sure = s.now := by rw [hw]; simp [St.put, St.count, he]
  refine ⟨by unfold St.writeErr; simp [hco, hb], rfl, fun j hj hne => ?_, fun k hk => ?_⟩
  · show (crashN (s.write A n).sure (s.write A n).now p (s.write A n).now.length).1.getD j [] = _
    rw [hnow, hsure]
    refine (crashN_at s.now (s.now.set A n) p j _).2.1 ?_
    simp [List.getD, List.getElem?_set_ne (Ne.symm hne)]
  · show bits .and .u8 (bits .xor .u8 (((crashN (s.write A n).sure (s.write A n).now p (s.write A n).now.length).1.getD A []).getD k 0) _) (bits .xor .u8 (((crashN (s.write A n).sure (s.write A n).now p (s.write A n).now.length).1.getD A []).getD k 0) _) = 0
    rw [hnow, hsure]
    have hlen : (s.now.set A n).length = 4 := by simp [hl]
    have hat : (s.now.set A n).getD A [] = n := by simp [List.getD, hl, hA]
    rcases (crashN_at s.now (s.now.set A n) p A (s.now.set A n).length).2.2.2 (by omega) (by omega) with h | ⟨q, h⟩
    · rw [h]; exact same_bits _ _
    · rw [h, hat, mix_at _ _ _ hk]; exact old_or_new_bits _ _ _
theorem Kept.read {s t : St} {A : Nat} {n : List Int} (h : Kept s t A n) {m : Nat} (hm : t.now.length = m) {j : Nat} (hj : j < m) : t.read j = (t.now.getD j [], 0) := by
  unfold St.read
  have hb : hasB (j : Int) t.now.length = true := by simp [hasB, hm]; omega
  simp [h.off, hb]
end Disk
end Go.Proofs.Ythjilmeaaghpaaa

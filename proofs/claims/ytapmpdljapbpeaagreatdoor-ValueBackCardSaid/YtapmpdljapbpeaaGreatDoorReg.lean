/-
A region that draws its order: whatever class of worlds its first operations keep, its last ones in the order of the text. No program is named here.
-/
import Derived.StillTail
import Derived.BigQuiet
import Derived.Deep.MidRow
import Derived.Below
namespace Go.Proofs.YtapmpdljapbpeaaGreatDoor
open Go.RowKit
namespace Reg
section
variable {P : Program} {ops : Array Oper} {md : Region.Mode} {C : World → Prop}

/-! ### phases: some operations are done, the first k -/
def upTo (size k : Nat) : Array Bool := Array.ofFn (n := size) fun i => decide (i.val < k)
theorem upTo_set (s k : Nat) : (upTo s k).setIfInBounds k true = upTo s (k + 1) := by
  apply Array.ext
  · simp [upTo]
  · intro i h1 h2
    have hi : i < s := by simpa [upTo] using h2
    rw [Array.getElem_setIfInBounds (by simpa using h1)]
    by_cases e : k = i
    · subst e; simp [upTo]
    · rw [if_neg e]; simp only [upTo, Array.getElem_ofFn]
      rw [decide_eq_decide]; omega
/-- The region from its k-th operation on, whatever order is drawn: those ahead are done. -/
def From (P : Program) (l : List Oper) (Q : Exit → Act → World → Prop) (k : Nat) (a : Act) (w : World) : Prop := wpAny P .any l.toArray Q (l.length - k) (upTo l.length k) a w
/-- What follows the n-th operation. -/
def mid (P : Program) (l : List Oper) (Q : Exit → Act → World → Prop) (n : Nat) : Exit → Act → World → Prop
  | .normal, a, w => From P l Q n a w
  | e, a, w => Q e a w
theorem LetsOut.ofMid {Q : Exit → Act → World → Prop} {l : List Oper} {n : Nat} (h : LetsOut (mid P l Q n)) : LetsOut Q := by
  obtain ⟨a, w, h⟩ := h; exact ⟨a, w, h⟩
theorem upon_mid {Q : Exit → Act → World → Prop} {l : List Oper} {n : Nat} {o : Oper} {a : Act} {K : Act → World → Prop} {r : Result Next} (h : o.upon P a K (mid P l Q n) r) : o.upon P a K Q r := by
  cases r with
  | ok x w' =>
    cases x <;> simp only [Oper.upon] at h ⊢
    case enter f args =>
      refine Calls.mono h fun e w'' he => ?_
      cases e with
      | returned v => exact he
      | panicked c => exact he
      | outgrown => exact LetsOut.ofMid he
    all_goals exact h
  | halt x w' =>
    cases x <;> simp only [Oper.upon] at h ⊢
    all_goals exact h
/-- The n-th alone may come up: whatever it does. -/
theorem From.op {Q : Exit → Act → World → Prop} {a : Act} {w : World} {l : List Oper} (n : Nat) (hB : decide (Region.ready .any l.toArray (upTo l.length n) = [n] ∧ n < l.length) = true)
    (h : wpList P l.toArray (mid P l Q (n + 1)) ((l.drop n).take 1) a w) : From P l Q n a w := by
  obtain ⟨hr, hn⟩ := of_decide_eq_true hB
  have h0 : l.toArray[n]? = some l[n] := by simp [hn]
  have hd : (l.drop n).take 1 = [l[n]] := by rw [List.drop_eq_getElem_cons hn]; rfl
  rw [hd] at h
  unfold From
  rw [show l.length - n = (l.length - (n + 1)) + 1 by omega]
  refine ⟨fun h1 => (by rw [hr] at h1; cases h1), fun i hi => ?_⟩
  rw [hr] at hi
  have hin : i = n := by simpa using hi
  subst hin
  unfold wpOp
  simp only [h0]
  simp only [wpList] at h
  split
  · rename_i hw
    rw [if_pos hw] at h
    rw [upTo_set]
    rcases h with h | ⟨h1, h2⟩
    · exact .inl (upon_mid h)
    · exact .inr ⟨h1, LetsOut.ofMid h2⟩
  · rename_i hw
    rw [if_neg hw] at h
    rw [upTo_set]
    exact h
end
section
variable {P : Program} {ops : Array Oper} {md : Region.Mode} {C : World → Prop}

/-- One operation, whatever it does, with what is to hold behind it. -/
def midK (K : Act → World → Prop) (Q : Exit → Act → World → Prop) : Exit → Act → World → Prop
  | .normal, a, w => K a w
  | e, a, w => Q e a w
theorem LetsOut.ofMidK {Q : Exit → Act → World → Prop} {K : Act → World → Prop} (h : LetsOut (midK K Q)) : LetsOut Q := by
  obtain ⟨a, w, h⟩ := h; exact ⟨a, w, h⟩
theorem upon_midK {Q : Exit → Act → World → Prop} {K K' : Act → World → Prop} {o : Oper} {a : Act} {r : Result Next} (h : o.upon P a K' (midK K Q) r) : o.upon P a K' Q r := by
  cases r with
  | ok x w' =>
    cases x <;> simp only [Oper.upon] at h ⊢
    case enter f args =>
      refine Calls.mono h fun e w'' he => ?_
      cases e with
      | returned v => exact he
      | panicked c => exact he
      | outgrown => exact LetsOut.ofMidK he
    all_goals exact h
  | halt x w' =>
    cases x <;> simp only [Oper.upon] at h ⊢
    all_goals exact h
theorem wpOp_list {i : Nat} {o : Oper} {Q : Exit → Act → World → Prop} {K : Act → World → Prop} {a : Act} {w : World} (ho : ops[i]? = some o) (h : wpList P ops (midK K Q) [o] a w) : wpOp P ops Q i K a w := by
  unfold wpOp
  simp only [ho]
  simp only [wpList] at h
  split
  · rename_i hw
    rw [if_pos hw] at h
    rcases h with h | ⟨h1, h2⟩
    · exact .inl (upon_midK h)
    · exact .inr ⟨h1, LetsOut.ofMidK h2⟩
  · rename_i hw
    rw [if_neg hw] at h
    exact h
end
end Reg
end Go.Proofs.YtapmpdljapbpeaaGreatDoor

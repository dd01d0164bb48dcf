/-
Clauses as lists of numbers: tidied, added, the pairs of at most one, what holds. No program is named here.
-/
import Derived.WalkKit
namespace Go.Proofs.Ytlpahomaokopoaa
set_option linter.unusedSimpArgs false
set_option linter.unusedVariables false
namespace Cn
/-- A number of 64 bits. -/
def I64 (x : Int) : Prop := -9223372036854775808 ≤ x ∧ x ≤ 9223372036854775807
def Lz (l : List Int) : Prop := ∀ x ∈ l, I64 x
/-- A clause that always holds, or has 0: some literal's denial is there. -/
def bad (c : List Int) : Bool := c.any fun x => c.any fun y => decide (y = -x)
theorem bad_iff {c : List Int} : bad c = true ↔ ∃ x, x ∈ c ∧ -x ∈ c := by
  unfold bad
  simp only [List.any_eq_true, decide_eq_true_eq]
  constructor
  · rintro ⟨x, hx, y, hy, rfl⟩; exact ⟨x, hx, hy⟩
  · rintro ⟨x, hx, hy⟩; exact ⟨x, hx, _, hy, rfl⟩
theorem bad_no {c : List Int} : bad c = false ↔ ∀ x, x ∈ c → -x ∉ c := by
  rw [← Bool.not_eq_true, bad_iff]
  constructor
  · intro h x hx hn; exact h ⟨x, hx, hn⟩
  · rintro h ⟨x, hx, hn⟩; exact h x hx hn
/-- By their variables, rising. -/
def Up (l : List Int) : Prop := l.Pairwise fun a b => a.natAbs < b.natAbs
theorem up_uniq : ∀ {l r : List Int}, Up l → Up r → (∀ x, x ∈ l ↔ x ∈ r) → l = r
  | [], [], _, _, _ => rfl
  | [], b :: r, _, _, h => by have := (h b).2 (by simp); simp at this
  | a :: l, [], _, _, h => by have := (h a).1 (by simp); simp at this
  | a :: l, b :: r, hl, hr, h => by
    unfold Up at hl hr
    rw [List.pairwise_cons] at hl hr
    have hab : a = b := by
      have h1 := (h a).1 (by simp)
      have h2 := (h b).2 (by simp)
      rcases List.mem_cons.1 h1 with h1 | h1
      · exact h1
      rcases List.mem_cons.1 h2 with h2 | h2
      · exact h2.symm
      have := hl.1 b h2
      have := hr.1 a h1
      omega
    subst hab
    rw [up_uniq (l := l) (r := r) hl.2 hr.2 (fun x => by
      constructor
      · intro hx
        have h1 := (h x).1 (List.mem_cons_of_mem _ hx)
        rcases List.mem_cons.1 h1 with h1 | h1
        · subst h1; have := hl.1 x hx; omega
        · exact h1
      · intro hx
        have h1 := (h x).2 (List.mem_cons_of_mem _ hx)
        rcases List.mem_cons.1 h1 with h1 | h1
        · subst h1; have := hr.1 x hx; omega
        · exact h1)]
def ins (x : Int) : List Int → List Int
  | [] => [x]
  | y :: r => if y.natAbs < x.natAbs then y :: ins x r else if y = x then y :: r else x :: y :: r
theorem mem_ins {x z : Int} : ∀ {l : List Int}, z ∈ ins x l ↔ z = x ∨ z ∈ l
  | [] => by simp [ins]
  | y :: r => by
    unfold ins
    by_cases h1 : y.natAbs < x.natAbs
    · rw [if_pos h1, List.mem_cons, mem_ins, List.mem_cons]
      constructor
      · rintro (h | h | h)
        · exact .inr (.inl h)
        · exact .inl h
        · exact .inr (.inr h)
      · rintro (h | h | h)
        · exact .inr (.inl h)
        · exact .inl h
        · exact .inr (.inr h)
    · rw [if_neg h1]
      by_cases h2 : y = x
      · subst h2; rw [if_pos rfl]; simp
      · rw [if_neg h2]; simp
theorem up_ins {x : Int} : ∀ {l : List Int}, Up l → -x ∉ l → Up (ins x l)
  | [], _, _ => by simp [ins, Up]
  | y :: r, hl, hn => by
    unfold Up at hl
    rw [List.pairwise_cons] at hl
    unfold ins
    by_cases h1 : y.natAbs < x.natAbs
    · rw [if_pos h1]
      unfold Up
      rw [List.pairwise_cons]
      refine ⟨fun z hz => ?_, up_ins hl.2 (fun h => hn (List.mem_cons_of_mem _ h))⟩
      rcases mem_ins.1 hz with h | h
      · subst h; exact h1
      · exact hl.1 z h
    · rw [if_neg h1]
      by_cases h2 : y = x
      · subst h2; rw [if_pos rfl]; exact List.pairwise_cons.2 hl
      · rw [if_neg h2]
        have h3 : y ≠ -x := fun h => hn (by rw [h]; simp)
        have h4 : x.natAbs < y.natAbs := by omega
        unfold Up
        rw [List.pairwise_cons, List.pairwise_cons]
        refine ⟨fun z hz => ?_, hl⟩
        rcases List.mem_cons.1 hz with h | h
        · subst h; exact h4
        · have := hl.1 z h; omega
/-- Tidied, where nothing is bad. -/
def tid (c : List Int) : List Int := c.foldr ins []
theorem mem_tid {z : Int} : ∀ {c : List Int}, z ∈ tid c ↔ z ∈ c
  | [] => by simp [tid]
  | x :: c => by
    show z ∈ ins x (tid c) ↔ _
    rw [mem_ins, mem_tid, List.mem_cons]
theorem bad_tail {x : Int} {c : List Int} (h : bad (x :: c) = false) : bad c = false ∧ -x ∉ c := by
  rw [bad_no] at h
  refine ⟨bad_no.2 fun y hy hn => h y (List.mem_cons_of_mem _ hy) (List.mem_cons_of_mem _ hn), fun hn => h x (by simp) (List.mem_cons_of_mem _ hn)⟩
theorem up_tid : ∀ {c : List Int}, bad c = false → Up (tid c)
  | [], _ => List.Pairwise.nil
  | x :: c, h => by
    obtain ⟨h1, h2⟩ := bad_tail h
    exact up_ins (up_tid h1) (fun hn => h2 (mem_tid.1 hn))
theorem tid_of {c r : List Int} (hb : bad c = false) (hr : Up r) (hm : ∀ x, x ∈ r ↔ x ∈ c) : r = tid c :=
  up_uniq hr (up_tid hb) fun x => (hm x).trans mem_tid.symm
theorem bad_same {c d : List Int} (h : ∀ x, x ∈ c ↔ x ∈ d) : bad c = bad d := by
  have key : ∀ {c d : List Int}, (∀ x, x ∈ c ↔ x ∈ d) → bad c = true → bad d = true := fun h hb => by
    obtain ⟨x, h1, h2⟩ := bad_iff.1 hb
    exact bad_iff.2 ⟨x, (h _).1 h1, (h _).1 h2⟩
  cases hc : bad c with
  | true => exact (key h hc).symm
  | false =>
    cases hd : bad d with
    | false => rfl
    | true => rw [key (fun x => (h x).symm) hd] at hc; cases hc
theorem tid_same {c d : List Int} (hb : bad c = false) (h : ∀ x, x ∈ c ↔ x ∈ d) : tid c = tid d :=
  tid_of ((bad_same h).symm.trans hb) (up_tid hb) fun x => mem_tid.trans (h x)
theorem tid_lz {c : List Int} (h : Lz c) : Lz (tid c) := fun x hx => h x (mem_tid.1 hx)
theorem ins_len {x : Int} : ∀ {l : List Int}, (ins x l).length ≤ l.length + 1
  | [] => by simp [ins]
  | y :: r => by
    unfold ins
    by_cases h1 : y.natAbs < x.natAbs
    · rw [if_pos h1]; have := ins_len (x := x) (l := r); simp only [List.length_cons]; omega
    · rw [if_neg h1]
      by_cases h2 : y = x
      · rw [if_pos h2]; simp
      · rw [if_neg h2]; simp
theorem tid_len : ∀ {c : List Int}, (tid c).length ≤ c.length
  | [] => by simp [tid]
  | x :: c => by
    have h1 := ins_len (x := x) (l := tid c)
    have h2 := tid_len (c := c)
    show (ins x (tid c)).length ≤ _
    simp only [List.length_cons]; omega
/-- The clause that Tidy tells. -/
def tidy (c : List Int) : List Int := if bad c = true then [] else tid c
theorem tidy_lz {c : List Int} (h : Lz c) : Lz (tidy c) := by
  unfold tidy
  split
  · intro x hx; simp at hx
  · exact tid_lz h
theorem tidy_len {c : List Int} : (tidy c).length ≤ c.length := by
  unfold tidy
  split
  · simp
  · exact tid_len
/-- A literal of a variable. -/
def may (n : Nat) (x : Int) : Bool := decide (x ≠ 0 ∧ x.natAbs ≤ n)
def mays (n : Nat) (c : List Int) : Bool := c.all (may n)
theorem mays_iff {n : Nat} {c : List Int} : mays n c = true ↔ ∀ x ∈ c, x ≠ 0 ∧ x.natAbs ≤ n := by
  unfold mays may; rw [List.all_eq_true]; simp
def takes (n : Nat) (L : List (List Int)) (c : List Int) : Bool := decide (L.length < 5000) && mays n c
/-- Add: the clauses then, the answer. -/
def addL (L : List (List Int)) (c : List Int) : List (List Int) := if bad c = true then L else L ++ [tid c]
def adds (n : Nat) (L : List (List Int)) (c : List Int) : List (List Int) := if takes n L c = true then addL L c else L
/-- Just literals of variables. -/
def Okay (n : Nat) (L : List (List Int)) : Prop := ∀ c ∈ L, ∀ x ∈ c, x ≠ 0 ∧ x.natAbs ≤ n
theorem okay_adds {n : Nat} {L : List (List Int)} {c : List Int} (h : Okay n L) : Okay n (adds n L c) := by
  unfold adds
  split
  · rename_i ht
    unfold addL
    split
    · exact h
    · intro d hd
      rcases List.mem_append.1 hd with hd | hd
      · exact h d hd
      · have : d = tid c := by simpa using hd
        subst this
        intro x hx
        unfold takes at ht
        rw [Bool.and_eq_true] at ht
        exact mays_iff.1 ht.2 x (mem_tid.1 hx)
  · exact h
theorem okay_nil (n : Nat) : Okay n [] := fun c hc => by simp at hc
theorem adds_len {n : Nat} {L : List (List Int)} {c : List Int} (h : L.length ≤ 5000) : (adds n L c).length ≤ 5000 := by
  unfold adds
  split
  · rename_i ht
    unfold takes at ht
    rw [Bool.and_eq_true, decide_eq_true_eq] at ht
    unfold addL
    split
    · exact h
    · simp; omega
  · exact h
/-- The unlike literals, each where it stands first. -/
def firsts (u : List Int) : List Int → List Int
  | [] => u
  | x :: l => firsts (if x ∈ u then u else u ++ [x]) l
/-- The denials of each two. -/
def denials (x : Int) (l : List Int) : List (List Int) := l.map fun y => [-x, -y]
def pairs : List Int → List (List Int)
  | [] => []
  | x :: l => denials x l ++ pairs l
/-- Clauses added one by one, till there is no room. -/
def addAll (n : Nat) : List (List Int) → List (List Int) → List (List Int) × Bool
  | [], L => (L, true)
  | c :: cs, L => if takes n L c = true then addAll n cs (addL L c) else (L, false)
def most (n : Nat) (L : List (List Int)) (l : List Int) : List (List Int) × Bool := if takes n L l = true then addAll n (pairs (firsts [] l)) L else (L, false)
theorem addAll_nil {n : Nat} {L : List (List Int)} : addAll n [] L = (L, true) := rfl
theorem addAll_yes {n : Nat} {L : List (List Int)} {c : List Int} {cs : List (List Int)} (h : takes n L c = true) : addAll n (c :: cs) L = addAll n cs (adds n L c) := by
  rw [addAll, if_pos h, adds, if_pos h]
theorem addAll_no {n : Nat} {L : List (List Int)} {c : List Int} {cs : List (List Int)} (h : takes n L c = false) : addAll n (c :: cs) L = (adds n L c, false) := by
  rw [addAll, if_neg (by rw [h]; decide), adds, if_neg (by rw [h]; decide)]
theorem addAll_len {n : Nat} : ∀ {cs L : List (List Int)}, L.length ≤ 5000 → (addAll n cs L).1.length ≤ 5000
  | [], L, h => h
  | c :: cs, L, h => by
    cases ht : takes n L c with
    | true => rw [addAll_yes ht]; exact addAll_len (adds_len h)
    | false => rw [addAll_no ht]; exact adds_len h
theorem most_len {n : Nat} {L : List (List Int)} {l : List Int} (h : L.length ≤ 5000) : (most n L l).1.length ≤ 5000 := by
  unfold most
  split
  · exact addAll_len h
  · exact h
theorem addAll_okay {n : Nat} : ∀ {cs L : List (List Int)}, Okay n L → Okay n (addAll n cs L).1
  | [], L, h => h
  | c :: cs, L, h => by
    cases ht : takes n L c with
    | true => rw [addAll_yes ht]; exact addAll_okay (okay_adds h)
    | false => rw [addAll_no ht]; exact okay_adds h
theorem most_okay {n : Nat} {L : List (List Int)} {l : List Int} (h : Okay n L) : Okay n (most n L l).1 := by
  unfold most
  split
  · exact addAll_okay h
  · exact h
/-- Does the literal hold in the model? -/
def so (m : List Bool) (x : Int) : Bool := m.getD (x.natAbs - 1) false == decide (0 < x)
def holdsC (m : List Bool) (c : List Int) : Bool := c.any (so m)
def holds (m : List Bool) (L : List (List Int)) : Bool := L.all (holdsC m)
theorem so_neg {m : List Bool} {x : Int} (h : x ≠ 0) : so m (-x) = !so m x := by
  unfold so
  rw [Int.natAbs_neg]
  have : decide (0 < -x) = !decide (0 < x) := by
    by_cases h1 : 0 < x
    · rw [decide_eq_false (by omega : ¬ 0 < -x), decide_eq_true h1]; rfl
    · rw [decide_eq_true (by omega : 0 < -x), decide_eq_false h1]; rfl
  rw [this]
  cases m.getD (x.natAbs - 1) false <;> cases decide (0 < x) <;> rfl
theorem holdsC_same {m : List Bool} {c d : List Int} (h : ∀ x, x ∈ c ↔ x ∈ d) : holdsC m c = holdsC m d := by
  have key : ∀ {c d : List Int}, (∀ x, x ∈ c ↔ x ∈ d) → holdsC m c = true → holdsC m d = true := fun h hb => by
    obtain ⟨x, h1, h2⟩ := List.any_eq_true.1 hb
    exact List.any_eq_true.2 ⟨x, (h x).1 h1, h2⟩
  cases hc : holdsC m c with
  | true => exact (key h hc).symm
  | false =>
    cases hd : holdsC m d with
    | false => rfl
    | true => rw [key (fun x => (h x).symm) hd] at hc; cases hc
theorem holdsC_tid {m : List Bool} {c : List Int} : holdsC m (tid c) = holdsC m c := holdsC_same fun _ => mem_tid
/-- What is bad, and has no 0, holds in each model. -/
theorem holdsC_bad {m : List Bool} {c : List Int} (hb : bad c = true) (h0 : ∀ x ∈ c, x ≠ 0) : holdsC m c = true := by
  obtain ⟨x, h1, h2⟩ := bad_iff.1 hb
  cases hs : so m x with
  | true => exact List.any_eq_true.2 ⟨x, h1, hs⟩
  | false => exact List.any_eq_true.2 ⟨-x, h2, by rw [so_neg (h0 x h1), hs]; rfl⟩
theorem holds_addL {m : List Bool} {L : List (List Int)} {c : List Int} (h0 : ∀ x ∈ c, x ≠ 0) : holds m (addL L c) = (holds m L && holdsC m c) := by
  unfold addL
  split
  · rename_i hb; rw [holdsC_bad hb h0, Bool.and_true]
  · unfold holds
    rw [List.all_append]
    simp [holdsC_tid]
theorem takes_0 {n : Nat} {L : List (List Int)} {c : List Int} (h : takes n L c = true) : ∀ x ∈ c, x ≠ 0 := by
  unfold takes at h
  rw [Bool.and_eq_true] at h
  exact fun x hx => (mays_iff.1 h.2 x hx).1
end Cn
end Go.Proofs.Ytlpahomaokopoaa

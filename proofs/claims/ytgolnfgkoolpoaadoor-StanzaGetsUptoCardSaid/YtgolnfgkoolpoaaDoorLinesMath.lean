/-
Lines, by lists of bytes; the library's Split at a line feed; what is told of a text's lines.
-/
import Derived.Test.YtgolnfgkoolpoaaDoorWordsK
import Derived.Lib.Split
namespace Go.Proofs.YtgolnfgkoolpoaaDoor
open Go.Lib
set_option linter.unusedSimpArgs false
set_option linter.unusedVariables false
namespace Txt
def put (c : UInt8) : List (List UInt8) → List (List UInt8)
  | [] => [[c]]
  | x :: r => (c :: x) :: r
/-- What stands between line feeds. -/
def spl : List UInt8 → List (List UInt8)
  | [] => [[]]
  | c :: l => if c = 10 then [] :: spl l else put c (spl l)
theorem spl_ne (l : List UInt8) : spl l ≠ [] := by
  cases l with
  | nil => simp [spl]
  | cons c l =>
    unfold spl
    split
    · simp
    · cases spl l <;> simp [put]
theorem spl_index : ∀ L : List UInt8, (index L [10] = -1 ∧ spl L = [L]) ∨ ∃ i : Nat, index L [10] = (i : Int) ∧ i < L.length ∧ spl L = L.take i :: spl (L.drop (i + 1))
  | [] => .inl ⟨rfl, rfl⟩
  | c :: l => by
    by_cases hc : c = 10
    · subst hc
      exact .inr ⟨0, rfl, by simp, rfl⟩
    · have e1 : index (c :: l) [10] = if index l [10] == -1 then -1 else index l [10] + 1 := by
        show (if [10].isPrefixOf (c :: l) then _ else _) = _
        rw [if_neg]
        simp [List.isPrefixOf]
        exact fun h => hc h.symm
      have e2 : spl (c :: l) = put c (spl l) := by
        show (if c = 10 then _ else _) = _
        rw [if_neg hc]
      rw [e1, e2]
      rcases spl_index l with ⟨h1, h2⟩ | ⟨i, h1, h2, h3⟩
      · left
        rw [h1, h2]
        exact ⟨rfl, rfl⟩
      · right
        refine ⟨i + 1, ?_, by simp; omega, ?_⟩
        · rw [h1, if_neg (by simp)]; omega
        · rw [h3]; rfl
theorem split_spl : ∀ (n : Nat) (L : List UInt8), L.length ≤ n → splitK [10] 0 (count L [10]) L = spl L ∧ (spl L).length = count L [10] + 1
  | 0, L, h => by
    obtain rfl : L = [] := List.length_eq_zero_iff.1 (by omega)
    exact ⟨rfl, rfl⟩
  | n + 1, L, h => by
    rcases spl_index L with ⟨h1, h2⟩ | ⟨i, h1, h2, h3⟩
    · rw [count_miss h1, h2]
      exact ⟨rfl, rfl⟩
    · have hc := count_hit (sub := [10]) (by simp) h1
      have hd : (L.drop (i + 1)).length ≤ n := by rw [List.length_drop]; omega
      obtain ⟨k1, k2⟩ := split_spl n (L.drop (i + 1)) hd
      have hc' : count L [10] = count (L.drop (i + 1)) [10] + 1 := by rw [hc]; show 1 + count (L.drop (i + 1)) [10] = _; omega
      rw [hc', h3]
      refine ⟨?_, by rw [List.length_cons, k2]⟩
      show (if index L [10] == -1 then [L] else L.take ((index L [10]).toNat + 0) :: splitK [10] 0 (count (L.drop (i + 1)) [10]) (L.drop ((index L [10]).toNat + 1))) = _
      rw [if_neg (by rw [h1]; simp), h1, Int.toNat_natCast, Nat.add_zero, k1]
theorem splitB_spl (s : ByteArray) : (splitB ⟨#[10]⟩ 0 (countB s ⟨#[10]⟩) s).map (·.data.toList) = spl s.data.toList ∧ (splitB ⟨#[10]⟩ 0 (countB s ⟨#[10]⟩) s).length = countB s ⟨#[10]⟩ + 1 := by
  have h := split_spl _ s.data.toList (Nat.le_refl _)
  have e := splitB_data ⟨#[10]⟩ 0 (countB s ⟨#[10]⟩) s
  have e2 : (splitB ⟨#[10]⟩ 0 (countB s ⟨#[10]⟩) s).map (·.data.toList) = spl s.data.toList := e.trans h.1
  refine ⟨e2, ?_⟩
  have := congrArg List.length e2
  rw [List.length_map] at this
  rw [this]; exact h.2
/-- Behind a line feed at the end no further line begins. -/
def dl : List (List UInt8) → List (List UInt8)
  | [] => []
  | [x] => if x = [] then [] else [x]
  | x :: y :: r => x :: dl (y :: r)
def linesL (l : List UInt8) : List (List UInt8) := dl (spl l)
theorem dl_cons (x : List UInt8) {r : List (List UInt8)} (h : r ≠ []) : dl (x :: r) = x :: dl r := by
  cases r with
  | nil => exact absurd rfl h
  | cons y r => rfl
theorem dl_last : ∀ (r : List (List UInt8)) (x : List UInt8), dl (r ++ [x]) = if x = [] then r else r ++ [x]
  | [], x => by show (if x = [] then [] else [x]) = _; rfl
  | y :: r, x => by
    rw [List.cons_append, dl_cons y (by simp), dl_last r x]
    split <;> rfl
/-- The lines of s. -/
def LinesOf (s : ByteArray) (ls : List ByteArray) : Prop := ls.map (·.data.toList) = linesL s.data.toList
theorem LinesOf.uniq {s : ByteArray} {ls ms : List ByteArray} (h : LinesOf s ls) (h' : LinesOf s ms) : ls = ms := lists_inj (h.trans h'.symm)
/-- Why may x not be a line? -/
def E (x : ByteArray) : Nat := if 1000 < x.size then 2 else if 0 ≤ good x then 3 else 0
/-- What is told of a text's lines: they are told, or the first one that may not be a line. -/
def LRes (s : ByteArray) (ls : List ByteArray) (e n : Nat) : Prop :=
  (e = 0 ∧ n = 0 ∧ LinesOf s ls ∧ ∀ i, i < ls.length → E (ls.getD i ByteArray.empty) = 0) ∨
  (ls = [] ∧ e ≠ 0 ∧ ∃ ms k, LinesOf s ms ∧ k < ms.length ∧ (∀ j, j < k → E (ms.getD j ByteArray.empty) = 0) ∧ E (ms.getD k ByteArray.empty) = e ∧ n = k + 1)
theorem LRes.uniq {s : ByteArray} {ls ls' : List ByteArray} {e e' n n' : Nat} (h : LRes s ls e n) (h' : LRes s ls' e' n') : ls = ls' ∧ e = e' ∧ n = n' := by
  rcases h with ⟨rfl, rfl, h3, h4⟩ | ⟨rfl, h2, ms, k, h3, h4, h5, h6, rfl⟩
  · rcases h' with ⟨rfl, rfl, k3, k4⟩ | ⟨rfl, k2, ms, k, k3, k4, k5, k6, rfl⟩
    · exact ⟨h3.uniq k3, rfl, rfl⟩
    · have := h3.uniq k3
      subst this
      exact absurd ((h4 k k4).symm.trans k6) (fun e => k2 e.symm)
  · rcases h' with ⟨rfl, rfl, k3, k4⟩ | ⟨rfl, k2, ms', k', k3, k4, k5, k6, rfl⟩
    · have := h3.uniq k3
      subst this
      exact absurd ((k4 k h4).symm.trans h6) (fun e => h2 e.symm)
    · have := h3.uniq k3
      subst this
      have hk : k = k' := by
        rcases Nat.lt_trichotomy k k' with h | h | h
        · have := k5 k h; omega
        · exact h
        · have := h5 k' h; omega
      subst hk
      exact ⟨rfl, by omega, rfl⟩
end Txt
end Go.Proofs.YtgolnfgkoolpoaaDoor

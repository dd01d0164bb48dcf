/-
Words and trimmed texts, by lists of bytes.
-/
import Derived.Test.YtgolnfgkoolpoaaDoorTextSmall
namespace Go.Proofs.YtgolnfgkoolpoaaDoor
set_option linter.unusedSimpArgs false
set_option linter.unusedVariables false
namespace Txt
def W (c : UInt8) : Bool := wht c.toNat
def Black (x : List UInt8) : Prop := ∀ c ∈ x, W c = false
def White (x : List UInt8) : Prop := ∀ c ∈ x, W c = true
def go (cur : List UInt8) : List UInt8 → List (List UInt8)
  | [] => if cur = [] then [] else [cur]
  | c :: l => if W c = true then (if cur = [] then go [] l else cur :: go [] l) else go (cur ++ [c]) l
def wordsL (l : List UInt8) : List (List UInt8) := go [] l
def close (cur : List UInt8) : List (List UInt8) := if cur = [] then [] else [cur]
theorem go_nil (cur : List UInt8) : go cur [] = close cur := rfl
theorem go_white {c : UInt8} (h : W c = true) (cur l : List UInt8) : go cur (c :: l) = close cur ++ go [] l := by
  show (if W c = true then (if cur = [] then go [] l else cur :: go [] l) else go (cur ++ [c]) l) = _
  unfold close
  rw [if_pos h]
  split <;> rfl
theorem go_black {c : UInt8} (h : W c = false) (cur l : List UInt8) : go cur (c :: l) = go (cur ++ [c]) l := by
  show (if W c = true then (if cur = [] then go [] l else cur :: go [] l) else go (cur ++ [c]) l) = _
  rw [h]; rfl
theorem go_plain {x : List UInt8} (h : Black x) (cur l : List UInt8) : go cur (x ++ l) = go (cur ++ x) l := by
  induction x generalizing cur with
  | nil => simp
  | cons c x ih =>
    rw [List.cons_append, go_black (h c (.head _)), ih (fun d hd => h d (.tail _ hd))]
    simp
theorem go_app {c : UInt8} (h : W c = true) (cur a l : List UInt8) : go cur (a ++ c :: l) = go cur a ++ go [] l := by
  induction a generalizing cur with
  | nil => rw [List.nil_append, go_white h]; rfl
  | cons d a ih =>
    rw [List.cons_append]
    by_cases hd : W d = true
    · rw [go_white hd, go_white hd, ih, List.append_assoc]
    · rw [Bool.not_eq_true] at hd
      rw [go_black hd, go_black hd, ih]
theorem go_front {x : List UInt8} (h : White x) (l : List UInt8) : go [] (x ++ l) = go [] l := by
  induction x with
  | nil => rfl
  | cons c x ih =>
    rw [List.cons_append, go_white (h c (.head _)), ih (fun d hd => h d (.tail _ hd))]
    rfl
theorem go_back {x : List UInt8} (h : White x) (cur l : List UInt8) : go cur (l ++ x) = go cur l := by
  cases x with
  | nil => simp
  | cons c x =>
    have hx : go [] x = [] := by
      have := go_front (fun d hd => h d (.tail _ hd)) (x := x) []
      rw [List.append_nil] at this
      rw [this]; rfl
    rw [go_app (h c (.head _)), hx, List.append_nil]
theorem go_one {x : List UInt8} (h : Black x) (hx : x ≠ []) : go [] x = [x] := by
  have := go_plain h [] []
  rw [List.append_nil, List.nil_append] at this
  rw [this, go_nil]
  unfold close; rw [if_neg hx]
def Word (x : List UInt8) : Prop := x ≠ [] ∧ Black x
theorem go_words (l : List UInt8) : ∀ cur, Black cur → ∀ y ∈ go cur l, Word y := by
  induction l with
  | nil =>
    intro cur hc y hy
    rw [go_nil] at hy
    unfold close at hy
    split at hy
    · cases hy
    · next hne => rw [List.mem_singleton.1 hy]; exact ⟨hne, hc⟩
  | cons c l ih =>
    intro cur hc y hy
    by_cases hw : W c = true
    · rw [go_white hw] at hy
      rcases List.mem_append.1 hy with h | h
      · unfold close at h
        split at h
        · cases h
        · next hne => rw [List.mem_singleton.1 h]; exact ⟨hne, hc⟩
      · exact ih [] (fun _ h => by cases h) y h
    · rw [Bool.not_eq_true] at hw
      rw [go_black hw] at hy
      refine ih _ (fun d hd => ?_) y hy
      rcases List.mem_append.1 hd with h | h
      · exact hc d h
      · rw [List.mem_singleton.1 h]; exact hw
theorem words_word {l y : List UInt8} (h : y ∈ wordsL l) : Word y := go_words l [] (fun _ h => by cases h) y h
/-- Words with a space between. -/
def join : List (List UInt8) → List UInt8
  | [] => []
  | [x] => x
  | x :: y :: r => x ++ 32 :: join (y :: r)
theorem words_join : ∀ ws : List (List UInt8), (∀ y ∈ ws, Word y) → wordsL (join ws) = ws
  | [], _ => rfl
  | [x], h => go_one (h x (.head _)).2 (h x (.head _)).1
  | x :: y :: r, h => by
    show go [] (x ++ 32 :: join (y :: r)) = _
    rw [go_app (by decide), go_one (h x (.head _)).2 (h x (.head _)).1]
    have := words_join (y :: r) (fun z hz => h z (.tail _ hz))
    unfold wordsL at this
    rw [this]; rfl
/-- Each white space with more of it behind. -/
def spread (gap : List UInt8) : List UInt8 → List UInt8
  | [] => []
  | c :: l => if W c = true then c :: (gap ++ spread gap l) else c :: spread gap l
theorem go_spread {gap : List UInt8} (h : White gap) (l : List UInt8) : ∀ cur, go cur (spread gap l) = go cur l := by
  induction l with
  | nil => intro cur; rfl
  | cons c l ih =>
    intro cur
    unfold spread
    by_cases hw : W c = true
    · rw [if_pos hw, go_white hw, go_white hw, go_front h, ih]
    · rw [if_neg hw]
      rw [Bool.not_eq_true] at hw
      rw [go_black hw, go_black hw, ih]
/-- Without white space at both ends. -/
def trimLeft : List UInt8 → List UInt8
  | [] => []
  | c :: l => if W c = true then trimLeft l else c :: l
def trimRight (l : List UInt8) : List UInt8 := (trimLeft l.reverse).reverse
def trimL (l : List UInt8) : List UInt8 := trimRight (trimLeft l)
theorem trimLeft_eq (l : List UInt8) : ∃ x, White x ∧ l = x ++ trimLeft l ∧ (trimLeft l = [] ∨ ∃ c r, trimLeft l = c :: r ∧ W c = false) := by
  induction l with
  | nil => exact ⟨[], (fun _ h => by cases h), rfl, .inl rfl⟩
  | cons c l ih =>
    unfold trimLeft
    by_cases hw : W c = true
    · rw [if_pos hw]
      obtain ⟨x, h1, h2, h3⟩ := ih
      refine ⟨c :: x, fun d hd => ?_, by rw [List.cons_append, ← h2], h3⟩
      rcases List.mem_cons.1 hd with rfl | hd
      · exact hw
      · exact h1 d hd
    · rw [if_neg hw]
      rw [Bool.not_eq_true] at hw
      exact ⟨[], (fun _ h => by cases h), rfl, .inr ⟨c, l, rfl, hw⟩⟩
theorem trimLeft_front {x : List UInt8} (h : White x) (l : List UInt8) : trimLeft (x ++ l) = trimLeft l := by
  induction x with
  | nil => rfl
  | cons c x ih =>
    rw [List.cons_append]
    unfold trimLeft
    rw [if_pos (h c (.head _)), ih (fun d hd => h d (.tail _ hd))]
    cases l <;> rfl
theorem trimLeft_keep {c : UInt8} (h : W c = false) (l : List UInt8) : trimLeft (c :: l) = c :: l := by
  unfold trimLeft; rw [h]; rfl
theorem white_rev {x : List UInt8} (h : White x) : White x.reverse := fun d hd => h d (List.mem_reverse.1 hd)
theorem trimRight_back {x : List UInt8} (h : White x) (l : List UInt8) : trimRight (l ++ x) = trimRight l := by
  unfold trimRight
  rw [List.reverse_append, trimLeft_front (white_rev h)]
theorem trimRight_keep {c : UInt8} (h : W c = false) (l : List UInt8) : trimRight (l ++ [c]) = l ++ [c] := by
  unfold trimRight
  rw [List.reverse_append]
  show (trimLeft (c :: l.reverse)).reverse = _
  rw [trimLeft_keep h]
  simp
theorem trimRight_eq (l : List UInt8) : ∃ x, White x ∧ l = trimRight l ++ x ∧ (trimRight l = [] ∨ ∃ c r, trimRight l = r ++ [c] ∧ W c = false) := by
  obtain ⟨x, h1, h2, h3⟩ := trimLeft_eq l.reverse
  refine ⟨x.reverse, white_rev h1, ?_, ?_⟩
  · unfold trimRight
    rw [← List.reverse_append, ← h2, List.reverse_reverse]
  · rcases h3 with h | ⟨c, r, h, hc⟩
    · left; unfold trimRight; rw [h]; rfl
    · right; exact ⟨c, r.reverse, by unfold trimRight; rw [h]; simp, hc⟩
theorem words_trim (l : List UInt8) : wordsL (trimL l) = wordsL l := by
  obtain ⟨x, h1, h2, _⟩ := trimLeft_eq l
  obtain ⟨y, h3, h4, _⟩ := trimRight_eq (trimLeft l)
  unfold wordsL
  conv => rhs; rw [h2, h4, go_front h1, go_back h3]
  rfl
theorem trimLeft_append {l r : List UInt8} (h : trimLeft l ≠ []) : trimLeft (l ++ r) = trimLeft l ++ r := by
  induction l with
  | nil => exact absurd rfl h
  | cons c l ih =>
    rw [List.cons_append]
    by_cases hw : W c = true
    · have e1 : trimLeft (c :: l) = trimLeft l := by conv => lhs; unfold trimLeft
                                                     rw [if_pos hw]
      have e2 : trimLeft (c :: (l ++ r)) = trimLeft (l ++ r) := by conv => lhs; unfold trimLeft
                                                                   rw [if_pos hw]
      rw [e1] at h ⊢
      rw [e2, ih h]
    · rw [Bool.not_eq_true] at hw
      rw [trimLeft_keep hw, trimLeft_keep hw]; rfl
theorem trimRight_first {c : UInt8} (h : W c = false) (l : List UInt8) : ∃ r, trimRight (c :: l) = c :: r := by
  unfold trimRight
  rw [List.reverse_cons]
  by_cases e : trimLeft l.reverse = []
  · obtain ⟨x, h1, h2, _⟩ := trimLeft_eq l.reverse
    rw [e, List.append_nil] at h2
    rw [h2, trimLeft_front h1, trimLeft_keep h]
    exact ⟨[], rfl⟩
  · rw [trimLeft_append e]
    simp
theorem trim_trim (l : List UInt8) : trimL (trimL l) = trimL l := by
  have hR : ∀ k, trimRight (trimRight k) = trimRight k := fun k => by
    obtain ⟨_, _, _, h⟩ := trimRight_eq k
    rcases h with h | ⟨c, r, h, hc⟩
    · rw [h]; rfl
    · rw [h, trimRight_keep hc]
  have hL : trimLeft (trimL l) = trimL l := by
    obtain ⟨_, _, _, h⟩ := trimLeft_eq l
    unfold trimL
    rcases h with h | ⟨c, r, h, hc⟩
    · rw [h]; rfl
    · rw [h]
      obtain ⟨q, hq⟩ := trimRight_first hc r
      rw [hq, trimLeft_keep hc]
  show trimRight (trimLeft (trimL l)) = _
  rw [hL]
  exact hR _
theorem trim_gaps {x y : List UInt8} (hx : White x) (hy : White y) (l : List UInt8) : trimL (x ++ l ++ y) = trimL l := by
  unfold trimL
  rw [List.append_assoc, trimLeft_front hx]
  by_cases e : trimLeft l = []
  · have hw : White (l ++ y) := by
      obtain ⟨z, h1, h2, _⟩ := trimLeft_eq l
      rw [e, List.append_nil] at h2
      subst h2
      intro d hd
      rcases List.mem_append.1 hd with h | h
      · exact h1 d h
      · exact hy d h
    have := trimLeft_front hw []
    rw [List.append_nil] at this
    rw [this, e]; rfl
  · rw [trimLeft_append e, trimRight_back hy]
theorem trim_word {x : List UInt8} (h : Word x) : trimL x = x := by
  obtain ⟨hne, hb⟩ := h
  unfold trimL
  cases x with
  | nil => exact absurd rfl hne
  | cons c r =>
    rw [trimLeft_keep (hb c (.head _))]
    have hl : (c :: r) = (c :: r).dropLast ++ [(c :: r).getLast (by simp)] := (List.dropLast_concat_getLast _).symm
    rw [hl]
    exact trimRight_keep (hb _ (List.getLast_mem _)) _
end Txt
end Go.Proofs.YtgolnfgkoolpoaaDoor

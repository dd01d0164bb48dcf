/-
Signs held against signs, numbers against numbers; the library's Or of some numbers. The library's Or of some numbers; rows of digits by their numbers. Part, and what a round of it takes.
-/
import Derived.Test.YtapmpdljapbpeaaGreatDoorVerSmall
import Derived.Test.YtapmpdljapbpeaaGreatDoorShelf
import Derived.StillTail
import Derived.StillTailTactics
namespace Go.Proofs.YtapmpdljapbpeaaGreatDoor
open Go.RowKit
set_option linter.unusedSimpArgs false
set_option linter.unusedVariables false
namespace Ver
open Txt (b b_eq b_lt)
def wtN (c : Nat) : Nat := if c = 126 then 0 else if alfN c then 2 + c else 258 + c
def wt : Bs → Nat
  | [] => 1
  | c :: _ => wtN c.toNat
def rk0 : Bs → Int
  | [] => 0
  | c :: _ => rk c
theorem wt_rk (x y : Bs) : Lib.compareInt (wt x) (wt y) = sgn (rk0 x) (rk0 y) := by
  have h : ∀ c : UInt8, (c.toNat = 126 ∧ rk c = -1 ∧ wtN c.toNat = 0) ∨ (c.toNat ≠ 126 ∧ c.toNat < 256 ∧ alfN c.toNat = true ∧ rk c = 1 + c.toNat ∧ wtN c.toNat = 2 + c.toNat) ∨ (c.toNat ≠ 126 ∧ c.toNat < 256 ∧ rk c = 300 + c.toNat ∧ wtN c.toNat = 258 + c.toNat) := fun c => by
    have hl := UInt8.toNat_lt c
    unfold rk wtN
    rw [alf_n]
    by_cases h1 : c = 126
    · subst h1; left; decide
    · have h2 : c.toNat ≠ 126 := fun e => h1 (UInt8.toNat_inj.1 (by simpa using e))
      rw [if_neg h1, if_neg h2]
      by_cases h3 : alfN c.toNat = true
      · rw [if_pos h3, if_pos h3]; right; left; exact ⟨h2, by omega, h3, rfl, rfl⟩
      · rw [if_neg h3, if_neg h3]; right; right; exact ⟨h2, by omega, rfl, rfl⟩
  have h' : ∀ x : Bs, (rk0 x = -1 ∧ wt x = 0) ∨ (rk0 x = 0 ∧ wt x = 1) ∨ (1 ≤ rk0 x ∧ rk0 x < 257 ∧ (wt x : Int) = rk0 x + 1) ∨ (300 ≤ rk0 x ∧ (wt x : Int) = rk0 x - 42) := fun x => by
    cases x with
    | nil => right; left; exact ⟨rfl, rfl⟩
    | cons c x =>
      rcases h c with ⟨_, r, k⟩ | ⟨_, l, _, r, k⟩ | ⟨_, l, r, k⟩
      · left; exact ⟨r, k⟩
      · right; right; left
        show 1 ≤ rk c ∧ rk c < 257 ∧ ((wtN c.toNat : Nat) : Int) = rk c + 1
        omega
      · right; right; right
        show 300 ≤ rk c ∧ ((wtN c.toNat : Nat) : Int) = rk c - 42
        omega
  have hx := h' x
  have hy := h' y
  clear h h'
  generalize wt x = a at *
  generalize wt y = c at *
  generalize rk0 x = p at *
  generalize rk0 y = q at *
  unfold Lib.compareInt sgn
  (repeat' split) <;> omega
/-- An equal first, and the rest. -/
theorem lex_map_step (x y : Bs) (hx : x ≠ [] ∨ y ≠ []) : lex (x.map rk) (y.map rk) = orr (sgn (rk0 x) (rk0 y)) (lex (x.tail.map rk) (y.tail.map rk)) := by
  cases x with
  | nil =>
    cases y with
    | nil => simp at hx
    | cons d y => rfl
  | cons c x =>
    cases y with
    | nil => rfl
    | cons d y => rfl
theorem rk0_same {x y : Bs} (h : sgn (rk0 x) (rk0 y) = 0) : x = [] ↔ y = [] := by
  cases x with
  | nil =>
    cases y with
    | nil => simp
    | cons d y => exact absurd h (sgn_ne (Ne.symm (rk_ne d)))
  | cons c x =>
    cases y with
    | nil => exact absurd h (sgn_ne (rk_ne c))
    | cons d y => simp
theorem orr_of_ne {p q : Int} {G : Int} (h : orr p q = G) (hp : p ≠ 0) : G = p := by rw [orr_ne hp] at h; exact h.symm
theorem orr_of_zero {p q : Int} {G : Int} (h : orr p q = G) (hp : p = 0) : q = G := by subst hp; rwa [orr_zero] at h
theorem tail_drop (l : Bs) (i : Nat) : (l.drop i).tail = l.drop (i + 1) := by rw [← List.drop_one, List.drop_drop]
end Ver
end Go.Proofs.YtapmpdljapbpeaaGreatDoor
namespace Go.Proofs.YtapmpdljapbpeaaGreatDoor
open Go.RowKit
set_option linter.unusedSimpArgs false
set_option linter.unusedVariables false
namespace Ver
open Txt (b b_eq b_lt)
/-- The first that is not 0. -/
def orl : List Int → Int
  | [] => 0
  | x :: r => orr x (orl r)
theorem trimLeft_strip : ∀ l : Bs, Lib.trimLeftB l 48 = strip l
  | [] => by first | rfl | simp [Lib.trimLeftB, strip]
  | c :: r => by
    have := trimLeft_strip r
    unfold strip
    by_cases h : c = 48
    · subst h; rw [if_pos rfl, ← this]; first | rfl | simp [Lib.trimLeftB]
    · rw [if_neg h]; first | rfl | simp [Lib.trimLeftB, h]
/-- A list of bytes as a string. -/
def S (l : Bs) : ByteArray := ⟨l.toArray⟩
theorem S_li (l : Bs) : li (S l) = l := by simp [S]
theorem S_of {t : ByteArray} {l : Bs} (h : li t = l) : t = S l := by
  subst h
  apply ByteArray.ext
  simp [S]
theorem S_self (t : ByteArray) : S (li t) = t := (S_of rfl).symm
theorem S_size (l : Bs) : (S l).size = l.length := by rw [← li_len, S_li]
theorem cmp_sgn (x y : Int) : Lib.compareInt x y = sgn x y := by
  unfold Lib.compareInt sgn
  (repeat' split) <;> omega
end Ver
end Go.Proofs.YtapmpdljapbpeaaGreatDoor
namespace Go.Proofs.YtapmpdljapbpeaaGreatDoor
open Go.RowKit
set_option linter.unusedSimpArgs false
set_option linter.unusedVariables false
namespace Ver
open Txt (b b_eq b_lt)
def sigs (l : Bs) : Bs := l.take (spn false l)
def behind (l : Bs) : Bs := l.drop (spn false l)
def nums (l : Bs) : Bs := (behind l).take (spn true (behind l))
def rest (l : Bs) : Bs := (behind l).drop (spn true (behind l))
theorem pieces (l : Bs) : l = sigs l ++ (nums l ++ rest l) := by
  unfold sigs nums rest
  rw [List.take_append_drop]
  unfold behind
  rw [List.take_append_drop]
theorem nums_nil {l : Bs} (h : nums l = []) : rest l = [] := by
  unfold nums at h
  have h0 : spn true (behind l) = 0 := by
    have := spn_le true (behind l)
    have h2 := congrArg List.length h
    rw [List.length_take, List.length_nil] at h2
    omega
  unfold rest
  rw [h0, List.drop_zero]
  have h1 := spn_drop false l
  change headIs true (behind l) at h1
  cases hb : behind l with
  | nil => rfl
  | cons c r =>
    rw [hb] at h0 h1
    have h1' : dig c = true := h1
    simp [spn, h1'] at h0
theorem rest_head (l : Bs) : headNo dig (rest l) := by
  have h := spn_drop true (behind l)
  change headIs false (rest l) at h
  cases hb : rest l with
  | nil => trivial
  | cons c r => rw [hb] at h; exact h
theorem part_step (x y : Bs) : part x y = orr (lex ((sigs x).map rk) ((sigs y).map rk)) (orr (numB (nums x) (nums y)) (part (rest x) (rest y))) := by
  have hd : ∀ l : Bs, ∀ c ∈ nums l, dig c = true := fun l => spn_take true (behind l)
  have hs : ∀ l : Bs, ∀ c ∈ sigs l, dig c = false := fun l => spn_take false l
  rw [num_val (hd x) (hd y)]
  have := part_round (sigs x) (nums x) (rest x) (sigs y) (nums y) (rest y) (hs x) (hd x) (rest_head x) nums_nil (hs y) (hd y) (rest_head y) nums_nil
  rwa [← pieces, ← pieces] at this
theorem rest_le (l : Bs) : (rest l).length ≤ l.length := by
  unfold rest behind
  rw [List.length_drop, List.length_drop]; omega
theorem rest_lt {l : Bs} (h : l ≠ []) : (rest l).length < l.length := by
  unfold rest
  rw [List.length_drop]
  have h2 : (behind l).length = l.length - spn false l := by unfold behind; rw [List.length_drop]
  have h1 := spn_drop false l
  change headIs true (behind l) at h1
  have hl := spn_le false l
  have h0 : 0 < l.length := List.length_pos_iff.2 h
  cases hb : behind l with
  | nil => rw [hb] at h2; simp at h2 ⊢; omega
  | cons c r =>
    rw [hb] at h1 h2
    have h1' : dig c = true := h1
    have : spn true (c :: r) = spn true r + 1 := by rw [spn, if_pos h1']
    rw [this]
    simp only [List.length_cons] at h2 ⊢
    omega
theorem empty_is {s : ByteArray} (h : s.size = 0) : s.toList.isEmpty = true ∧ li s = [] := by
  have : li s = [] := List.eq_nil_of_length_eq_zero (by rw [li_len, h])
  rw [Lib.toList_data]
  exact ⟨by rw [show s.data.toList = [] from this]; rfl, this⟩
theorem empty_no {s : ByteArray} (h : s.size ≠ 0) : s.toList.isEmpty = false ∧ li s ≠ [] := by
  have : li s ≠ [] := fun e => h (by rw [← li_len, e]; rfl)
  rw [Lib.toList_data]
  refine ⟨?_, this⟩
  cases hq : s.data.toList with
  | nil => exact absurd hq this
  | cons _ _ => rfl
/-- A text's pieces by slices of it. -/
theorem slice_sigs (s : ByteArray) : li (s.extract 0 (spn false (li s))) = sigs (li s) := li_ext_zero _ _ (by rw [← li_len]; exact spn_le _ _)
theorem slice_behind (s : ByteArray) : li (s.extract (spn false (li s)) s.size) = behind (li s) := li_ext_end _ _
theorem below_drewN (w : World) : ∀ n, Below w.heap.size w (w.drewN n)
  | 0 => Below.refl _ _
  | n + 1 => ⟨rfl, rfl, rfl, Nat.le_refl _, fun _ _ => rfl⟩
end Ver
end Go.Proofs.YtapmpdljapbpeaaGreatDoor

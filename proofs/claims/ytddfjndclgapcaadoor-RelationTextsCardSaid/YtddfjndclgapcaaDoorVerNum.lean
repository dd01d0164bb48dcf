/-
Signs held against signs, numbers against numbers; the library's Or of some numbers.
-/
import Derived.Test.YtddfjndclgapcaaDoorVerSmall
import Derived.Test.YtddfjndclgapcaaDoorShelf
namespace Go.Proofs.YtddfjndclgapcaaDoor
open Go.RowKit
set_option linter.unusedSimpArgs false
set_option linter.unusedVariables false
namespace Ver
open Txt (b b_eq b_lt)
def wtN (c : Nat) : Nat := if c = 126 then 0 else if alfN c then 2 + c else 258 + c
def wt : Bs → Nat
  | [] => 1
  | c :: _ => wtN c.toNat
def rk0 : Bs → Int
  | [] => 0
  | c :: _ => rk c
theorem wt_rk (x y : Bs) : Lib.compareInt (wt x) (wt y) = sgn (rk0 x) (rk0 y) := by
  have h : ∀ c : UInt8, (c.toNat = 126 ∧ rk c = -1 ∧ wtN c.toNat = 0) ∨ (c.toNat ≠ 126 ∧ c.toNat < 256 ∧ alfN c.toNat = true ∧ rk c = 1 + c.toNat ∧ wtN c.toNat = 2 + c.toNat) ∨ (c.toNat ≠ 126 ∧ c.toNat < 256 ∧ rk c = 300 + c.toNat ∧ wtN c.toNat = 258 + c.toNat) := fun c => by
    have hl := UInt8.toNat_lt c
    unfold rk wtN
    rw [alf_n]
    by_cases h1 : c = 126
    · subst h1; left; decide
    · have h2 : c.toNat ≠ 126 := fun e => h1 (UInt8.toNat_inj.1 (by simpa using e))
      rw [if_neg h1, if_neg h2]
      by_cases h3 : alfN c.toNat = true
      · rw [if_pos h3, if_pos h3]; right; left; exact ⟨h2, by omega, h3, rfl, rfl⟩
      · rw [if_neg h3, if_neg h3]; right; right; exact ⟨h2, by omega, rfl, rfl⟩
  have h' : ∀ x : Bs, (rk0 x = -1 ∧ wt x = 0) ∨ (rk0 x = 0 ∧ wt x = 1) ∨ (1 ≤ rk0 x ∧ rk0 x < 257 ∧ (wt x : Int) = rk0 x + 1) ∨ (300 ≤ rk0 x ∧ (wt x : Int) = rk0 x - 42) := fun x => by
    cases x with
    | nil => right; left; exact ⟨rfl, rfl⟩
    | cons c x =>
      rcases h c with ⟨_, r, k⟩ | ⟨_, l, _, r, k⟩ | ⟨_, l, r, k⟩
      · left; exact ⟨r, k⟩
      · right; right; left
        show 1 ≤ rk c ∧ rk c < 257 ∧ ((wtN c.toNat : Nat) : Int) = rk c + 1
        omega
      · right; right; right
        show 300 ≤ rk c ∧ ((wtN c.toNat : Nat) : Int) = rk c - 42
        omega
  have hx := h' x
  have hy := h' y
  clear h h'
  generalize wt x = a at *
  generalize wt y = c at *
  generalize rk0 x = p at *
  generalize rk0 y = q at *
  unfold Lib.compareInt sgn
  (repeat' split) <;> omega
/-- An equal first, and the rest. -/
theorem lex_map_step (x y : Bs) (hx : x ≠ [] ∨ y ≠ []) : lex (x.map rk) (y.map rk) = orr (sgn (rk0 x) (rk0 y)) (lex (x.tail.map rk) (y.tail.map rk)) := by
  cases x with
  | nil =>
    cases y with
    | nil => simp at hx
    | cons d y => rfl
  | cons c x =>
    cases y with
    | nil => rfl
    | cons d y => rfl
theorem rk0_same {x y : Bs} (h : sgn (rk0 x) (rk0 y) = 0) : x = [] ↔ y = [] := by
  cases x with
  | nil =>
    cases y with
    | nil => simp
    | cons d y => exact absurd h (sgn_ne (Ne.symm (rk_ne d)))
  | cons c x =>
    cases y with
    | nil => exact absurd h (sgn_ne (rk_ne c))
    | cons d y => simp
theorem orr_of_ne {p q : Int} {G : Int} (h : orr p q = G) (hp : p ≠ 0) : G = p := by rw [orr_ne hp] at h; exact h.symm
theorem orr_of_zero {p q : Int} {G : Int} (h : orr p q = G) (hp : p = 0) : q = G := by subst hp; rwa [orr_zero] at h
theorem tail_drop (l : Bs) (i : Nat) : (l.drop i).tail = l.drop (i + 1) := by rw [← List.drop_one, List.drop_drop]
end Ver
end Go.Proofs.YtddfjndclgapcaaDoor

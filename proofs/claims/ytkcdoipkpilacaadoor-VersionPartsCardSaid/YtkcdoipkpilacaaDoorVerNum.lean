/-
Signs held against signs, numbers against numbers; the library's Or of some numbers.
-/
import Derived.Test.YtkcdoipkpilacaaDoorVerSmall
import Derived.Test.YtkcdoipkpilacaaDoorShelf
namespace Go.Proofs.YtkcdoipkpilacaaDoor
open Go.RowKit
set_option linter.unusedSimpArgs false
set_option linter.unusedVariables false
namespace Ver
open Txt (b b_eq b_lt)
def wtN (c : Nat) : Nat := if c = 126 then 0 else if alfN c then 2 + c else 258 + c
def wt : Bs → Nat
  | [] => 1
  | c :: _ => wtN c.toNat
def rk0 : Bs → Int
  | [] => 0
  | c :: _ => rk c
theorem wt_rk (x y : Bs) : Lib.compareInt (wt x) (wt y) = sgn (rk0 x) (rk0 y) := by
  have h : ∀ c : UInt8, (c.toNat = 126 ∧ rk c = -1 ∧ wtN c.toNat = 0) ∨ (c.toNat ≠ 126 ∧ c.toNat < 256 ∧ alfN c.toNat = true ∧ rk c = 1 + c.toNat ∧ wtN c.toNat = 2 + c.toNat) ∨ (c.toNat ≠ 126 ∧ c.toNat < 256 ∧ rk c = 300 + c.toNat ∧ wtN c.toNat = 258 + c.toNat) := fun c => by
    have hl := UInt8.toNat_lt c
    unfold rk wtN
    rw [alf_n]
    by_cases h1 : c = 126
    · subst h1; left; decide
    · have h2 : c.toNat ≠ 126 := fun e => h1 (UInt8.toNat_inj.1 (by simpa using e))
      rw [if_neg h1, if_neg h2]
      by_cases h3 : alfN c.toNat = true
      · rw [if_pos h3, if_pos h3]; right; left; exact ⟨h2, by omega, h3, rfl, rfl⟩
      · rw [if_neg h3, if_neg h3]; right; right; exact ⟨h2, by omega, rfl, rfl⟩
  have h' : ∀ x : Bs, (rk0 x = -1 ∧ wt x = 0) ∨ (rk0 x = 0 ∧ wt x = 1) ∨ (1 ≤ rk0 x ∧ rk0 x < 257 ∧ (wt x : Int) = rk0 x + 1) ∨ (300 ≤ rk0 x ∧ (wt x : Int) = rk0 x - 42) := fun x => by
    cases x with
    | nil => right; left; exact ⟨rfl, rfl⟩
    | cons c x =>
      rcases h c with ⟨_, r, k⟩ | ⟨_, l, _, r, k⟩ | ⟨_, l, r, k⟩
      · left; exact ⟨r, k⟩
      · right; right; left
        show 1 ≤ rk c ∧ rk c < 257 ∧ ((wtN c.toNat : Nat) : Int) = rk c + 1
        omega
      · right; right; right
        show 300 ≤ rk c ∧ ((wtN c.toNat : Nat) : Int) = rk c - 42
        omega
  have hx := h' x
  have hy := h' y
  clear h h'
  generalize wt x = a at *
  generalize wt y = c at *
  generalize rk0 x = p at *
  generalize rk0 y = q at *
  unfold Lib.compareInt sgn
  (repeat' split) <;> omega
/-- An equal first, and the rest. -/
theorem lex_map_step (x y : Bs) (hx : x ≠ [] ∨ y ≠ []) : lex (x.map rk) (y.map rk) = orr (sgn (rk0 x) (rk0 y)) (lex (x.tail.map rk) (y.tail.map rk)) := by
  cases x with
  | nil =>
    cases y with
    | nil => simp at hx
    | cons d y => rfl
  | cons c x =>
    cases y with
    | nil => rfl
    | cons d y => rfl
theorem rk0_same {x y : Bs} (h : sgn (rk0 x) (rk0 y) = 0) : x = [] ↔ y = [] := by
  cases x with
  | nil =>
    cases y with
    | nil => simp
    | cons d y => exact absurd h (sgn_ne (Ne.symm (rk_ne d)))
  | cons c x =>
    cases y with
    | nil => exact absurd h (sgn_ne (rk_ne c))
    | cons d y => simp
theorem orr_of_ne {p q : Int} {G : Int} (h : orr p q = G) (hp : p ≠ 0) : G = p := by rw [orr_ne hp] at h; exact h.symm
theorem orr_of_zero {p q : Int} {G : Int} (h : orr p q = G) (hp : p = 0) : q = G := by subst hp; rwa [orr_zero] at h
theorem tail_drop (l : Bs) (i : Nat) : (l.drop i).tail = l.drop (i + 1) := by rw [← List.drop_one, List.drop_drop]
set_option maxRecDepth 100000 in
theorem weight_any (s : ByteArray) (i : Nat) (w : World) (hs : s.size ≤ 9223372036854775807) (hi : i ≤ s.size) :
    Calls Tryd.prog 54 #[.string s, .int .i64 i] w fun e w' => e = .returned (.int .i64 (wt ((li s).drop i))) ∧ w' = w := by
  obtain ⟨G, hG⟩ : ∃ G, wt ((li s).drop i) = G := ⟨_, rfl⟩
  have HG := Lib.hid hG
  rw [hG]
  clear hG
  by_cases h : i = s.size
  · have hG : G = 1 := by rw [← HG.out, List.drop_eq_nil_of_le (by rw [li_len]; omega)]; rfl
    subst h
    subst hG
    clear HG
    go_enter Tryd.func54, Tryd.ntmps54
    go_wp2_with fail
    go_ret
    exact ⟨rfl, rfl⟩
  · have hlt : i < s.size := by omega
    have hlt' : (i : Int) < (s.size : Int) := by omega
    have hne : ¬ (i : Int) = (s.size : Int) := by omega
    have hG : G = wtN (b s i) := by
      obtain ⟨c, hc, hb⟩ := li_drop s i hlt
      rw [← HG.out, hc, ← hb]; rfl
    have hbc := b_eq s i hlt
    have hbl := b_lt s i
    obtain ⟨c, hc⟩ : ∃ c, b s i = c := ⟨_, rfl⟩
    rw [hc] at hbc hbl hG
    clear hc HG
    by_cases h126 : c = 126
    · subst h126
      have : wtN 126 = 0 := by decide
      rw [this] at hG
      subst hG
      go_enter Tryd.func54, Tryd.ntmps54
      go_wp2_with fail
      go_ret
      exact ⟨rfl, rfl⟩
    · have h126' : ¬ (c : Int) = 126 := by omega
      unfold wtN at hG
      rw [if_neg h126] at hG
      go_enter Tryd.func54, Tryd.ntmps54
      go_wp2_with fail
      refine (isLetter_any _ _).mono ?_
      rintro e w' ⟨rfl, rfl⟩
      cases ha : alfN c
      · rw [ha, if_neg (by simp)] at hG
        go_wp2_with fail
        go_ret
        subst hG
        exact ⟨by first | rfl | (congr 2; omega), rfl⟩
      · rw [ha, if_pos rfl] at hG
        go_wp2_with fail
        go_ret
        subst hG
        exact ⟨by first | rfl | (congr 2; omega), rfl⟩
set_option maxRecDepth 100000 in
set_option maxHeartbeats 2000000 in
theorem compareSigns_any (s t : ByteArray) (w : World) (hs : s.size ≤ 9223372036854775807) (ht : t.size ≤ 9223372036854775807) :
    Calls Tryd.prog 38 #[.string s, .string t] w fun e w' => e = .returned (.int .i64 (lex ((li s).map rk) ((li t).map rk))) ∧ w' = w := by
  obtain ⟨G, hG⟩ : ∃ G, lex ((li s).map rk) ((li t).map rk) = G := ⟨_, rfl⟩
  have HG := Lib.hid hG
  rw [hG]
  clear hG
  go_enter Tryd.func38, Tryd.ntmps38
  go_wp2
  go_loopg [12] s.size (fun gf s12 wx => ∃ pos : Nat, s12 = .int .i64 pos ∧ wx = w ∧ Hid (lex (((li s).drop pos).map rk) (((li t).drop pos).map rk) = G) ∧ s.size ≤ pos + gf ∧ pos ≤ s.size ∧ pos ≤ t.size)
  case atStart => exact ⟨0, rfl, rfl, (by rw [List.drop_zero, List.drop_zero]; exact HG.out), by omega, by omega, by omega⟩
  case round =>
    obtain ⟨pos, rfl, rfl, HN, hfu, hps, hpt⟩ := hrel
    by_cases hlt : pos < s.size ∨ pos < t.size
    · have h1 : (li s).drop pos ≠ [] ∨ (li t).drop pos ≠ [] := by
        rcases hlt with h | h
        · left; obtain ⟨c, hc, _⟩ := li_drop s pos h; rw [hc]; simp
        · right; obtain ⟨c, hc, _⟩ := li_drop t pos h; rw [hc]; simp
      have h2 := lex_map_step _ _ h1
      rw [HN.out, tail_drop, tail_drop] at h2
      have c1 := weight_any s pos wr hs hps
      have c2 := weight_any t pos wr ht hpt
      have hsame : sgn (rk0 ((li s).drop pos)) (rk0 ((li t).drop pos)) = 0 → pos < s.size ∧ pos < t.size := fun h => by
        have := rk0_same h
        have e1 : (li s).drop pos = [] ↔ s.size ≤ pos := by rw [List.drop_eq_nil_iff, li_len]
        have e2 : (li t).drop pos = [] ↔ t.size ≤ pos := by rw [List.drop_eq_nil_iff, li_len]
        rw [e1, e2] at this
        omega
      have hc := wt_rk ((li s).drop pos) ((li t).drop pos)
      obtain ⟨a, ha⟩ : ∃ a, wt ((li s).drop pos) = a := ⟨_, rfl⟩
      obtain ⟨d, hd⟩ : ∃ d, wt ((li t).drop pos) = d := ⟨_, rfl⟩
      have c3 := Tryd.cmp_Compare_int a d wr
      rw [ha] at c1 hc
      rw [hd] at c2 hc
      rw [hc] at c3
      obtain ⟨x, hx⟩ : ∃ x, sgn (rk0 ((li s).drop pos)) (rk0 ((li t).drop pos)) = x := ⟨_, rfl⟩
      rw [hx] at c3 h2 hsame
      have H2 := Lib.hid h2
      clear hx hc ha hd h2 h1 HN HG
      have hmax : (pos : Int) < max (s.size : Int) (t.size : Int) := by omega
      go_wp2_with fail
      refine c1.mono ?_
      rintro e w' ⟨rfl, rfl⟩
      go_wp2_with fail
      refine c2.mono ?_
      rintro e w' ⟨rfl, rfl⟩
      go_wp2_with fail
      refine c3.mono ?_
      rintro e w' ⟨rfl, rfl⟩
      by_cases hz : x = 0
      · subst hz
        obtain ⟨k1, k2⟩ := hsame rfl
        obtain ⟨g', rfl⟩ : ∃ g', gk = g' + 1 := ⟨gk - 1, by omega⟩
        have HM := Lib.hid (orr_of_zero H2.out.symm rfl)
        clear hsame H2 c1 c2 c3
        go_wp2_with fail
        go_roundg g'
        case measure => omega
        case rel => exact ⟨pos + 1, by go_num, rfl, HM, by omega, by omega, by omega⟩
      · obtain rfl := orr_of_ne H2.out.symm hz
        clear hsame H2 c1 c2 c3
        go_wp2_with fail
        go_ret
        exact ⟨rfl, rfl⟩
    · have hG : G = 0 := by
        rw [← HN.out, List.drop_eq_nil_of_le (by rw [li_len]; omega), List.drop_eq_nil_of_le (by rw [li_len]; omega)]
        rfl
      subst hG
      have hmax : ¬ (pos : Int) < max (s.size : Int) (t.size : Int) := by omega
      clear HG HN
      go_wp2_with fail
      go_ret
      exact ⟨rfl, rfl⟩
end Ver
end Go.Proofs.YtkcdoipkpilacaaDoor

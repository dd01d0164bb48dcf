/-
The library's Or of some numbers; rows of digits by their numbers.
-/
import Derived.Test.YtkcdoipkpilacaaDoorVerNum
namespace Go.Proofs.YtkcdoipkpilacaaDoor
open Go.RowKit
set_option linter.unusedSimpArgs false
set_option linter.unusedVariables false
namespace Ver
open Txt (b b_eq b_lt)
/-- The first that is not 0. -/
def orl : List Int → Int
  | [] => 0
  | x :: r => orr x (orl r)
set_option maxRecDepth 100000 in
theorem cmpOr_any (xs : List Int) (k : Nat) (w : World) (hl : xs.length ≤ 100) (hc : ∀ i, i < xs.length → w.cell? ⟨k, i, none⟩ = some (.int .i64 (xs.getD i 0))) :
    Calls Tryd.prog 44 #[.slice (some ⟨k, 0, none⟩) xs.length xs.length] w fun e w' => e = .returned (.int .i64 (orl xs)) ∧ w' = w := by
  obtain ⟨G, hG⟩ : ∃ G, orl xs = G := ⟨_, rfl⟩
  have HG := Lib.hid hG
  have HC := Lib.hid hc
  rw [hG]
  clear hG hc
  obtain ⟨n, hn⟩ : ∃ n, xs.length = n := ⟨_, rfl⟩
  have HL := Lib.hid hn
  rw [hn] at hl ⊢
  clear hn
  go_enter Tryd.func44, Tryd.ntmps44
  go_wp2
  go_loopg [8] n (fun gf s8 wx => ∃ pos : Nat, s8 = .int .i64 pos ∧ wx = w ∧ Hid (orl (xs.drop pos) = G) ∧ n ≤ pos + gf ∧ pos ≤ n)
  case atStart => exact ⟨0, rfl, rfl, HG.out, by omega, by omega⟩
  case round =>
    obtain ⟨pos, rfl, rfl, HN, hfu, hps⟩ := hrel
    by_cases hlt : pos < n
    · have hlt' : (pos : Int) < (n : Int) := by omega
      have hlx : pos < xs.length := by rw [HL.out]; exact hlt
      have hcell := HC.out pos hlx
      have hd : xs.drop pos = xs.getD pos 0 :: xs.drop (pos + 1) := by
        rw [List.drop_eq_getElem_cons hlx, List.getD_eq_getElem?_getD, List.getElem?_eq_getElem hlx]; rfl
      have hN := HN.out
      rw [hd] at hN
      obtain ⟨x, hx⟩ : ∃ x, xs.getD pos 0 = x := ⟨_, rfl⟩
      rw [hx] at hN hcell
      have HN2 := Lib.hid hN
      clear hx hd hN HN
      obtain ⟨g', rfl⟩ : ∃ g', gk = g' + 1 := ⟨gk - 1, by omega⟩
      by_cases hz : x = 0
      · subst hz
        have HM := Lib.hid (orr_of_zero HN2.out rfl)
        clear HN2
        go_wp2_with fail
        go_roundg g'
        case measure => omega
        case rel => exact ⟨pos + 1, by go_num, rfl, HM, by omega, by omega⟩
      · obtain rfl := orr_of_ne HN2.out hz
        clear HN2 HG
        go_wp2_with fail
        go_ret
        exact ⟨rfl, rfl⟩
    · have hge : ¬ (pos : Int) < (n : Int) := by omega
      have hG : G = 0 := by
        rw [← HN.out, List.drop_eq_nil_of_le (by rw [HL.out]; omega)]; rfl
      subst hG
      clear HN HG
      go_wp2_with fail
      go_ret
      exact ⟨rfl, rfl⟩
theorem trimLeft_strip : ∀ l : Bs, Lib.trimLeftB l 48 = strip l
  | [] => by first | rfl | simp [Lib.trimLeftB, strip]
  | c :: r => by
    have := trimLeft_strip r
    unfold strip
    by_cases h : c = 48
    · subst h; rw [if_pos rfl, ← this]; first | rfl | simp [Lib.trimLeftB]
    · rw [if_neg h]; first | rfl | simp [Lib.trimLeftB, h]
/-- A list of bytes as a string. -/
def S (l : Bs) : ByteArray := ⟨l.toArray⟩
theorem S_li (l : Bs) : li (S l) = l := by simp [S]
theorem S_of {t : ByteArray} {l : Bs} (h : li t = l) : t = S l := by
  subst h
  apply ByteArray.ext
  simp [S]
theorem S_self (t : ByteArray) : S (li t) = t := (S_of rfl).symm
theorem S_size (l : Bs) : (S l).size = l.length := by rw [← li_len, S_li]
theorem cmp_sgn (x y : Int) : Lib.compareInt x y = sgn x y := by
  unfold Lib.compareInt sgn
  (repeat' split) <;> omega
set_option maxRecDepth 100000 in
theorem compareNumbers_any (s t : ByteArray) (w : World) (hs : s.size ≤ 9223372036854775807) (ht : t.size ≤ 9223372036854775807) :
    Calls Tryd.prog 39 #[.string s, .string t] w fun e w' => e = .returned (.int .i64 (numB (li s) (li t))) ∧ Below w.heap.size w w' := by
  have c1 := Tryd.strings_TrimLeft_one s 48 (by decide) w
  have c2 := Tryd.strings_TrimLeft_one t 48 (by decide) w
  rw [trimLeft_strip] at c1 c2
  have e1 : (S (strip (li s))).size = (strip (li s)).length := S_size _
  have e2 : (S (strip (li t))).size = (strip (li t)).length := S_size _
  have c3 := Tryd.cmp_Compare_int ((strip (li s)).length : Nat) ((strip (li t)).length : Nat) w
  rw [cmp_sgn, ← e1, ← e2] at c3
  have c4 := Tryd.strings_Compare (S (strip (li s))) (S (strip (li t))) w
  rw [show (S (strip (li s))).data.toList = strip (li s) from S_li _, show (S (strip (li t))).data.toList = strip (li t) from S_li _] at c4
  have hnum : numB (li s) (li t) = orr (sgn ((S (strip (li s))).size : Int) ((S (strip (li t))).size : Int)) (Lib.compareBytes (strip (li s)) (strip (li t))) := by
    rw [e1, e2]; rfl
  rw [hnum]
  clear hnum e1 e2
  change Calls _ _ _ _ fun e w' => e = .returned (.string (S (strip (li s)))) ∧ w' = w at c1
  change Calls _ _ _ _ fun e w' => e = .returned (.string (S (strip (li t)))) ∧ w' = w at c2
  generalize Lib.compareBytes (strip (li s)) (strip (li t)) = q at *
  generalize S (strip (li s)) = x at *
  generalize S (strip (li t)) = y at *
  generalize sgn (x.size : Int) (y.size : Int) = p at *
  go_enter Tryd.func39, Tryd.ntmps39
  go_wp2_with fail
  refine c1.mono ?_
  rintro e w' ⟨rfl, rfl⟩
  go_wp2_with fail
  refine c2.mono ?_
  rintro e w' ⟨rfl, rfl⟩
  go_wp2_with fail
  refine c3.mono ?_
  rintro e w' ⟨rfl, rfl⟩
  go_wp2_with fail
  refine c4.mono ?_
  rintro e w' ⟨rfl, rfl⟩
  clear c1 c2 c3 c4
  have c5 := cmpOr_any [p, q] w'.heap.size (w'.alloc (.cells #[.int .i64 p, .int .i64 q] 3)) (by simp) (by
    intro i hi
    rw [World.cell?_alloc_at _ _ _ _ (by simp)]
    have : i = 0 ∨ i = 1 := by simp at hi; omega
    rcases this with rfl | rfl <;> rfl)
  have e : orl [p, q] = orr p q := by
    show orr p (orr q 0) = _
    unfold orr; (repeat' split) <;> omega
  rw [e] at c5
  go_wp2_with fail
  refine c5.mono ?_
  rintro e w2 ⟨rfl, rfl⟩
  go_wp2_with fail
  go_ret
  exact ⟨rfl, (Below.refl _ _).alloc (Nat.le_refl _) _⟩
end Ver
end Go.Proofs.YtkcdoipkpilacaaDoor

/-
The reference's Part: by ranks, sign by sign, and by digits behind the noughts. The reference's Part.
-/
import Derived.Test.YtapmpdljapbpeaaGreatDoorVerPartK
import Derived.Deep.QuietTactic
namespace Go.Proofs.YtapmpdljapbpeaaGreatDoor
open Go.RowKit
set_option linter.unusedSimpArgs false
set_option linter.unusedVariables false
namespace Ver
open Txt (b b_eq b_lt)
def rkd : Bs → Int
  | [] => 0
  | c :: _ => if dig c then 0 else rk c
theorem at_sigs (l : Bs) (i : Nat) (h : i ≤ spn false l) : rkd (l.drop i) = rk0 ((sigs l).drop i) := by
  have hl := spn_le false l
  by_cases e : i = spn false l
  · subst e
    have h1 := spn_drop false l
    change headIs true (l.drop _) at h1
    rw [show (sigs l).drop (spn false l) = [] from List.drop_eq_nil_of_le (by unfold sigs; rw [List.length_take]; omega)]
    cases hb : l.drop (spn false l) with
    | nil => rfl
    | cons c r =>
      rw [hb] at h1
      have h1' : dig c = true := h1
      show (if dig c then 0 else rk c) = 0
      rw [if_pos h1']
  · have hi : i < l.length := by omega
    have hs : i < (sigs l).length := by unfold sigs; rw [List.length_take]; omega
    rw [List.drop_eq_getElem_cons hi, List.drop_eq_getElem_cons hs]
    have hg : (sigs l)[i] = l[i] := List.getElem_take
    rw [hg]
    have := spn_take false l (l[i]) (by
      change _ ∈ sigs l
      rw [← hg]; exact List.getElem_mem hs)
    show (if dig l[i] then 0 else rk l[i]) = rk l[i]
    rw [if_neg (by rw [this]; simp)]
theorem sigs_len (l : Bs) : (sigs l).length = spn false l := by unfold sigs; rw [List.length_take]; have := spn_le false l; omega
theorem rk0_zero {x : Bs} (h : rk0 x = 0) : x = [] := by
  cases x with
  | nil => rfl
  | cons c x => exact absurd h (rk_ne c)
theorem strip_app : ∀ (d r : Bs), headNo dig r → strip (d ++ r) = strip d ++ r
  | [], r, h => by
    cases r with
    | nil => rfl
    | cons c r =>
      have hc : dig c = false := h
      have : c ≠ 48 := fun e => by subst e; exact absurd hc (by decide)
      show strip (c :: r) = c :: r
      unfold strip; rw [if_neg this]
  | c :: d, r, h => by
    rw [List.cons_append]
    unfold strip
    by_cases e : c = 48
    · rw [if_pos e, if_pos e, strip_app d r h]
    · rw [if_neg e, if_neg e]; rfl
theorem spn_app : ∀ (d r : Bs), (∀ c ∈ d, dig c = true) → headNo dig r → spn true (d ++ r) = d.length
  | [], r, _, h => by
    cases r with
    | nil => rfl
    | cons c r =>
      have hc : dig c = false := h
      show spn true (c :: r) = 0
      unfold spn; rw [if_neg (by rw [hc]; simp)]
  | c :: d, r, hd, h => by
    rw [List.cons_append]
    unfold spn
    rw [if_pos (hd c (.head _)), spn_app d r (fun x hx => hd x (.tail _ hx)) h, List.length_cons]
theorem behind_nums (l : Bs) : behind l = nums l ++ rest l := by unfold nums rest; rw [List.take_append_drop]
theorem nums_dig (l : Bs) : ∀ c ∈ nums l, dig c = true := spn_take true (behind l)
theorem strip_behind (l : Bs) : strip (behind l) = strip (nums l) ++ rest l := by rw [behind_nums l, strip_app _ _ (rest_head l)]
theorem run_skip (l : Bs) : spn true (strip (behind l)) = (strip (nums l)).length := by
  rw [strip_behind, spn_app _ _ (fun c h => nums_dig l c (strip_sub _ c h)) (rest_head l)]
theorem behind_more {c : UInt8} {r : Bs} (h : dig c = false) : behind (c :: r) = behind r := by
  unfold behind
  rw [show spn false (c :: r) = spn false r + 1 by rw [spn, if_pos h], List.drop_succ_cons]
theorem behind_stop {l : Bs} (h : headIs true l) : behind l = l := by
  unfold behind
  cases l with
  | nil => rfl
  | cons c r =>
    have hc : dig c = true := h
    rw [show spn false (c :: r) = 0 by rw [spn, if_neg (by rw [hc]; simp)], List.drop_zero]
end Ver
end Go.Proofs.YtapmpdljapbpeaaGreatDoor
namespace Go.Proofs.YtapmpdljapbpeaaGreatDoor
open Go.RowKit
set_option linter.unusedSimpArgs false
set_option linter.unusedVariables false
namespace Ver
open Txt (b b_eq b_lt)
theorem cmp_step (x y : Bs) (i : Nat) (h1 : i < x.length) (h2 : i < y.length) : Lib.compareBytes (x.drop i) (y.drop i) = orr (sgn (x[i].toNat : Int) (y[i].toNat : Int)) (Lib.compareBytes (x.drop (i + 1)) (y.drop (i + 1))) := by
  rw [List.drop_eq_getElem_cons h1, List.drop_eq_getElem_cons h2, Lib.compareBytes]
  generalize x[i] = c
  generalize y[i] = d
  unfold sgn orr
  have e1 : (c < d) = ((c.toNat : Int) < d.toNat) := by rw [UInt8.lt_iff_toNat_lt]; simp
  have e2 : (d < c) = ((d.toNat : Int) < c.toNat) := by rw [UInt8.lt_iff_toNat_lt]; simp
  simp only [e1, e2]
  (repeat' split) <;> simp_all
theorem get_b (s : ByteArray) (i : Nat) (h : i < s.size) (h' : i < (li s).length) : (li s)[i].toNat = b s i := by
  unfold b; rw [dif_pos h]; rfl
theorem strip_len : ∀ d : Bs, (strip d).length ≤ d.length
  | [] => Nat.le_refl _
  | c :: d => by
    unfold strip
    split
    · exact Nat.le_trans (strip_len d) (by simp)
    · exact Nat.le_refl _
end Ver
end Go.Proofs.YtapmpdljapbpeaaGreatDoor

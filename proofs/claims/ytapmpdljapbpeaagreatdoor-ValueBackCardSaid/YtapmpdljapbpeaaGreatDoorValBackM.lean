/-
What has been read, written and read again, is the same: the mathematics.
-/
import Derived.Test.YtapmpdljapbpeaaGreatDoorValRead
import Derived.Test.YtapmpdljapbpeaaGreatDoorValWrite
import Derived.Test.YtapmpdljapbpeaaGreatDoorRelBack
namespace Go.Proofs.YtapmpdljapbpeaaGreatDoor
open Go.RowKit
set_option linter.unusedSimpArgs false
set_option linter.unusedVariables false
namespace Va
open Ver (Bs li li_len li_drop S S_self S_size S_li)
open Rl (At Pv Ats Pvs Clss Cls Vars LimA LimP LimC text atoms provs pvA wrt wCl wAt may whole rdC rdA rdP atom nmB isV items items_all whole_ok)
open Txt (b)
/-! ### counts -/
theorem val_pos {s : ByteArray} (h0 : b s 0 ≠ 48) (hd : Txt.dgt (b s 0) = true) : ∀ i, 1 ≤ Txt.valP s (i + 1)
  | 0 => by
    have h : 48 ≤ b s 0 := by unfold Txt.dgt at hd; simp at hd; omega
    simp only [Txt.valP]; omega
  | i + 1 => by
    have := val_pos h0 hd i
    rw [Txt.valP]; omega
theorem dec_val {s : ByteArray} (hd : ∀ j, j < s.size → Txt.dgt (b s j) = true) (h0 : 1 < s.size → b s 0 ≠ 48) : ∀ i, i + 1 ≤ s.size → Lib.decDigits (Txt.valP s (i + 1)) = (li s).take (i + 1)
  | 0, hi => by
    obtain ⟨c, hc, hb⟩ := li_drop s 0 (by omega)
    rw [List.drop_zero] at hc
    have h := hd 0 (by omega)
    have h1 : 48 ≤ b s 0 ∧ b s 0 ≤ 57 := by unfold Txt.dgt at h; simp at h; omega
    have hv : Txt.valP s 1 = b s 0 - 48 := by simp [Txt.valP]
    rw [hv, Lib.decDigits_one (by omega), hc, List.take_succ_cons, List.take_zero]
    congr 1
    rw [show 48 + (b s 0 - 48) = c.toNat by omega]
    exact UInt8.ofNat_toNat
  | i + 1, hi => by
    have ih := dec_val hd h0 i (by omega)
    have h := hd (i + 1) (by omega)
    have h1 : 48 ≤ b s (i + 1) ∧ b s (i + 1) ≤ 57 := by unfold Txt.dgt at h; simp at h; omega
    have hp := val_pos (h0 (by omega)) (hd 0 (by omega)) i
    have hv : Txt.valP s (i + 1 + 1) = 10 * Txt.valP s (i + 1) + (b s (i + 1) - 48) := by simp [Txt.valP]
    obtain ⟨c, hc, hb⟩ := li_drop s (i + 1) (by omega)
    rw [hv, Lib.decDigits, dif_neg (by omega), show (10 * Txt.valP s (i + 1) + (b s (i + 1) - 48)) / 10 = Txt.valP s (i + 1) by omega, show (10 * Txt.valP s (i + 1) + (b s (i + 1) - 48)) % 10 = b s (i + 1) - 48 by omega, ih]
    have hl : i + 1 < (li s).length := by rw [li_len]; omega
    rw [List.take_succ_eq_append_getElem hl]
    congr 1
    rw [show 48 + (b s (i + 1) - 48) = c.toNat by omega, UInt8.ofNat_toNat]
    have e : ((li s).drop (i + 1))[0]? = some c := by rw [hc]; rfl
    rw [List.getElem?_drop, Nat.add_zero, List.getElem?_eq_getElem hl] at e
    injection e with e
    rw [e]
theorem itoa_back {s : ByteArray} (h : Txt.numOK s) : (⟨(Lib.itoa (Txt.numOf s)).toArray⟩ : ByteArray) = s := by
  have h1 : Txt.numOf s = Txt.valP s s.size := by unfold Txt.numOf; rw [if_pos h]
  obtain ⟨⟨⟨ha, hb⟩, hc⟩, hd⟩ := h
  obtain ⟨k, hk⟩ : ∃ k, s.size = k + 1 := ⟨s.size - 1, by omega⟩
  have e := dec_val hd (fun h2 h3 => hc ⟨h2, h3⟩) k (by omega)
  rw [← hk, show (li s).take s.size = li s by rw [← li_len, List.take_length]] at e
  unfold Lib.itoa
  rw [if_neg (by omega), h1, Int.toNat_natCast, e]
/-! ### relations -/
theorem atom_may {l : Bs} {a : At} {r : Bs} (h : atom l = some (a, r)) : may a = true := by
  unfold Rl.atom at h
  repeat' split at h
  all_goals first
    | (cases h; done)
    | (injection h with h; injection h with h1 h2; subst h1; assumption)
theorem rdA_may {l : Bs} {a : At} {r : Bs} (h : rdA l = .ok (a, r)) : may a = true := by
  unfold Rl.rdA at h
  cases hq : atom l with
  | none => rw [hq] at h; cases h
  | some q =>
    rw [hq] at h
    obtain ⟨x, y⟩ := q
    cases h
    exact atom_may hq
theorem txA_ne {a : At} (h : may a = true) : wAt a ≠ [] := by
  unfold Rl.wAt
  rw [if_pos h]
  obtain ⟨n, r, v⟩ := a
  unfold Rl.may at h
  simp only [Bool.and_eq_true] at h
  unfold Rl.txA
  have hn : n ≠ [] := fun e => by rw [e] at h; exact absurd h.1 (by decide)
  split <;> simp [hn]
theorem join_ne {sep : Bs} : ∀ {l : List Bs}, l ≠ [] → (∀ x ∈ l, x ≠ []) → Lib.join l sep ≠ []
  | [], h, _ => absurd rfl h
  | [x], _, hx => by rw [Lib.join_one]; exact hx x (by simp)
  | x :: y :: l, _, hx => by
    rw [show Lib.join (x :: y :: l) sep = x ++ (sep ++ Lib.join (y :: l) sep) from Rl.join_two _ _ _ _]
    have := hx x (by simp)
    simp [this]
theorem wrt_ok {α : Type} {most : Nat} {sep : Bs} {f : α → Bs} {l : List α} (h0 : l ≠ []) (h1 : l.length ≤ most) (h2 : ∀ x ∈ l, f x ≠ []) : wrt most sep f l ≠ [] := by
  unfold Rl.wrt
  rw [if_neg (by omega), if_neg]
  · refine join_ne (by simpa using h0) fun y hy => ?_
    obtain ⟨x, hx, rfl⟩ := List.mem_map.1 hy
    exact h2 x hx
  · rw [List.any_eq_true]
    rintro ⟨x, hx, hy⟩
    exact h2 x hx (List.isEmpty_iff.1 hy)
theorem items_ne {α : Type} {rdx : Bs → Except Int (α × Bs)} {c : UInt8} : ∀ k l xs r, items rdx c k l = .ok (xs, r) → xs ≠ []
  | 0, l, xs, r, h => by cases h
  | k + 1, l, xs, r, h => by
    unfold Rl.items at h
    repeat' split at h
    all_goals first
      | (cases h; done)
      | (cases h; simp)
theorem lim_at {a : At} (h : may a = true) : a.1.length ≤ 140737488351232 ∧ a.2.2.length ≤ 140737488351232 := by
  have := Rl.may_sizes h
  omega
theorem whole_all {α : Type} {rdx : Bs → Except Int (α × Bs)} (P : α → Prop) (hP : ∀ l x r, rdx l = .ok (x, r) → P x) {s : Bs} {xs : List α} (h : whole rdx s = .ok xs) : ∀ x ∈ xs, P x := by
  rcases whole_ok h with rfl | ⟨r, h1⟩
  · intro x hx; cases hx
  · exact items_all P hP 12 _ _ _ h1
/-- Clauses that were read. -/
theorem clauses_read {s : Bs} {xs : List (List At)} (h : whole rdC s = .ok xs) : (text xs ≠ [] ∨ xs = []) ∧ LimC xs := by
  have hc : ∀ c ∈ xs, (c ≠ [] ∧ c.length ≤ 6) ∧ ∀ a ∈ c, may a = true := whole_all (fun c => (c ≠ [] ∧ c.length ≤ 6) ∧ ∀ a ∈ c, may a = true) (fun l x r hx => ⟨⟨items_ne 6 l x r hx, Rl.items_len 6 l x r hx⟩, items_all (fun a => may a = true) (fun l x r h => rdA_may h) 6 l x r hx⟩) h
  refine ⟨?_, fun c hcm a ha => lim_at ((hc c hcm).2 a ha)⟩
  by_cases h0 : xs = []
  · exact .inr h0
  · refine .inl (wrt_ok h0 (Rl.whole_len h) fun c hcm => ?_)
    exact wrt_ok (hc c hcm).1.1 (hc c hcm).1.2 fun a ha => txA_ne ((hc c hcm).2 a ha)
theorem atoms_read {s : Bs} {xs : List At} (h : whole rdA s = .ok xs) : (atoms xs ≠ [] ∨ xs = []) ∧ LimA xs := by
  have hc : ∀ a ∈ xs, may a = true := whole_all (fun a => may a = true) (fun l x r hx => rdA_may hx) h
  refine ⟨?_, fun a ha => lim_at (hc a ha)⟩
  by_cases h0 : xs = []
  · exact .inr h0
  · exact .inl (wrt_ok h0 (Rl.whole_len h) fun a ha => txA_ne (hc a ha))
theorem rdP_may {l : Bs} {p : Pv} {r : Bs} (h : rdP l = .ok (p, r)) : may (pvA p) = true := by
  unfold Rl.rdP at h
  cases hq : rdA l with
  | error e => rw [hq] at h; cases h
  | ok q =>
    rw [hq] at h
    obtain ⟨a, y⟩ := q
    have hm := rdA_may hq
    simp only [Rl.prv] at h
    split at h
    · rename_i hc
      cases h
      obtain ⟨n, rl, v⟩ := a
      simp only at hc
      unfold Rl.pvA
      unfold Rl.may at hm ⊢
      simp only [Bool.and_eq_true] at hm ⊢
      refine ⟨hm.1, ?_⟩
      rcases hc with rfl | rfl
      · have hv : v = [] := by have := hm.2; simpa using this
        subst hv
        simp
      · have h2 := hm.2
        simp only [show ¬ ((3 : Int) = 0) by decide, if_false, Bool.and_eq_true] at h2
        by_cases hv : v = []
        · subst hv
          exact absurd h2.2 (by decide)
        · rw [if_neg hv]
          simp only [show ¬ ((3 : Int) = 0) by decide, if_false, Bool.and_eq_true]
          exact h2
    · cases h
theorem provs_read {s : Bs} {xs : List Pv} (h : whole rdP s = .ok xs) : (provs xs ≠ [] ∨ xs = []) ∧ LimP xs := by
  have hc : ∀ p ∈ xs, may (pvA p) = true := whole_all (fun p => may (pvA p) = true) (fun l x r hx => rdP_may hx) h
  refine ⟨?_, fun p hp => lim_at (hc p hp)⟩
  by_cases h0 : xs = []
  · exact .inr h0
  · exact .inl (wrt_ok h0 (Rl.whole_len h) fun p hp => txA_ne (hc p hp))
theorem wrB_yes {l : Bs} {n : Nat} (h : l ≠ [] ∨ n = 0) : wrB (S l) n = true := by
  unfold wrB
  rcases h with h | h
  · have : ((S l).toList == []) = false := beq_eq_false_iff_ne.2 fun e => h (by rw [← S_li l]; rw [Lib.toList_data] at e; exact e)
    rw [this]; rfl
  · rw [decide_eq_true h, Bool.or_true]
theorem nil_lim : LimC [] ∧ LimA [] ∧ LimP [] := ⟨fun c hc => (by cases hc), fun c hc => (by cases hc), fun c hc => (by cases hc)⟩
/-- What has been read is written, and read again the same. -/
theorem back {k : Nat} {s : ByteArray} {x : Vl} (h : rd k s = .ok x) : wrK x = true ∧ rd k (wrT x) = .ok x ∧ x.Lim := by
  have n0 : (Lit.int .i64 0).wf = true := by decide
  have h' := h
  unfold rd at h
  split at h
  · rename_i hk
    split at h
    · cases h; exact ⟨rfl, h', nil_lim.1, nil_lim.2.1, nil_lim.2.2, n0⟩
    · cases h
  split at h
  · split at h
    · cases h; exact ⟨rfl, h', nil_lim.1, nil_lim.2.1, nil_lim.2.2, n0⟩
    · cases h
  split at h
  · rename_i hk
    subst hk
    cases hq : whole rdC (li s) with
    | error e => rw [hq] at h; cases h
    | ok xs =>
      rw [hq] at h
      cases h
      obtain ⟨h1, h2⟩ := clauses_read hq
      refine ⟨wrB_yes (h1.imp id fun e => by rw [e]; rfl), ?_, h2, nil_lim.2.1, nil_lim.2.2, n0⟩
      show asV .clauses (whole rdC (li (S (text xs)))) = _
      rw [S_li, Rl.text_own h1]; rfl
  split at h
  · rename_i hk
    subst hk
    cases hq : whole rdA (li s) with
    | error e => rw [hq] at h; cases h
    | ok xs =>
      rw [hq] at h
      cases h
      obtain ⟨h1, h2⟩ := atoms_read hq
      refine ⟨wrB_yes (h1.imp id fun e => by rw [e]; rfl), ?_, nil_lim.1, h2, nil_lim.2.2, n0⟩
      show asV .atoms (whole rdA (li (S (atoms xs)))) = _
      rw [S_li, Rl.atoms_own h1]; rfl
  split at h
  · rename_i hk
    subst hk
    cases hq : whole rdP (li s) with
    | error e => rw [hq] at h; cases h
    | ok xs =>
      rw [hq] at h
      cases h
      obtain ⟨h1, h2⟩ := provs_read hq
      refine ⟨wrB_yes (h1.imp id fun e => by rw [e]; rfl), ?_, nil_lim.1, nil_lim.2.1, h2, n0⟩
      show asV .provs (whole rdP (li (S (provs xs)))) = _
      rw [S_li, Rl.provs_own h1]; rfl
  split at h
  · rename_i hk
    subst hk
    split at h
    · cases h
      refine ⟨rfl, ?_, nil_lim.1, nil_lim.2.1, nil_lim.2.2, n0⟩
      show (if yesT = yesT then Except.ok (Vl.yes true) else if yesT = noT then .ok (.yes false) else .error 3) = _
      rw [if_pos rfl]
    split at h
    · cases h
      refine ⟨rfl, ?_, nil_lim.1, nil_lim.2.1, nil_lim.2.2, n0⟩
      show (if noT = yesT then Except.ok (Vl.yes true) else if noT = noT then .ok (.yes false) else .error 3) = _
      rw [if_neg (by decide), if_pos rfl]
    · cases h
  split at h
  · rename_i hk
    subst hk
    split at h
    · rename_i hn
      cases h
      have hb := itoa_back hn
      refine ⟨rfl, ?_, nil_lim.1, nil_lim.2.1, nil_lim.2.2, ?_⟩
      · show rd 6 (⟨(Lib.itoa (Txt.numOf s)).toArray⟩ : ByteArray) = _
        rw [hb]; exact h'
      · have hv := Txt.valP_lt s s.size hn.2
        have hs := hn.1.1.2
        have hp : 10 ^ s.size ≤ 10 ^ 9 := Nat.pow_le_pow_right (by omega) hs
        have e : Txt.numOf s = Txt.valP s s.size := by unfold Txt.numOf; rw [if_pos hn]
        have hlt : Txt.numOf s < 1000000000 := by rw [e]; omega
        show (Lit.int .i64 ((Txt.numOf s : Nat) : Int)).wf = true
        simp [Lit.wf, IntKind.min, IntKind.max, IntKind.signed, IntKind.bits]
        omega
    · cases h
  · cases h; exact ⟨rfl, h', nil_lim.1, nil_lim.2.1, nil_lim.2.2, n0⟩
theorem rd_ne' {k : Nat} {s : ByteArray} {e : Int} (h : rd k s = .error e) : e ≠ 0 := by
  unfold rd at h
  repeat' split at h
  all_goals first
    | (cases h; done)
    | (cases h; decide)
    | skip
  · cases hq : whole rdC (li s) with
    | ok xs => rw [hq] at h; cases h
    | error e' => rw [hq] at h; cases h; exact er_ne (fun l e h => Rl.rdC_err h) hq
  · cases hq : whole rdA (li s) with
    | ok xs => rw [hq] at h; cases h
    | error e' => rw [hq] at h; cases h; exact er_ne (fun l e h => Rl.rdA_er l e h) hq
  · cases hq : whole rdP (li s) with
    | ok xs => rw [hq] at h; cases h
    | error e' => rw [hq] at h; cases h; exact er_ne (fun l e h => rdP_er l e h) hq
theorem wrT_long {α : Type} {most m : Nat} {sep : Bs} {f : α → Bs} (l : List α) (h : ∀ x, (f x).length ≤ m) : (wrt most sep f l).length ≤ most * (m + sep.length) := by
  unfold Rl.wrt
  split
  · simp
  · split
    · simp
    · rename_i h0 _
      have := Rl.join_len sep m (l.map f) fun l hl => by
        obtain ⟨a, _, rfl⟩ := List.mem_map.1 hl
        exact h a
      rw [List.length_map] at this
      exact Nat.le_trans this (Nat.mul_le_mul_right _ (by omega))
theorem wrT_size {k : Nat} {s : ByteArray} {x : Vl} (hs : s.size ≤ 140737488351232) (h : rd k s = .ok x) : (wrT x).size ≤ 4611686018427387904 := by
  cases x with
  | none => exact Nat.zero_le _
  | yes c => cases c <;> decide
  | clauses l => 
    show (S (text l)).size ≤ _
    rw [S_size]
    exact Nat.le_trans (wrT_long l Rl.wCl_len) (by decide)
  | atoms l => 
    show (S (atoms l)).size ≤ _
    rw [S_size]
    exact Nat.le_trans (wrT_long l Rl.wAt_len) (by decide)
  | provs l => 
    show (S (provs l)).size ≤ _
    rw [S_size]
    exact Nat.le_trans (wrT_long l fun p => Rl.wAt_len (pvA p)) (by decide)
  | text t =>
    obtain rfl : t = s := by
      unfold rd at h
      repeat' split at h
      all_goals first
        | (cases h; done)
        | (cases h; rfl)
        | skip
      · cases hq : whole rdC (li s) <;> rw [hq] at h <;> cases h
      · cases hq : whole rdA (li s) <;> rw [hq] at h <;> cases h
      · cases hq : whole rdP (li s) <;> rw [hq] at h <;> cases h
    exact Nat.le_trans hs (by decide)
  | count n =>
    have e : wrT (.count n) = s := by
      unfold rd at h
      repeat' split at h
      all_goals first
        | (cases h; done)
        | (cases h; exact itoa_back (by assumption))
        | skip
      · cases hq : whole rdC (li s) <;> rw [hq] at h <;> cases h
      · cases hq : whole rdA (li s) <;> rw [hq] at h <;> cases h
      · cases hq : whole rdP (li s) <;> rw [hq] at h <;> cases h
    rw [e]
    exact Nat.le_trans hs (by decide)
end Va
end Go.Proofs.YtapmpdljapbpeaaGreatDoor

/-
The library's FieldsFunc and TrimFunc at white space are the words, and the trimmed text, by bytes.
-/
import Derived.Test.YtgolnfgkoolpoaaDoorWordsMath
import Derived.Test.YtgolnfgkoolpoaaDoorTextGoodK
import Derived.Lib.TrimUEq
import Derived.Lib.FieldsP
namespace Go.Proofs.YtgolnfgkoolpoaaDoor
open Go.Lib
set_option linter.unusedSimpArgs false
set_option linter.unusedVariables false
namespace Txt
theorem len_list (s : ByteArray) : s.data.toList.length = s.size := by rw [Array.length_toList]; rfl
theorem drop_cons (s : ByteArray) (k : Nat) (h : k < s.size) : ∃ c, s.data.toList.drop k = c :: s.data.toList.drop (k + 1) ∧ c.toNat = b s k := by
  have hl : k < s.data.toList.length := by rw [len_list]; exact h
  refine ⟨s.data.toList[k], List.drop_eq_getElem_cons hl, ?_⟩
  unfold b
  rw [dif_pos h]
  rfl
theorem W_b {s : ByteArray} {k : Nat} {c : UInt8} (h : c.toNat = b s k) : W c = wht (b s k) := by unfold W; rw [h]
theorem wht_high {r : Nat} (h : 128 ≤ r) : wht r = false := by unfold wht; simp; omega
theorem drop_run (s : ByteArray) (k : Nat) : ∀ n, k + n ≤ s.size → (∀ j, j < n → wht (b s (k + j)) = false) → ∃ x, s.data.toList.drop k = x ++ s.data.toList.drop (k + n) ∧ x.length = n ∧ Black x
  | 0, _, _ => ⟨[], by simp, rfl, fun _ h => by cases h⟩
  | n + 1, h, hb => by
    obtain ⟨x, h1, h2, h3⟩ := drop_run s k n (by omega) (fun j hj => hb j (by omega))
    obtain ⟨c, h4, h5⟩ := drop_cons s (k + n) (by omega)
    refine ⟨x ++ [c], ?_, by simp [h2], fun d hd => ?_⟩
    · rw [h1, h4]; simp [Nat.add_assoc]
    · rcases List.mem_append.1 hd with h | h
      · exact h3 d h
      · rw [List.mem_singleton.1 h, W_b h5]; exact hb n (by omega)
theorem sz_bytes (s : ByteArray) (i : Nat) (h : 128 ≤ b s i) : ∀ j, j < sz s i → 128 ≤ b s (i + j) := by
  intro j hj
  have o := fun k lo hi (q : on s k lo hi = true) => (on_iff s k lo hi).1 q
  unfold sz at hj
  simp only at hj
  rw [if_neg (by omega)] at hj
  rcases (by omega : j = 0 ∨ j = 1 ∨ j = 2 ∨ j = 3 ∨ 4 ≤ j) with rfl | rfl | rfl | rfl | hj4
  · exact h
  all_goals
    split at hj
    · next q => first | omega | (have := (o _ _ _ q.2.2).2.1; omega)
    split at hj
    · next q => first | omega | (have q1 := (o _ _ _ q.2.1).2.1; have q2 := (o _ _ _ q.2.2).2.1; omega)
    split at hj
    · next q => first | omega | (have q1 := (o _ _ _ q.2.1).2.1; have q2 := (o _ _ _ q.2.2).2.1; omega)
    split at hj
    · next q => first | omega | (have q1 := (o _ _ _ q.2.2.2.1).2.1; have q2 := (o _ _ _ q.2.2.2.2).2.1; omega)
    split at hj
    · next q => first | omega | (have q1 := (o _ _ _ q.2.1).2.1; have q2 := (o _ _ _ q.2.2.1).2.1; have q3 := (o _ _ _ q.2.2.2).2.1; omega)
    split at hj
    · next q => first | omega | (have q1 := (o _ _ _ q.2.1).2.1; have q2 := (o _ _ _ q.2.2.1).2.1; have q3 := (o _ _ _ q.2.2.2).2.1; omega)
    split at hj
    · next q => first | omega | (have q1 := (o _ _ _ q.2.2.1).2.1; have q2 := (o _ _ _ q.2.2.2.1).2.1; have q3 := (o _ _ _ q.2.2.2.2).2.1; omega)
    omega
/-- One step of the library's reading: a white byte, or some bytes that are not white. -/
theorem step (s : ByteArray) (k : Nat) (h : k < s.size) : (wht (Utf8.decode s k).1 = true ∧ (Utf8.decode s k).2 = 1 ∧ wht (b s k) = true) ∨
    (wht (Utf8.decode s k).1 = false ∧ 1 ≤ (Utf8.decode s k).2 ∧ k + (Utf8.decode s k).2 ≤ s.size ∧ ∀ j, j < (Utf8.decode s k).2 → wht (b s (k + j)) = false) := by
  by_cases hb : b s k < 128
  · rw [dec_low s k h hb]
    cases hw : wht (b s k)
    · exact .inr ⟨rfl, by omega, by show k + 1 ≤ s.size; omega, fun j hj => by
        have : j = 0 := by have : j < 1 := hj
                           omega
        subst this; exact hw⟩
    · exact .inl ⟨rfl, rfl, rfl⟩
  · right
    rcases dec_high s k h (by omega) with ⟨h0, hd⟩ | ⟨h1, h2, h3, h4⟩
    · rw [hd]
      refine ⟨by decide, by omega, by show k + 1 ≤ s.size; omega, fun j hj => ?_⟩
      have : j = 0 := by have : j < 1 := hj
                         omega
      subst this; rw [Nat.add_zero]; exact wht_high (by omega)
    · rw [h3]
      exact ⟨wht_high h4, by omega, h2, fun j hj => wht_high (sz_bytes s k (by omega) j hj)⟩
theorem ext_list (s : ByteArray) (i j : Nat) (h : j ≤ s.size) : (s.extract i j).data.toList = (s.data.toList.drop i).take (j - i) := by
  simp [ByteArray.data_extract, List.extract_eq_take_drop]
def curOf (s : ByteArray) (pos : Nat) : Option Nat → List UInt8
  | none => []
  | some a => (s.data.toList.drop a).take (pos - a)
theorem cur_more (s : ByteArray) (a pos n : Nat) (x : List UInt8) (h : a ≤ pos) (hx : s.data.toList.drop pos = x ++ s.data.toList.drop (pos + n)) (hn : x.length = n) :
    curOf s (pos + n) (some a) = curOf s pos (some a) ++ x := by
  show (s.data.toList.drop a).take (pos + n - a) = (s.data.toList.drop a).take (pos - a) ++ x
  rw [show pos + n - a = (pos - a) + n by omega, List.take_add, List.drop_drop, show a + (pos - a) = pos by omega, hx, List.take_left' hn]
theorem cur_ne (s : ByteArray) (a pos : Nat) (h : a < pos) (hp : pos ≤ s.size) : curOf s pos (some a) ≠ [] := by
  intro e
  have := congrArg List.length e
  unfold curOf at this
  simp [len_list] at this
  have h1 : s.data.toList.length = s.size := len_list s
  simp at h1
  omega
theorem fields_from (s : ByteArray) : ∀ f pos st acc, s.size ≤ pos + f → pos ≤ s.size → (∀ a, st = some a → a < pos) →
    (closeSpans s (spansFromP wht s f pos st acc)).map (fun x => (s.extract x.1 x.2).data.toList) = acc.map (fun x => (s.extract x.1 x.2).data.toList) ++ go (curOf s pos st) (s.data.toList.drop pos) := by
  intro f
  induction f with
  | zero =>
    intro pos st acc hf hp hst
    have hpe : pos = s.size := by omega
    subst hpe
    rw [show s.data.toList.drop s.size = [] by rw [← len_list]; exact List.drop_length, go_nil]
    unfold spansFromP closeSpans
    cases st with
    | none => simp [curOf, close]
    | some a =>
      have := cur_ne s a s.size (hst a rfl) (by omega)
      unfold close
      rw [if_neg this]
      simp only [List.map_append, List.map_cons, List.map_nil]
      rw [ext_list s a s.size (by omega)]
      rfl
  | succ f ih =>
    intro pos st acc hf hp hst
    by_cases hlt : pos < s.size
    · unfold spansFromP
      rw [if_pos hlt]
      rcases step s pos hlt with ⟨h1, h2, h3⟩ | ⟨h1, h2, h3, h4⟩
      · rw [if_pos h1, h2]
        obtain ⟨c, hc, hcb⟩ := drop_cons s pos hlt
        have hw : W c = true := by rw [W_b hcb]; exact h3
        rw [hc, go_white hw]
        cases st with
        | none =>
          show (closeSpans s (spansFromP wht s f (pos + 1) none acc)).map _ = _
          rw [ih (pos + 1) none acc (by omega) (by omega) (fun a h => by cases h)]
          simp [curOf, close]
        | some a =>
          show (closeSpans s (spansFromP wht s f (pos + 1) none (acc ++ [(a, pos)]))).map _ = _
          rw [ih (pos + 1) none _ (by omega) (by omega) (fun a h => by cases h)]
          have := cur_ne s a pos (hst a rfl) (by omega)
          unfold close
          rw [if_neg this]
          simp only [List.map_append, List.map_cons, List.map_nil, List.append_assoc]
          rw [ext_list s a pos (by omega)]
          rfl
      · rw [if_neg (by rw [h1]; simp)]
        generalize (Utf8.decode s pos).2 = n at *
        obtain ⟨x, hx1, hx2, hx3⟩ := drop_run s pos n h3 h4
        rw [hx1, go_plain hx3]
        cases st with
        | none =>
          show (closeSpans s (spansFromP wht s f (pos + n) (some pos) acc)).map _ = _
          rw [ih (pos + n) (some pos) acc (by omega) (by omega) (fun a h => by cases h; omega), cur_more s pos pos n x (by omega) hx1 hx2]
          simp [curOf]
        | some a =>
          show (closeSpans s (spansFromP wht s f (pos + n) (some a) acc)).map _ = _
          have := hst a rfl
          rw [ih (pos + n) (some a) acc (by omega) (by omega) (fun a' h => by cases h; omega), cur_more s a pos n x (by omega) hx1 hx2]
    · have hpe : pos = s.size := by omega
      subst hpe
      rw [spansFromP_end wht s _ _ st acc hlt, show s.data.toList.drop s.size = [] by rw [← len_list]; exact List.drop_length, go_nil]
      unfold closeSpans
      cases st with
      | none => simp [curOf, close]
      | some a =>
        have := cur_ne s a s.size (hst a rfl) (by omega)
        unfold close
        rw [if_neg this]
        simp only [List.map_append, List.map_cons, List.map_nil]
        rw [ext_list s a s.size (by omega)]
        rfl
theorem fields_words (s : ByteArray) : (goFieldsP wht s).map (·.data.toList) = wordsL s.data.toList := by
  have := fields_from s s.size 0 none [] (by omega) (by omega) (fun a h => by cases h)
  simp only [List.map_nil, List.nil_append, List.drop_zero] at this
  unfold goFieldsP
  rw [List.map_map]
  exact this
theorem left_from (s : ByteArray) : ∀ f pos, s.size ≤ pos + f → pos ≤ s.size →
    (idxFuncFrom wht false s f pos = -1 ∧ trimLeft (s.data.toList.drop pos) = []) ∨ ∃ n : Nat, n < s.size ∧ idxFuncFrom wht false s f pos = (n : Int) ∧ trimLeft (s.data.toList.drop pos) = s.data.toList.drop n := by
  intro f
  induction f with
  | zero =>
    intro pos hf hp
    left
    rw [show pos = s.size by omega, show s.data.toList.drop s.size = [] by rw [← len_list]; exact List.drop_length]
    exact ⟨rfl, rfl⟩
  | succ f ih =>
    intro pos hf hp
    by_cases hlt : pos < s.size
    · unfold idxFuncFrom
      rw [if_pos hlt]
      obtain ⟨c, hc, hcb⟩ := drop_cons s pos hlt
      rcases step s pos hlt with ⟨h1, h2, h3⟩ | ⟨h1, h2, h3, h4⟩
      · rw [if_neg (by rw [h1]; simp), h2, hc]
        have e : trimLeft (c :: s.data.toList.drop (pos + 1)) = trimLeft (s.data.toList.drop (pos + 1)) := by
          conv => lhs; unfold trimLeft
          rw [if_pos (by rw [W_b hcb]; exact h3)]
        rw [e]
        exact ih (pos + 1) (by omega) (by omega)
      · rw [if_pos h1]
        right
        refine ⟨pos, hlt, rfl, ?_⟩
        rw [hc]
        have := h4 0 (by omega)
        rw [Nat.add_zero] at this
        exact trimLeft_keep (by rw [W_b hcb]; exact this) _
    · left
      rw [idxFuncFrom_end wht false s _ pos hlt, show pos = s.size by omega, show s.data.toList.drop s.size = [] by rw [← len_list]; exact List.drop_length]
      exact ⟨rfl, rfl⟩
theorem left_list (s : ByteArray) : (trimLeftF wht s).data.toList = trimLeft s.data.toList := by
  have := left_from s s.size 0 (by omega) (by omega)
  rw [List.drop_zero] at this
  unfold trimLeftF idxFunc
  rcases this with ⟨h1, h2⟩ | ⟨n, h0, h1, h2⟩
  · rw [if_pos h1, h2]
  · rw [if_neg (by omega), h1, h2, Int.toNat_natCast, ext_list s n s.size (by omega)]
    exact List.take_of_length_le (by rw [List.length_drop, len_list]; omega)
theorem getD_b (s : ByteArray) (k : Nat) (h : k < s.size) : (s.data.toList.getD k 0).toNat = b s k := by
  rw [getD_get!', b_get s k h]
theorem take_snoc (s : ByteArray) (i : Nat) (h : i < s.size) : ∃ c, s.data.toList.take (i + 1) = s.data.toList.take i ++ [c] ∧ c.toNat = b s i := by
  have hl : i < s.data.toList.length := by rw [len_list]; exact h
  refine ⟨s.data.toList[i], by rw [List.take_succ_eq_append_getElem hl], ?_⟩
  unfold b
  rw [dif_pos h]
  rfl
/-- Where the right end is found. -/
theorem right_from (s : ByteArray) : ∀ f i, i ≤ f → i ≤ s.size → OpenAt s.data.toList i →
    (lastIdxFuncFrom wht false s f i = -1 ∧ trimRight (s.data.toList.take i) = []) ∨
    ∃ n : Nat, n < s.size ∧ lastIdxFuncFrom wht false s f i = (n : Int) ∧ n + (Utf8.decode s n).2 ≤ s.size ∧ trimRight (s.data.toList.take i) = s.data.toList.take (n + (Utf8.decode s n).2) := by
  intro f
  induction f with
  | zero =>
    intro i hf hp _
    left
    rw [show i = 0 by omega]
    exact ⟨rfl, rfl⟩
  | succ f ih =>
    intro i hf hp ho
    by_cases h0 : 0 < i
    · unfold lastIdxFuncFrom
      rw [if_pos h0]
      have hil : i ≤ s.data.toList.length := by rw [len_list]; exact hp
      have hfw := fw_width s.data.toList i h0 hil ho
      have hlc := last_cases s.data.toList i h0 hil
      obtain ⟨m, rfl⟩ : ∃ m, i = m + 1 := ⟨i - 1, by omega⟩
      rw [Nat.add_sub_cancel] at hlc
      have hgb := getD_b s m (by omega)
      rw [hgb] at hlc
      obtain ⟨c, hc, hcb⟩ := take_snoc s m (by omega)
      have hwid : wht (decodeLastL (s.data.toList.take (m + 1))).1 = wht (b s m) ∧ (wht (b s m) = true → (decodeLastL (s.data.toList.take (m + 1))).2 = 1) ∧ (decodeLastL (s.data.toList.take (m + 1))).2 ≤ m + 1 ∧ 1 ≤ (decodeLastL (s.data.toList.take (m + 1))).2 := by
        have hw := decodeLastL_width (s.data.toList.take (m + 1)) (by rw [List.length_take]; omega)
        rw [List.length_take] at hw
        refine ⟨?_, ?_, by omega, hw.1⟩
        · rcases hlc with ⟨ha, hd⟩ | ⟨ha, hd⟩ | ⟨ha, st, hst, hd, hsum⟩
          · rw [hd]
          · rw [hd, wht_high (show 128 ≤ ((65533, 1) : Nat × Nat).1 by decide), wht_high ha]
          · rw [wht_high ha]
            rw [hd]
            have : 128 ≤ (decodeL ((s.data.toList.take (m + 1)).drop st)).1 := by
              have hsz : (⟨((s.data.toList.take (m + 1)).drop st).toArray⟩ : ByteArray).size = m + 1 - st := by
                show ((s.data.toList.take (m + 1)).drop st).toArray.size = _
                rw [List.size_toArray, List.length_drop, List.length_take]; omega
              generalize hq : (⟨((s.data.toList.take (m + 1)).drop st).toArray⟩ : ByteArray) = q at hsz
              have hdq : decodeL ((s.data.toList.take (m + 1)).drop st) = Utf8.decode q 0 := by unfold decodeL; rw [hq]
              rw [hdq] at hsum ⊢
              by_cases hlow : b q 0 < 128
              · exfalso
                rw [dec_low q 0 (by omega) hlow] at hsum
                have hsm : st = m := by have : st + 1 = m + 1 := hsum
                                        omega
                have e : b q 0 = b s m := by
                  have := b_get q 0 (by omega)
                  rw [← this, ← getD_get!', ← hq]
                  show (((s.data.toList.take (m + 1)).drop st).toArray.toList.getD 0 0).toNat = _
                  rw [List.toList_toArray, getD_dropU, Nat.add_zero, hsm, getD_takeU _ _ _ (by omega)]; exact hgb
                omega
              · rcases dec_high q 0 (by omega) (by omega) with ⟨_, h⟩ | ⟨_, _, _, h⟩
                · rw [h]; decide
                · exact h
            exact wht_high this
        · intro hw1
          rcases hlc with ⟨ha, hd⟩ | ⟨ha, hd⟩ | ⟨ha, st, hst, hd, hsum⟩
          · rw [hd]
          · rw [hd]
          · rw [wht_high ha] at hw1; cases hw1
      obtain ⟨hw1, hw2, hw3, hw4⟩ := hwid
      rw [hw1]
      cases hwb : wht (b s m)
      · rw [if_pos rfl]
        right
        rw [decodeL_drop] at hfw
        refine ⟨m + 1 - (decodeLastL (s.data.toList.take (m + 1))).2, by omega, rfl, by rw [hfw]; omega, ?_⟩
        rw [hfw, show m + 1 - (decodeLastL (s.data.toList.take (m + 1))).2 + (decodeLastL (s.data.toList.take (m + 1))).2 = m + 1 by omega, hc]
        exact trimRight_keep (by rw [W_b hcb]; exact hwb) _
      · rw [if_neg (by simp), hw2 hwb, Nat.add_sub_cancel]
        have hopen : OpenAt s.data.toList m := .inr (by
          rw [hgb]
          unfold wht at hwb
          simp at hwb
          omega)
        have e : trimRight (s.data.toList.take (m + 1)) = trimRight (s.data.toList.take m) := by
          rw [hc]
          exact trimRight_back (fun d hd => by rw [List.mem_singleton.1 hd, W_b hcb]; exact hwb) _
        rw [e]
        exact ih m (by omega) (by omega) hopen
    · left
      rw [show i = 0 by omega]
      exact ⟨lastIdxFuncFrom_zero wht false s _, rfl⟩
theorem right_list (s : ByteArray) : (trimRightF wht s).data.toList = trimRight s.data.toList := by
  have := right_from s s.size s.size (by omega) (by omega) (.inl (len_list s).symm)
  rw [List.take_of_length_le (by rw [len_list]; omega)] at this
  unfold trimRightF rightEndF lastIdxFunc
  rcases this with ⟨h1, h2⟩ | ⟨n, h0, h1, hle, h2⟩
  · rw [if_neg (by omega), h2, ext_list s 0 0 (by omega)]
    rfl
  · rw [if_pos (by omega), h1, Int.toNat_natCast, h2]
    have hd : decodeGoB (s.extract n s.size) = Utf8.decode s n := decode_drop s n h0
    rw [hd, ext_list s 0 _ hle]
    rfl
theorem trim_list (s : ByteArray) : (trimF wht s).data.toList = trimL s.data.toList := by
  unfold trimF trimL
  rw [right_list, left_list]
end Txt
end Go.Proofs.YtgolnfgkoolpoaaDoor

/-
Stanzas as lists of bytes: pieces of good lines are good; what is read may be printed; a print's lines.
-/
import Derived.Test.YtgolnfgkoolpoaaDoorStzBack
import Derived.Test.YtgolnfgkoolpoaaDoorTextApp
namespace Go.Proofs.YtgolnfgkoolpoaaDoor
set_option linter.unusedSimpArgs false
set_option linter.unusedVariables false
namespace Txt
theorem good_right {a c : ByteArray} (ha : good a = -1) (h : good (a ++ c) = -1) : good c = -1 := by
  have := good_both (c := c) ha
  rw [h] at this
  rcases good_ge c with e | e
  · exact e
  · rw [if_neg (by omega)] at this; omega
theorem sz_app_eq (a c : ByteArray) (i : Nat) (hi : i < a.size) (h : i + sz (a ++ c) i ≤ a.size) (h0 : sz (a ++ c) i ≠ 0) : sz a i = sz (a ++ c) i := by
  by_cases ha : sz a i = 0
  · exfalso
    have hb := b_app_l a c i hi
    have t : ∀ {k lo hi}, k < a.size → on (a ++ c) k lo hi = true → on a k lo hi = true := fun {k lo hi} hk h => by
      rw [on_iff] at h ⊢
      rw [b_app_l a c k hk] at h
      exact ⟨hk, h.2⟩
    unfold sz at ha h h0
    rw [hb] at h h0
    simp only at ha h h0
    by_cases c1 : b a i < 128
    · rw [if_pos c1] at ha; omega
    rw [if_neg c1] at ha h h0
    by_cases c2 : 194 ≤ b a i ∧ b a i ≤ 223 ∧ on (a ++ c) (i + 1) 128 191 = true
    · rw [if_pos c2] at h
      rw [if_pos ⟨c2.1, c2.2.1, t (by omega) c2.2.2⟩] at ha; omega
    rw [if_neg c2] at h h0
    by_cases d2 : 194 ≤ b a i ∧ b a i ≤ 223 ∧ on a (i + 1) 128 191 = true
    · rw [if_pos d2] at ha; omega
    rw [if_neg d2] at ha
    by_cases c3 : b a i = 224 ∧ on (a ++ c) (i + 1) 160 191 = true ∧ on (a ++ c) (i + 2) 128 191 = true
    · rw [if_pos c3] at h
      rw [if_pos ⟨c3.1, t (by omega) c3.2.1, t (by omega) c3.2.2⟩] at ha; omega
    rw [if_neg c3] at h h0
    by_cases d3 : b a i = 224 ∧ on a (i + 1) 160 191 = true ∧ on a (i + 2) 128 191 = true
    · rw [if_pos d3] at ha; omega
    rw [if_neg d3] at ha
    by_cases c4 : b a i = 237 ∧ on (a ++ c) (i + 1) 128 159 = true ∧ on (a ++ c) (i + 2) 128 191 = true
    · rw [if_pos c4] at h
      rw [if_pos ⟨c4.1, t (by omega) c4.2.1, t (by omega) c4.2.2⟩] at ha; omega
    rw [if_neg c4] at h h0
    by_cases d4 : b a i = 237 ∧ on a (i + 1) 128 159 = true ∧ on a (i + 2) 128 191 = true
    · rw [if_pos d4] at ha; omega
    rw [if_neg d4] at ha
    by_cases c5 : 225 ≤ b a i ∧ b a i ≤ 239 ∧ b a i ≠ 237 ∧ on (a ++ c) (i + 1) 128 191 = true ∧ on (a ++ c) (i + 2) 128 191 = true
    · rw [if_pos c5] at h
      rw [if_pos ⟨c5.1, c5.2.1, c5.2.2.1, t (by omega) c5.2.2.2.1, t (by omega) c5.2.2.2.2⟩] at ha; omega
    rw [if_neg c5] at h h0
    by_cases d5 : 225 ≤ b a i ∧ b a i ≤ 239 ∧ b a i ≠ 237 ∧ on a (i + 1) 128 191 = true ∧ on a (i + 2) 128 191 = true
    · rw [if_pos d5] at ha; omega
    rw [if_neg d5] at ha
    by_cases c6 : b a i = 240 ∧ on (a ++ c) (i + 1) 144 191 = true ∧ on (a ++ c) (i + 2) 128 191 = true ∧ on (a ++ c) (i + 3) 128 191 = true
    · rw [if_pos c6] at h
      rw [if_pos ⟨c6.1, t (by omega) c6.2.1, t (by omega) c6.2.2.1, t (by omega) c6.2.2.2⟩] at ha; omega
    rw [if_neg c6] at h h0
    by_cases d6 : b a i = 240 ∧ on a (i + 1) 144 191 = true ∧ on a (i + 2) 128 191 = true ∧ on a (i + 3) 128 191 = true
    · rw [if_pos d6] at ha; omega
    rw [if_neg d6] at ha
    by_cases c7 : b a i = 244 ∧ on (a ++ c) (i + 1) 128 143 = true ∧ on (a ++ c) (i + 2) 128 191 = true ∧ on (a ++ c) (i + 3) 128 191 = true
    · rw [if_pos c7] at h
      rw [if_pos ⟨c7.1, t (by omega) c7.2.1, t (by omega) c7.2.2.1, t (by omega) c7.2.2.2⟩] at ha; omega
    rw [if_neg c7] at h h0
    by_cases d7 : b a i = 244 ∧ on a (i + 1) 128 143 = true ∧ on a (i + 2) 128 191 = true ∧ on a (i + 3) 128 191 = true
    · rw [if_pos d7] at ha; omega
    rw [if_neg d7] at ha
    by_cases c8 : 241 ≤ b a i ∧ b a i ≤ 243 ∧ on (a ++ c) (i + 1) 128 191 = true ∧ on (a ++ c) (i + 2) 128 191 = true ∧ on (a ++ c) (i + 3) 128 191 = true
    · rw [if_pos c8] at h
      rw [if_pos ⟨c8.1, c8.2.1, t (by omega) c8.2.2.1, t (by omega) c8.2.2.2.1, t (by omega) c8.2.2.2.2⟩] at ha; omega
    rw [if_neg c8] at h0
    exact h0 rfl
  · exact (sz_app_l hi ha).symm
theorem char_bytes (s : ByteArray) (i : Nat) (h : 128 ≤ b s i) : ∀ j, j < sz s i → 128 ≤ b s (i + j) := by
  intro j hj
  have o := fun k lo hi (q : on s k lo hi = true) => (on_iff s k lo hi).1 q
  unfold sz at hj
  simp only at hj
  rw [if_neg (by omega)] at hj
  rcases (by omega : j = 0 ∨ j = 1 ∨ j = 2 ∨ j = 3 ∨ 4 ≤ j) with rfl | rfl | rfl | rfl | hj4
  · exact h
  all_goals
    split at hj
    · next q => first | omega | (have := (o _ _ _ q.2.2).2.1; omega)
    split at hj
    · next q => first | omega | (have q1 := (o _ _ _ q.2.1).2.1; have q2 := (o _ _ _ q.2.2).2.1; omega)
    split at hj
    · next q => first | omega | (have q1 := (o _ _ _ q.2.1).2.1; have q2 := (o _ _ _ q.2.2).2.1; omega)
    split at hj
    · next q => first | omega | (have q1 := (o _ _ _ q.2.2.2.1).2.1; have q2 := (o _ _ _ q.2.2.2.2).2.1; omega)
    split at hj
    · next q => first | omega | (have q1 := (o _ _ _ q.2.1).2.1; have q2 := (o _ _ _ q.2.2.1).2.1; have q3 := (o _ _ _ q.2.2.2).2.1; omega)
    split at hj
    · next q => first | omega | (have q1 := (o _ _ _ q.2.1).2.1; have q2 := (o _ _ _ q.2.2.1).2.1; have q3 := (o _ _ _ q.2.2.2).2.1; omega)
    split at hj
    · next q => first | omega | (have q1 := (o _ _ _ q.2.2.1).2.1; have q2 := (o _ _ _ q.2.2.2.1).2.1; have q3 := (o _ _ _ q.2.2.2.2).2.1; omega)
    omega
theorem goodN_cut (a c : ByteArray) (hc : ∀ k, b c k < 128) : ∀ f F i, (a ++ c).size ≤ i + F → goodN (a ++ c) F i = -1 → goodN a f i = -1
  | 0, F, i, hF, _ => rfl
  | f + 1, F, i, hF, h => by
    have hsa := ByteArray.size_append (a := a) (b := c)
    by_cases hi : i < a.size
    · obtain ⟨F', rfl⟩ : ∃ F', F = F' + 1 := ⟨F - 1, by omega⟩
      unfold goodN at h
      rw [if_pos (by omega)] at h
      by_cases hb : sz (a ++ c) i = 0 ∨ ctl (b (a ++ c) i) = true
      · rw [if_pos hb] at h; omega
      · rw [if_neg hb] at h
        have h0 : sz (a ++ c) i ≠ 0 := fun e => hb (.inl e)
        have hle : i + sz (a ++ c) i ≤ a.size := by
          by_cases h1 : b (a ++ c) i < 128
          · rw [sz_one _ _ h1]; omega
          · by_cases h2 : i + sz (a ++ c) i ≤ a.size
            · exact h2
            · exfalso
              have h3 := char_bytes (a ++ c) i (by omega) (a.size - i) (by omega)
              rw [show i + (a.size - i) = a.size + 0 by omega, b_app_r] at h3
              have := hc 0
              omega
        have he := sz_app_eq a c i hi hle h0
        unfold goodN
        rw [if_pos hi, he, ← b_app_l a c i hi, if_neg hb]
        exact goodN_cut a c hc f F' _ (by omega) h
    · unfold goodN; rw [if_neg hi]
theorem good_left {a c : ByteArray} (hc : ∀ k, b c k < 128) (h : good (a ++ c) = -1) : good a = -1 := goodN_cut a c hc _ _ _ (by omega) h
theorem goodN_asc (s : ByteArray) (h : ∀ k, k < s.size → b s k < 128 ∧ ctl (b s k) = false) : ∀ f i, goodN s f i = -1
  | 0, i => rfl
  | f + 1, i => by
    unfold goodN
    split
    · next hi =>
      have := h i hi
      rw [sz_one s i this.1, if_neg (by rw [this.2]; simp)]
      exact goodN_asc s h f (i + 1)
    · rfl
theorem goodN_plain (s : ByteArray) : ∀ f i k, s.size ≤ i + f → goodN s f i = -1 → i ≤ k → k < s.size → b s k ≠ 10
  | 0, i, k, hf, _, hik, hk => by omega
  | f + 1, i, k, hf, h, hik, hk => by
    unfold goodN at h
    rw [if_pos (by omega)] at h
    by_cases hb : sz s i = 0 ∨ ctl (b s i) = true
    · rw [if_pos hb] at h; omega
    · rw [if_neg hb] at h
      have h0 : sz s i ≠ 0 := fun e => hb (.inl e)
      by_cases hlt : k < i + sz s i
      · by_cases h1 : b s i < 128
        · rw [sz_one s i h1] at hlt
          obtain rfl : k = i := by omega
          intro e
          apply hb
          right
          rw [e]; rfl
        · have := char_bytes s i (by omega) (k - i) (by omega)
          rw [show i + (k - i) = k by omega] at this
          omega
      · exact goodN_plain s f (i + sz s i) k (by omega) h (by omega) hk
end Txt
namespace Stz
open Txt (W trimL trimRight trimLeft White)
theorem mk_app (a c : Bs) : (⟨(a ++ c).toArray⟩ : ByteArray) = ⟨a.toArray⟩ ++ ⟨c.toArray⟩ := by
  apply ByteArray.ext
  rw [ByteArray.data_append]
  simp
theorem mk_size (a : Bs) : (⟨a.toArray⟩ : ByteArray).size = a.length := by simp [ByteArray.size]
theorem mk_b (a : Bs) (k : Nat) (h : k < a.length) : Txt.b ⟨a.toArray⟩ k = (a[k]).toNat := by
  unfold Txt.b
  rw [dif_pos (by rw [mk_size]; exact h)]
  rfl
theorem mk_b_out (a : Bs) (k : Nat) (h : ¬ k < a.length) : Txt.b ⟨a.toArray⟩ k = 0 := by
  unfold Txt.b
  rw [dif_neg (by rw [mk_size]; exact h)]
theorem good_app {a c : Bs} (ha : goodL a) (hc : goodL c) : goodL (a ++ c) := by
  unfold goodL at *
  rw [mk_app, Txt.good_both ha, if_pos hc]
theorem good_rest {a c : Bs} (ha : goodL a) (h : goodL (a ++ c)) : goodL c := by
  unfold goodL at *
  rw [mk_app] at h
  exact Txt.good_right ha h
theorem good_asc {a : Bs} (h : ∀ c ∈ a, c.toNat < 128 ∧ Txt.ctl c.toNat = false) : goodL a := by
  refine Txt.goodN_asc _ (fun k hk => ?_) _ _
  rw [mk_size] at hk
  rw [mk_b a k hk]
  exact h _ (List.getElem_mem hk)
theorem good_front {a c : Bs} (hc : ∀ d ∈ c, d.toNat < 128) (h : goodL (a ++ c)) : goodL a := by
  unfold goodL at *
  rw [mk_app] at h
  refine Txt.good_left (fun k => ?_) h
  by_cases hk : k < c.length
  · rw [mk_b c k hk]; exact hc _ (List.getElem_mem hk)
  · rw [mk_b_out c k hk]; omega
theorem good_plain {a : Bs} (h : goodL a) : ∀ c ∈ a, c ≠ 10 := by
  intro c hc
  obtain ⟨k, hk, rfl⟩ := List.mem_iff_getElem.1 hc
  have := Txt.goodN_plain ⟨a.toArray⟩ _ 0 k (by omega) h (by omega) (by rw [mk_size]; exact hk)
  rw [mk_b a k hk] at this
  intro e
  rw [e] at this
  exact this rfl
theorem white_asc {x : Bs} (h : White x) : ∀ c ∈ x, c.toNat < 128 ∧ Txt.ctl c.toNat = false := by
  intro c hc
  have h1 := h c hc
  unfold Txt.W Txt.wht at h1
  simp at h1
  rcases h1 with h1 | h1 <;> rw [h1] <;> decide
theorem good_right_trim {l : Bs} (h : goodL l) : goodL (trimRight l) := by
  obtain ⟨x, h1, h2, _⟩ := Txt.trimRight_eq l
  rw [h2] at h
  exact good_front (fun d hd => (white_asc h1 d hd).1) h
theorem good_trim {l : Bs} (h : goodL l) : goodL (trimL l) := by
  obtain ⟨x, h1, h2, _⟩ := Txt.trimLeft_eq l
  rw [h2] at h
  exact good_right_trim (good_rest (good_asc (white_asc h1)) h)
theorem good_nil : goodL [] := by decide
theorem name_asc {nm : Bs} (h : nameB nm = true) : ∀ c ∈ nm, c.toNat < 128 ∧ Txt.ctl c.toNat = false := by
  obtain ⟨_, _, _, _, _, hall⟩ := name_cons h
  intro c hc
  have := sgn_iff.1 (hall c hc)
  refine ⟨by omega, ?_⟩
  unfold Txt.ctl
  simp; omega
/-- Each line of a print that may be is good. -/
theorem good_first {nm x : Bs} (h : nameB nm = true) (hx : goodL x) : goodL (firstLine nm x) := by
  unfold firstLine
  split
  · exact good_app (good_asc (name_asc h)) (by decide)
  · rw [show nm ++ 58 :: 32 :: x = nm ++ ([58, 32] ++ x) by rfl]
    exact good_app (good_asc (name_asc h)) (good_app (by decide) hx)
theorem good_next {x : Bs} (hx : goodL x) : goodL (nextLine x) := by
  unfold nextLine
  split
  · decide
  · rw [show 32 :: x = [32] ++ x by rfl]
    exact good_app (by decide) hx
/-- A line that may be: good, and not too long. -/
def LineOK (x : Bs) : Prop := goodL x ∧ x.length ≤ 1000
theorem field_lines_ok {ahead : List Fld} {f : Fld} (h : fieldErr ahead f = 0) : ∀ x ∈ fieldLines f, LineOK x := by
  obtain ⟨h1, h2, h3, h4⟩ := err_field h
  obtain ⟨nm, ls⟩ := f
  intro x hx
  refine ⟨?_, h4 x hx⟩
  cases ls with
  | nil => cases hx
  | cons y r =>
    unfold textsOK firstOK nextOK at h2
    simp only [Bool.and_eq_true, List.all_eq_true, decide_eq_true_eq] at h2
    rcases List.mem_cons.1 hx with rfl | hx
    · exact good_first h1 h2.1.1
    · obtain ⟨z, hz, rfl⟩ := List.mem_map.1 hx
      exact good_next (h2.2 z hz).1
theorem stanza_lines_ok : ∀ (fs ahead : List Fld), fieldsErr ahead fs = 0 → ∀ x ∈ stanzaLines fs, LineOK x
  | [], _, _, x, hx => by cases hx
  | f :: r, ahead, h, x, hx => by
    obtain ⟨e1, e2⟩ := errs_cons h
    unfold stanzaLines at hx
    rw [List.flatMap_cons] at hx
    rcases List.mem_append.1 hx with hx | hx
    · exact field_lines_ok e1 x hx
    · exact stanza_lines_ok r _ e2 x hx
theorem stanza_err {s : Sz} (h : stanzaErr s = 0) : s.2 ≠ [] ∧ s.2.length ≤ 40 ∧ fieldsErr [] s.2 = 0 := by
  unfold stanzaErr at h
  split at h
  · cases h
  · next e => exact ⟨fun h => e (.inl h), by omega, h⟩
theorem all_lines_ok : ∀ (l : List Sz), eachErr l = 0 → ∀ x ∈ allLines l, LineOK x
  | [], _, x, hx => by cases hx
  | [s], h, x, hx => stanza_lines_ok _ _ (stanza_err (each_cons h).1).2.2 x hx
  | s :: t :: r, h, x, hx => by
    obtain ⟨e1, e2⟩ := each_cons h
    rcases List.mem_append.1 (show x ∈ stanzaLines s.2 ++ [] :: allLines (t :: r) from hx) with hx | hx
    · exact stanza_lines_ok _ _ (stanza_err e1).2.2 x hx
    · rcases List.mem_cons.1 hx with rfl | hx
      · exact ⟨good_nil, by simp⟩
      · exact all_lines_ok (t :: r) e2 x hx
/-! ### what is read may be printed -/
/-- A field that may stand behind these, but for its length. -/
def Fine (ahead : List Fld) (f : Fld) : Prop := nameB f.1 = true ∧ textsOK f.2 = true ∧ ahead.any (fun g => sameB g.1 f.1) = false
def FinesR (ahead : List Fld) : List Fld → Prop
  | [] => True
  | f :: r => Fine ahead f ∧ FinesR (ahead ++ [f]) r
theorem fines_app : ∀ (a : List Fld) (ahead c : List Fld), FinesR ahead (a ++ c) ↔ FinesR ahead a ∧ FinesR (ahead ++ a) c
  | [], ahead, c => by simp [FinesR]
  | f :: a, ahead, c => by
    show (Fine ahead f ∧ FinesR (ahead ++ [f]) (a ++ c)) ↔ (Fine ahead f ∧ FinesR (ahead ++ [f]) a) ∧ _
    rw [fines_app a (ahead ++ [f]) c, List.append_assoc]
    exact and_assoc.symm
def Whole (s : Sz) : Prop := s.2 ≠ [] ∧ s.2.length ≤ 40 ∧ FinesR [] s.2
/-- What has been read of good lines. -/
structure Valid (z : Zip) : Prop where
  done : ∀ s ∈ z.done, Whole s
  many : z.all.length ≤ 200
  cur : ∀ n fs f, z.cur = some (n, fs, f) → Whole (n, fs ++ [f])
theorem valid_start : Valid start := ⟨(fun s h => by cases h), (by simp [Zip.all, Zip.close, start]), (fun n fs f h => by cases h)⟩
theorem valid_close {z : Zip} (h : Valid z) : Valid z.close := by
  obtain ⟨d, q⟩ := z
  cases q with
  | none => exact h
  | some p =>
    obtain ⟨n, fs, f⟩ := p
    refine ⟨fun s hs => ?_, h.many, fun _ _ _ h => by cases h⟩
    rcases List.mem_append.1 (show s ∈ d ++ [(n, fs ++ [f])] from hs) with hs | hs
    · exact h.done s hs
    · rw [List.mem_singleton.1 hs]; exact h.cur n fs f rfl
theorem good_further {x : Bs} (h : goodL x) : goodL (further x) := by
  unfold further
  split
  · exact good_nil
  · exact good_right_trim h
theorem textsOK_snoc {ls : List Bs} {x : Bs} (h : textsOK ls = true) (hx : nextOK x = true) : textsOK (ls ++ [x]) = true := by
  cases ls with
  | nil => cases h
  | cons y r =>
    unfold textsOK at h
    show (firstOK y && (r ++ [x]).all nextOK) = true
    simp only [Bool.and_eq_true, List.all_append, List.all_cons, List.all_nil, Bool.and_true] at h ⊢
    exact ⟨h.1, h.2, hx⟩
theorem valid_take {z z' : Zip} {x : Bs} {n : Int} (h : Valid z) (hx : goodL x) (ht : take z x n = .ok z') : Valid z' := by
  unfold take at ht
  split at ht
  · cases ht; exact h
  split at ht
  · cases ht; exact valid_close h
  split at ht
  · next hw =>
    obtain ⟨d, q⟩ := z
    cases q with
    | none => cases ht
    | some p =>
      obtain ⟨k, fs, nm, ls⟩ := p
      cases ht
      have hc := h.cur k fs (nm, ls) rfl
      refine ⟨h.done, by have := h.many; simpa [Zip.all, Zip.close] using this, fun n' fs' f' e => ?_⟩
      simp only [Option.some.injEq, Prod.mk.injEq] at e
      obtain ⟨rfl, rfl, rfl⟩ := e
      obtain ⟨h1, h2, h3⟩ := hc
      refine ⟨by simp, by simpa using h2, ?_⟩
      simp only at h3
      show FinesR [] (fs ++ [(nm, ls ++ [further x.tail])])
      rw [fines_app] at h3 ⊢
      refine ⟨h3.1, ⟨h3.2.1.1, textsOK_snoc h3.2.1.2.1 ?_, h3.2.1.2.2⟩, trivial⟩
      unfold nextOK
      rw [further_further]
      simp only [beq_self_eq_true, Bool.and_true, decide_eq_true_eq]
      refine good_further ?_
      cases x with
      | nil => exact good_nil
      | cons c r =>
        rw [show c :: r = [c] ++ r by rfl] at hx
        refine good_rest (good_asc fun e he => ?_) hx
        rw [List.mem_singleton.1 he]
        exact white_asc (x := [c]) (fun e he => by rw [List.mem_singleton.1 he]; exact hw) c (.head _)
  · unfold field at ht
    cases hc : cutL x with
    | none => rw [hc] at ht; cases ht
    | some p =>
      obtain ⟨nm, r⟩ := p
      rw [hc] at ht
      simp only at ht
      split at ht
      · next hn =>
        have hr : firstOK (trimL r) = true := by
          unfold firstOK
          rw [Txt.trim_trim]
          simp only [beq_self_eq_true, Bool.and_true, decide_eq_true_eq]
          rw [(cut_eq hc).1, show nm ++ 58 :: r = nm ++ ([58] ++ r) by rfl] at hx
          exact good_trim (good_rest (by decide) (good_rest (good_asc (name_asc hn)) hx))
        unfold begin at ht
        obtain ⟨d, q⟩ := z
        cases q with
        | none =>
          simp only at ht
          split at ht
          · cases ht
          · next hl =>
            cases ht
            refine ⟨h.done, ?_, fun n' fs' f' e => ?_⟩
            · have := h.many
              simp [Zip.all, Zip.close] at this ⊢; omega
            · simp only [Option.some.injEq, Prod.mk.injEq] at e
              obtain ⟨rfl, rfl, rfl⟩ := e
              refine ⟨by simp, by simp, ⟨hn, ?_, rfl⟩, trivial⟩
              show (firstOK (trimL r) && [].all nextOK) = true
              rw [hr]; rfl
        | some p =>
          obtain ⟨k, fs, f⟩ := p
          simp only at ht
          split at ht
          · cases ht
          · next hl =>
            split at ht
            · cases ht
            · next hd =>
              cases ht
              have hcur := h.cur k fs f rfl
              obtain ⟨h1, h2, h3⟩ := hcur
              refine ⟨h.done, by have := h.many; simpa [Zip.all, Zip.close] using this, fun n' fs' f' e => ?_⟩
              simp only [Option.some.injEq, Prod.mk.injEq] at e
              obtain ⟨rfl, rfl, rfl⟩ := e
              refine ⟨by simp, by simp at h2 ⊢; omega, ?_⟩
              show FinesR [] ((fs ++ [f]) ++ [(nm, [trimL r])])
              rw [fines_app]
              refine ⟨h3, ⟨hn, ?_, by simpa using hd⟩, trivial⟩
              show (firstOK (trimL r) && [].all nextOK) = true
              rw [hr]; rfl
      · cases ht
theorem valid_run : ∀ (ls : List Bs) {z z' : Zip} (n : Nat), Valid z → (∀ x ∈ ls, goodL x) → run z n ls = .ok z' → Valid z'
  | [], z, z', n, h, _, hr => by cases hr; exact h
  | x :: r, z, z', n, h, hg, hr => by
    rw [run_cons] at hr
    cases ht : take z x n with
    | error e => rw [ht] at hr; cases hr
    | ok z1 =>
      rw [ht] at hr
      exact valid_run r (n + 1) (valid_take h (hg x (.head _)) ht) (fun y hy => hg y (.tail _ hy)) hr
theorem fine_err {ahead : List Fld} {f : Fld} (h : Fine ahead f) : fieldErr ahead f = 0 ∨ fieldErr ahead f = 2 := by
  unfold fieldErr
  rw [h.1, h.2.1, h.2.2]
  simp only [Bool.and_self, Bool.true_eq_false, if_false, Bool.false_eq_true]
  split
  · exact .inr rfl
  · exact .inl rfl
theorem fines_err : ∀ (fs ahead : List Fld), FinesR ahead fs → fieldsErr ahead fs = 0 ∨ fieldsErr ahead fs = 2
  | [], _, _ => .inl rfl
  | f :: r, ahead, h => by
    unfold fieldsErr
    rcases fine_err h.1 with e | e
    · rw [e]
      simp only [ne_eq, not_true, if_false]
      exact fines_err r _ h.2
    · rw [e]
      exact .inr rfl
theorem whole_err {s : Sz} (h : Whole s) : stanzaErr s = 0 ∨ stanzaErr s = 2 := by
  unfold stanzaErr
  rw [if_neg (by intro e; rcases e with e | e; exact h.1 e; have := h.2.1; omega)]
  exact fines_err _ _ h.2.2
theorem each_err : ∀ (l : List Sz), (∀ s ∈ l, Whole s) → eachErr l = 0 ∨ eachErr l = 2
  | [], _ => .inl rfl
  | s :: r, h => by
    unfold eachErr
    rcases whole_err (h s (.head _)) with e | e
    · rw [e]
      simp only [ne_eq, not_true, if_false]
      exact each_err r fun t ht => h t (.tail _ ht)
    · rw [e]
      exact .inr rfl
/-- P5.2, P5.5: what is read of good lines may be printed, but for its length. -/
theorem parsed_err {ls : List Bs} (hg : ∀ x ∈ ls, goodL x) {l : List Sz} {n : Nat} (h : parse ls = (l, 0, n)) : listErr l = 0 ∨ listErr l = 2 := by
  unfold parse at h
  cases hr : run start 1 ls with
  | error e =>
    rw [hr] at h
    simp only [Prod.mk.injEq] at h
    rw [← h.1]
    exact .inl rfl
  | ok z =>
    rw [hr] at h
    simp only [Prod.mk.injEq] at h
    obtain ⟨rfl, _, _⟩ := h
    have hv := valid_close (valid_run ls 1 valid_start hg hr)
    unfold listErr
    rw [if_neg (by have := (valid_run ls 1 valid_start hg hr).many; omega)]
    exact each_err _ hv.done
end Stz
end Go.Proofs.YtgolnfgkoolpoaaDoor

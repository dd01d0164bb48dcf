/-
Two texts side by side: their bytes, their characters, and where the first place is that is no good text.
-/
import Derived.Test.YtgolnfgkoolpoaaDoorTextAwake
import Derived.Laws.Concat
namespace Go.Proofs.YtgolnfgkoolpoaaDoor
open Go.RowKit
set_option linter.unusedSimpArgs false
set_option linter.unusedVariables false
namespace Txt
theorem b_app_l (a c : ByteArray) (k : Nat) (h : k < a.size) : b (a ++ c) k = b a k := by
  unfold b
  rw [dif_pos h, dif_pos (by rw [ByteArray.size_append]; omega), ByteArray.getElem_append_left h]
theorem b_app_r (a c : ByteArray) (k : Nat) : b (a ++ c) (a.size + k) = b c k := by
  unfold b
  by_cases h : k < c.size
  · rw [dif_pos h, dif_pos (by rw [ByteArray.size_append]; omega), ByteArray.getElem_append_right (by omega)]
    congr 2
    omega
  · rw [dif_neg h, dif_neg (by rw [ByteArray.size_append]; omega)]
theorem on_app_l {a c : ByteArray} {k lo hi : Nat} (h : on a k lo hi = true) : on (a ++ c) k lo hi = true := by
  rw [on_iff] at h ⊢
  rw [b_app_l a c k h.1, ByteArray.size_append]
  exact ⟨by omega, h.2⟩
theorem on_app_r (a c : ByteArray) (k lo hi : Nat) : on (a ++ c) (a.size + k) lo hi = on c k lo hi := by
  unfold on
  rw [b_app_r, ByteArray.size_append]
  congr 2
  simp
theorem sz_app_r (a c : ByteArray) (k : Nat) : sz (a ++ c) (a.size + k) = sz c k := by
  unfold sz
  simp only [b_app_r, Nat.add_assoc, on_app_r]
theorem sz_app_l {a c : ByteArray} {i : Nat} (hi : i < a.size) (h : sz a i ≠ 0) : sz (a ++ c) i = sz a i := by
  have m : ∀ {k lo hi}, on a k lo hi = true → on (a ++ c) k lo hi = true := fun h => on_app_l h
  unfold sz at h ⊢
  rw [b_app_l a c i hi]
  generalize b a i = n at *
  simp only at h ⊢
  by_cases h0 : n < 128
  · rw [if_pos h0, if_pos h0]
  rw [if_neg h0] at h ⊢
  rw [if_neg h0]
  split at h
  · next hh =>
    rw [if_pos hh]
    obtain ⟨c0, c1, o0⟩ := hh
    rw [if_pos ⟨c0, c1, m o0⟩]
  rename_i n0
  rw [if_neg n0]
  split at h
  · next hh =>
    rw [if_pos hh]
    obtain ⟨c0, o0, o1⟩ := hh
    rw [if_neg (fun q => by have q1 := q.1; have q2 := q.2.1; omega)]
    rw [if_pos ⟨c0, m o0, m o1⟩]
  rename_i n1
  rw [if_neg n1]
  split at h
  · next hh =>
    rw [if_pos hh]
    obtain ⟨c0, o0, o1⟩ := hh
    rw [if_neg (fun q => by have q1 := q.1; have q2 := q.2.1; omega)]
    rw [if_neg (fun q => by have q1 := q.1; have q2 := q.2.1; omega)]
    rw [if_pos ⟨c0, m o0, m o1⟩]
  rename_i n2
  rw [if_neg n2]
  split at h
  · next hh =>
    rw [if_pos hh]
    obtain ⟨c0, c1, c2, o0, o1⟩ := hh
    rw [if_neg (fun q => by have q1 := q.1; have q2 := q.2.1; omega)]
    rw [if_neg (fun q => by have q1 := q.1; have q2 := q.2.1; omega)]
    rw [if_neg (fun q => by have q1 := q.1; have q2 := q.2.1; omega)]
    rw [if_pos ⟨c0, c1, c2, m o0, m o1⟩]
  rename_i n3
  rw [if_neg n3]
  split at h
  · next hh =>
    rw [if_pos hh]
    obtain ⟨c0, o0, o1, o2⟩ := hh
    rw [if_neg (fun q => by have q1 := q.1; have q2 := q.2.1; omega)]
    rw [if_neg (fun q => by have q1 := q.1; have q2 := q.2.1; omega)]
    rw [if_neg (fun q => by have q1 := q.1; have q2 := q.2.1; omega)]
    rw [if_neg (fun q => by have q1 := q.1; have q2 := q.2.1; omega)]
    rw [if_pos ⟨c0, m o0, m o1, m o2⟩]
  rename_i n4
  rw [if_neg n4]
  split at h
  · next hh =>
    rw [if_pos hh]
    obtain ⟨c0, o0, o1, o2⟩ := hh
    rw [if_neg (fun q => by have q1 := q.1; have q2 := q.2.1; omega)]
    rw [if_neg (fun q => by have q1 := q.1; have q2 := q.2.1; omega)]
    rw [if_neg (fun q => by have q1 := q.1; have q2 := q.2.1; omega)]
    rw [if_neg (fun q => by have q1 := q.1; have q2 := q.2.1; omega)]
    rw [if_neg (fun q => by have q1 := q.1; have q2 := q.2.1; omega)]
    rw [if_pos ⟨c0, m o0, m o1, m o2⟩]
  rename_i n5
  rw [if_neg n5]
  split at h
  · next hh =>
    rw [if_pos hh]
    obtain ⟨c0, c1, o0, o1, o2⟩ := hh
    rw [if_neg (fun q => by have q1 := q.1; have q2 := q.2.1; omega)]
    rw [if_neg (fun q => by have q1 := q.1; have q2 := q.2.1; omega)]
    rw [if_neg (fun q => by have q1 := q.1; have q2 := q.2.1; omega)]
    rw [if_neg (fun q => by have q1 := q.1; have q2 := q.2.1; omega)]
    rw [if_neg (fun q => by have q1 := q.1; have q2 := q.2.1; omega)]
    rw [if_neg (fun q => by have q1 := q.1; have q2 := q.2.1; omega)]
    rw [if_pos ⟨c0, c1, m o0, m o1, m o2⟩]
  exact absurd rfl h
theorem goodN_le (s : ByteArray) : ∀ f i, goodN s f i = -1 ∨ (i : Int) ≤ goodN s f i
  | 0, i => .inl rfl
  | f + 1, i => by
    unfold goodN
    split
    · split
      · exact .inr (by omega)
      · rcases goodN_le s f (i + sz s i) with h | h
        · exact .inl h
        · exact .inr (by omega)
    · exact .inl rfl
theorem goodN_lt (s : ByteArray) : ∀ f i, goodN s f i < (s.size : Int)
  | 0, i => by unfold goodN; omega
  | f + 1, i => by
    unfold goodN
    split
    · split
      · omega
      · exact goodN_lt s f (i + sz s i)
    · omega
theorem goodN_fuel (s : ByteArray) : ∀ f g i, s.size ≤ i + f → s.size ≤ i + g → goodN s f i = goodN s g i
  | 0, 0, i, _, _ => rfl
  | 0, g + 1, i, h, _ => by unfold goodN; rw [if_neg (by omega)]
  | f + 1, 0, i, _, h => by unfold goodN; rw [if_neg (by omega)]
  | f + 1, g + 1, i, h, h' => by
    unfold goodN
    split
    · split
      · rfl
      · next hn =>
        have : sz s i ≠ 0 := fun e => hn (.inl e)
        exact goodN_fuel s f g (i + sz s i) (by omega) (by omega)
    · rfl
/-- Behind the first text the second one is read as it is by itself. -/
theorem goodN_right (a c : ByteArray) : ∀ f i, goodN (a ++ c) f (a.size + i) = (if goodN c f i = -1 then -1 else (a.size : Int) + goodN c f i)
  | 0, i => rfl
  | f + 1, i => by
    unfold goodN
    rw [sz_app_r, b_app_r, ByteArray.size_append]
    by_cases h : i < c.size
    · rw [if_pos (by omega), if_pos h]
      by_cases hb : sz c i = 0 ∨ ctl (b c i) = true
      · rw [if_pos hb, if_pos hb, if_neg (by omega)]; omega
      · rw [if_neg hb, if_neg hb, Nat.add_assoc]
        exact goodN_right a c f (i + sz c i)
    · rw [if_neg (by omega), if_neg h]; rfl
/-- A text without a bad place, and whatever behind it. -/
theorem goodN_left (a c : ByteArray) : ∀ f F i, a.size ≤ i + f → i ≤ a.size → (a ++ c).size ≤ i + F → goodN a f i = -1 → goodN (a ++ c) F i = goodN (a ++ c) F a.size
  | 0, F, i, h, h', hF, _ => by rw [show i = a.size by omega]
  | f + 1, F, i, h, h', hF, he => by
    by_cases hi : i < a.size
    · unfold goodN at he
      rw [if_pos hi] at he
      by_cases hb : sz a i = 0 ∨ ctl (b a i) = true
      · rw [if_pos hb] at he; omega
      · rw [if_neg hb] at he
        have h0 : sz a i ≠ 0 := fun e => hb (.inl e)
        have hsa := ByteArray.size_append (a := a) (b := c)
        obtain ⟨F', rfl⟩ : ∃ F', F = F' + 1 := ⟨F - 1, by omega⟩
        have hle := sz_le a i hi
        have ih := goodN_left a c f F' (i + sz a i) (by omega) hle (by omega) he
        have e1 : goodN (a ++ c) (F' + 1) i = goodN (a ++ c) F' (i + sz a i) := by
          conv => lhs; unfold goodN
          rw [if_pos (by omega), sz_app_l hi h0, b_app_l a c i hi, if_neg hb]
        rw [e1, ih]
        exact goodN_fuel _ _ _ _ (by omega) (by omega)
    · rw [show i = a.size by omega]
/-- A bad place of the first text stays the first one, or (a character cut off at its end) none is ahead of it. -/
theorem goodN_bad (a c : ByteArray) : ∀ f F i, a.size ≤ i + f → (a ++ c).size ≤ i + F → ∀ x : Nat, goodN a f i = (x : Int) → x < a.size ∧ (goodN (a ++ c) F i = (x : Int) ∨ (128 ≤ b a x ∧ (goodN (a ++ c) F i = -1 ∨ (x : Int) < goodN (a ++ c) F i)))
  | 0, F, i, h, hF, x, he => by unfold goodN at he; omega
  | f + 1, F, i, h, hF, x, he => by
    unfold goodN at he
    by_cases hi : i < a.size
    · have hsa := ByteArray.size_append (a := a) (b := c)
      obtain ⟨F', rfl⟩ : ∃ F', F = F' + 1 := ⟨F - 1, by omega⟩
      rw [if_pos hi] at he
      by_cases hb : sz a i = 0 ∨ ctl (b a i) = true
      · rw [if_pos hb] at he
        obtain rfl : i = x := by omega
        refine ⟨hi, ?_⟩
        by_cases h128 : b a i < 128
        · left
          have h1 := sz_one a i h128
          have hc : ctl (b a i) = true := by rcases hb with e | e; · omega
                                             · exact e
          unfold goodN
          rw [if_pos (by omega), b_app_l a c i hi, if_pos (.inr hc)]
        · unfold goodN
          rw [if_pos (by omega)]
          by_cases hb' : sz (a ++ c) i = 0 ∨ ctl (b (a ++ c) i) = true
          · rw [if_pos hb']; exact .inl rfl
          · rw [if_neg hb']
            have h0 : sz (a ++ c) i ≠ 0 := fun e => hb' (.inl e)
            refine .inr ⟨by omega, ?_⟩
            rcases goodN_le (a ++ c) F' (i + sz (a ++ c) i) with e | e
            · exact .inl e
            · exact .inr (by omega)
      · rw [if_neg hb] at he
        have h0 : sz a i ≠ 0 := fun e => hb (.inl e)
        have e1 : goodN (a ++ c) (F' + 1) i = goodN (a ++ c) F' (i + sz a i) := by
          conv => lhs; unfold goodN
          rw [if_pos (by omega), sz_app_l hi h0, b_app_l a c i hi, if_neg hb]
        rw [e1]
        exact goodN_bad a c f F' (i + sz a i) (by omega) (by omega) x he
    · rw [if_neg hi] at he; omega
theorem good_both {a c : ByteArray} (h : good a = -1) : good (a ++ c) = if good c = -1 then -1 else (a.size : Int) + good c := by
  have hsa := ByteArray.size_append (a := a) (b := c)
  have e1 := goodN_left a c a.size (a ++ c).size 0 (by omega) (by omega) (by omega) h
  have e2 := goodN_right a c (a ++ c).size 0
  have e3 := goodN_fuel c (a ++ c).size c.size 0 (by omega) (by omega)
  unfold good
  rw [e1]
  rw [Nat.add_zero] at e2
  rw [e2, e3]
theorem good_first {a c : ByteArray} {x : Nat} (h : good a = (x : Int)) : x < a.size ∧ (good (a ++ c) = (x : Int) ∨ (128 ≤ b a x ∧ (good (a ++ c) = -1 ∨ (x : Int) < good (a ++ c)))) :=
  goodN_bad a c a.size (a ++ c).size 0 (by omega) (by omega) x h
theorem good_ge (s : ByteArray) : good s = -1 ∨ 0 ≤ good s := goodN_le s s.size 0
theorem good_lt (s : ByteArray) : good s < (s.size : Int) := goodN_lt s s.size 0
end Txt
end Go.Proofs.YtgolnfgkoolpoaaDoor

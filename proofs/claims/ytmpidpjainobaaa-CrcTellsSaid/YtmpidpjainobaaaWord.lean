/-
Up to four bytes side by side are one word of the state, and the state loses nothing: rows that differ there have unlike sums.
-/
import Derived.Test.YtmpidpjainobaaaBytes
namespace Go.Proofs.Ytmpidpjainobaaa
namespace Crc

def Byte (l : List Int) : Prop := ∀ z ∈ l, 0 ≤ z ∧ z < 256
def wrd : List Int → Nat
  | [] => 0
  | b :: r => b.toNat + 256 * wrd r
theorem wrd_lt (l : List Int) (h : Byte l) : wrd l < 256 ^ l.length := by
  induction l with
  | nil => simp [wrd]
  | cons b r ih =>
    have hb := h b (by simp)
    have := ih (fun z hz => h z (by simp [hz]))
    simp only [wrd, List.length_cons, Nat.pow_succ]
    omega
theorem wrd_inj (l l' : List Int) (h : Byte l) (h' : Byte l') (hl : l.length = l'.length) (e : wrd l = wrd l') : l = l' := by
  induction l generalizing l' with
  | nil => cases l' with
    | nil => rfl
    | cons _ _ => simp at hl
  | cons b r ih => cases l' with
    | nil => simp at hl
    | cons b' r' =>
      have hb := h b (by simp)
      have hb' := h' b' (by simp)
      simp only [wrd] at e
      have e1 : b = b' := by omega
      have e2 : wrd r = wrd r' := by omega
      rw [e1, ih r' (fun z hz => h z (by simp [hz])) (fun z hz => h' z (by simp [hz])) (by simpa using hl) e2]
theorem it_up (x : Nat) (hx : x < 16777216) : it 8 (BitVec.ofNat 32 (2 ^ 8 * x)) = BitVec.ofNat 32 x := by
  rw [it_shift 8 _ (fun i hi => by
    rw [BitVec.getLsbD_ofNat, Nat.testBit_two_pow_mul]
    have : decide (i ≥ 8) = false := by simp; omega
    simp [this])]
  apply BitVec.eq_of_toNat_eq
  rw [BitVec.toNat_ushiftRight, BitVec.toNat_ofNat, BitVec.toNat_ofNat, Nat.mod_eq_of_lt (by omega), Nat.mod_eq_of_lt (by omega), Nat.shiftRight_eq_div_pow]
  omega
theorem ofNat_split (b x : Nat) (hb : b < 2 ^ 8) : BitVec.ofNat 32 (b + 2 ^ 8 * x) = BitVec.ofNat 32 b ^^^ BitVec.ofNat 32 (2 ^ 8 * x) := by
  apply BitVec.eq_of_getLsbD_eq
  intro i hi
  rw [BitVec.getLsbD_xor, BitVec.getLsbD_ofNat, BitVec.getLsbD_ofNat, BitVec.getLsbD_ofNat, Nat.add_comm, Nat.testBit_two_pow_mul_add _ hb, Nat.testBit_two_pow_mul]
  by_cases h : i < 8
  · have : decide (i ≥ 8) = false := by simp; omega
    simp [h, this]
  · have h1 : decide (i ≥ 8) = true := by simp; omega
    have h2 : b.testBit i = false := Nat.testBit_lt_two_pow (Nat.lt_of_lt_of_le hb (Nat.pow_le_pow_right (by decide) (by omega)))
    rw [if_neg h, h1, h2]
    simp
theorem bv_ofNat (b : Int) (h0 : 0 ≤ b) : bv b = BitVec.ofNat 32 b.toNat := by
  obtain ⟨n, rfl⟩ := Int.eq_ofNat_of_zero_le h0
  simp [bv]
theorem upd_byte (s : BitVec 32) (b : Int) (h : 0 ≤ b ∧ b < 256) : upd s (bv b) = it 8 (s ^^^ bv b) := upd_it _ _ (bv_small b h.1 h.2)
theorem fold_word (l : List Int) (h : Byte l) (hl : l.length ≤ 4) (s : BitVec 32) : fold s l = it (8 * l.length) (s ^^^ BitVec.ofNat 32 (wrd l)) := by
  induction l generalizing s with
  | nil => simp [fold, wrd, it]
  | cons b r ih =>
    have hb := h b (by simp)
    have hr : Byte r := fun z hz => h z (by simp [hz])
    have hr4 : r.length ≤ 3 := by simp at hl; omega
    have hlt : wrd r < 16777216 := Nat.lt_of_lt_of_le (wrd_lt r hr) (Nat.le_trans (Nat.pow_le_pow_right (by decide) hr4) (by decide))
    have e : fold s (b :: r) = fold (upd s (bv b)) r := rfl
    rw [e, ih hr (by omega), upd_byte s b hb]
    have e2 : 8 * (b :: r).length = 8 * r.length + 8 := by simp; omega
    rw [e2, it_add, ← it_up (wrd r) hlt, ← it_xor]
    congr 2
    simp only [wrd]
    rw [show (256 : Nat) = 2 ^ 8 from rfl, ofNat_split _ _ (by omega), bv_ofNat b hb.1, BitVec.xor_assoc]
theorem word_inj (l l' : List Int) (h : Byte l) (h' : Byte l') (hl : l.length = l'.length) (h4 : l.length ≤ 4) (s : BitVec 32) (e : fold s l = fold s l') : l = l' := by
  rw [fold_word l h h4, fold_word l' h' (by omega), hl] at e
  have e1 := it_inj _ e
  have e2 : BitVec.ofNat 32 (wrd l) = BitVec.ofNat 32 (wrd l') := by
    have := congrArg (s ^^^ ·) e1
    simpa [← BitVec.xor_assoc] using this
  have b1 : wrd l < 4294967296 := Nat.lt_of_lt_of_le (wrd_lt l h) (Nat.le_trans (Nat.pow_le_pow_right (by decide) h4) (by decide))
  have b2 : wrd l' < 4294967296 := Nat.lt_of_lt_of_le (wrd_lt l' h') (Nat.le_trans (Nat.pow_le_pow_right (by decide) (show l'.length ≤ 4 by omega)) (by decide))
  have e3 := congrArg BitVec.toNat e2
  rw [BitVec.toNat_ofNat, BitVec.toNat_ofNat, Nat.mod_eq_of_lt b1, Nat.mod_eq_of_lt b2] at e3
  exact wrd_inj l l' h h' hl e3
theorem fold_inj (l : List Int) (h : Byte l) (s s' : BitVec 32) (e : fold s l = fold s' l) : s = s' := by
  induction l generalizing s s' with
  | nil => exact e
  | cons b r ih =>
    have hb := h b (by simp)
    have : upd s (bv b) = upd s' (bv b) := ih (fun z hz => h z (by simp [hz])) _ _ e
    rw [upd_byte s b hb, upd_byte s' b hb] at this
    have := congrArg (· ^^^ bv b) (it_inj 8 this)
    simpa [BitVec.xor_assoc] using this
theorem fold_append (s : BitVec 32) (a b : List Int) : fold s (a ++ b) = fold (fold s a) b := by simp [fold]
/-- Rows of bytes that are alike but within four bytes side by side, and have one sum, are alike. -/
theorem tells (zs zs' : List Int) (h : Byte zs) (h' : Byte zs') (hl : zs.length = zs'.length) (a : Nat) (hp : zs.take a = zs'.take a) (hq : zs.drop (a + 4) = zs'.drop (a + 4))
    (e : more 0#32 zs = more 0#32 zs') : zs = zs' := by
  have sp : ∀ l : List Int, l = l.take a ++ ((l.drop a).take 4 ++ l.drop (a + 4)) := fun l => by
    rw [← List.drop_drop, List.take_append_drop, List.take_append_drop]
  have e1 : fold (~~~ 0#32) zs = fold (~~~ 0#32) zs' := by
    have := congrArg (fun v : BitVec 32 => ~~~ v) e
    simpa [more] using this
  rw [sp zs, sp zs', fold_append, fold_append, fold_append, fold_append, hp, hq] at e1
  have e2 := fold_inj _ (fun z hz => h' z (List.mem_of_mem_drop hz)) _ _ e1
  have e3 := word_inj _ _ (fun z hz => h z (List.mem_of_mem_drop (List.mem_of_mem_take hz))) (fun z hz => h' z (List.mem_of_mem_drop (List.mem_of_mem_take hz))) (by simp [hl]) (by simp; omega) _ e2
  rw [sp zs, sp zs', hp, e3, hq]

/-! ### Changed places -/
def chg (zs ys : List Int) (a : Nat) : Nat → List Int
  | 0 => zs
  | k + 1 => (chg zs ys a k).set (a + k) (bits .xor .u8 ((chg zs ys a k).getD (a + k) 0) (ys.getD k 0))
theorem chg_len (zs ys a k) : (chg zs ys a k).length = zs.length := by
  induction k with
  | zero => rfl
  | succ k ih => simp [chg, ih]
theorem chg_byte {zs ys : List Int} (h : Byte zs) (hy : Byte ys) (a k : Nat) : Byte (chg zs ys a k) := by
  induction k with
  | zero => exact h
  | succ k ih =>
    intro z hz
    simp only [chg] at hz
    rcases List.mem_or_eq_of_mem_set hz with h1 | h1
    · exact ih z h1
    · rw [h1]; exact u8_xor_lt _ _ (byte_at ih _) (byte_at hy _)
theorem chg_take (zs ys : List Int) (a k : Nat) : (chg zs ys a k).take a = zs.take a := by
  induction k with
  | zero => rfl
  | succ k ih => simp only [chg]; rw [List.take_set_of_le (by omega), ih]
theorem chg_drop (zs ys : List Int) (a k : Nat) (hk : k ≤ 4) : (chg zs ys a k).drop (a + 4) = zs.drop (a + 4) := by
  induction k with
  | zero => rfl
  | succ k ih => simp only [chg]; rw [List.drop_set_of_lt (by omega), ih (by omega)]
theorem chg_tells {zs ys : List Int} (h : Byte zs) (hy : Byte ys) (a k : Nat) (hk : k ≤ 4) (e : num (more 0#32 zs) = num (more 0#32 (chg zs ys a k))) : zs = chg zs ys a k :=
  tells _ _ h (chg_byte h hy a k) (chg_len _ _ _ _).symm a (chg_take _ _ _ _).symm (chg_drop _ _ _ _ hk).symm (num_inj e)

/-! ### A row of the call's own, cell by cell -/
def Cur (l : List Int) (cur : Array Value) : Prop := cur.toList.take l.length = l.map (Value.int .u8)
theorem Cur.cell {l cur} (h : Cur l cur) {i : Nat} (hi : i < l.length) : cur[i]? = some (.int .u8 (l.getD i 0)) := by
  have e := congrArg (fun x : List Value => x[i]?) h
  simp only [List.getElem?_take, if_pos hi, Array.getElem?_toList, List.getElem?_map, List.getElem?_eq_getElem hi] at e
  rw [e]; simp [hi]
theorem Cur.set {l cur} (h : Cur l cur) (i : Nat) (v : Int) : Cur (l.set i v) (cur.setIfInBounds i (.int .u8 v)) := by
  unfold Cur at *
  rw [Array.toList_setIfInBounds, List.length_set, List.take_set, h, List.map_set]
theorem Mine.opened {w : World} {base : Nat} {v : Value} {zs : List Int} (h : Mine w base v zs) (len : Nat) (hl : zs.length = len) (h0 : 0 < len) :
    ∃ g cap cur, v = .slice (some ⟨g, 0, none⟩) len cap ∧ base ≤ g ∧ w.heap[g]? = some (.cells cur 5 (0, 0)) ∧ len ≤ cap ∧ Cur zs cur := by
  subst hl
  rcases h.1.2 with ⟨_, h1⟩ | ⟨g, cap, cur, hv, hg, hh, hn, hcap, hsz, htake⟩
  · omega
  · exact ⟨g, cap, cur, hv, hg, hh, hn, by simpa [Cur] using htake⟩
theorem Cur.row {l : List Int} {cur : Array Value} (h : Cur l cur) (w : World) (g : Nat) (hh : w.heap[g]? = some (.cells cur 5 (0, 0))) (hb : Byte l) (hs : l.length ≤ 9223372036854775807) : Row w (some ⟨g, 0, none⟩) l.length l := by
  refine ⟨rfl, hs, hb, fun h0 => ⟨g, 0, rfl, ?_, fun j hj => ?_⟩⟩
  · by_cases hlt : g < w.heap.size
    · exact hlt
    · rw [Array.getElem?_eq_none (by omega)] at hh; cases hh
  · rw [Nat.zero_add, cell_of_row w g j cur 5 (0, 0) hh, h.cell hj]
end Crc
end Go.Proofs.Ytmpidpjainobaaa

/-
Rows of bytes: what an append of them leaves.
-/
import Derived.Test.YtmpidpjainobaaaMore
import Derived.Test.YtmpidpjainobaaaOwn
namespace Go.Proofs.Ytmpidpjainobaaa
open Go.RowKit
set_option linter.unusedVariables false
namespace Crc

theorem info5 : (Try.prog.info? 5).map (fun i => (i.zero, i.size, i.bytes)) = some (some (.int .u8 0), 1, 1) := by kernel_rfl

/-- The call's own row of bytes. -/
def Mine (w : World) (base : Nat) (v : Value) (zs : List Int) : Prop := w.ownsRow base 5 1 v zs.length (zs.map (Value.int .u8)) ∧ ∀ z ∈ zs, 0 ≤ z ∧ z < 256

theorem Mine.row {w base v zs} (h : Mine w base v zs) : ∃ a cap, v = .slice a zs.length cap ∧ zs.length ≤ cap ∧ Row w a zs.length zs := by
  obtain ⟨ho, hb⟩ := h
  rcases id ho.2 with ⟨rfl, h0⟩ | ⟨g, cap, cur, rfl, hg, hh, hn, hcap, hsz, htake⟩
  · have : zs = [] := List.eq_nil_of_length_eq_zero h0
    subst this
    exact ⟨none, 0, rfl, Nat.le_refl _, Row.nil w⟩
  · refine ⟨_, cap, rfl, hn, rfl, by unfold maxLen at hcap; omega, hb, fun h0 => ⟨g, 0, rfl, ?_, fun j hj => ?_⟩⟩
    · by_cases hlt : g < w.heap.size
      · exact hlt
      · rw [Array.getElem?_eq_none (by omega)] at hh; cases hh
    · rw [Nat.zero_add, ho.cellAt j (by omega), List.getElem?_map, List.getElem?_eq_getElem hj]
      simp [hj]

theorem Mine.rows {w base v zs} (h : Mine w base v zs) : ∃ n a cap, v = .slice a n cap ∧ n ≤ cap ∧ Row w a n zs := by
  obtain ⟨a, cap, h1, h2, h3⟩ := h.row
  exact ⟨_, a, cap, h1, h2, h3⟩

theorem Row.src {w : World} {a len zs} (h : Row w a len zs) (cap : Nat) (hc : a = none → cap = 0) : Src Try.prog 1 28 (.slice a len cap) len (zs.map (Value.int .u8)) w := by
  have one : ∀ u ∈ zs.map (Value.int .u8), u.oneCell' = true := ints_oneCell .u8 zs
  cases a with
  | none =>
    have h0 : len = 0 := by
      by_cases hl : 0 < len
      · obtain ⟨_, _, ha, _⟩ := h.cells hl; cases ha
      · omega
    subst h0
    have : zs = [] := List.eq_nil_of_length_eq_zero h.count
    subst this
    exact Src.ofNil w Try.underlying28 cap
  | some x =>
    refine Src.ofSlice w Try.underlying28 x len cap _ (by simp [h.count]) (fun j u hj => ?_) one
    have hl : j < zs.length := by
      have := (List.getElem?_eq_some_iff.1 hj).1
      simpa using this
    obtain ⟨b, off, ha, _, hcell⟩ := h.cells (by have := h.count; omega)
    cases ha
    have := hcell j (by have := h.count; omega)
    rw [show (⟨b, off, none⟩ : Addr).add j = ⟨b, off + j, none⟩ by unfold Addr.add; split <;> simp_all, this]
    rw [List.getElem?_map, List.getElem?_eq_getElem hl] at hj
    simpa [hl] using hj

/-- append(row of mine, bytes...) -/
theorem append_bytes {w : World} {ops : Array Oper} {rest : List Oper} {o : Oper} {a : Act} {Q : Exit → Act → World → Prop} (hgd : o.guard = none) (s x : Operand)
    (ho : o.op = .call { callee := .builtin .append, args := #[s, x], argTypes := #[28, 28] })
    (base : Nat) (v : Value) (xs : List Int) (hv : a.eval s = v) (hm : Mine w base v xs) (y : Option Addr) (len cap : Nat) (hx : a.eval x = .slice y len cap) (zs : List Int) (hr : Row w y len zs) (hc : y = none → cap = 0)
    (hlen : xs.length + len ≤ 140737488355328) (hbase : base ≤ w.heap.size)
    (h : ∀ v' w', Mine w' base v' (xs ++ zs) → (∀ w0, Below base w0 w → Below base w0 w') → w.heap.size ≤ w'.heap.size → wpList Try.prog ops Q rest (a.put o.dst v') w') : wpList Try.prog ops Q (o :: rest) a w := by
  obtain ⟨i0, hi, hz0, hz1, hz2⟩ := info_parts info5
  refine Own.wpList_append_src hgd s x 28 28 ho base 5 i0 _ 1 1 Try.underlying28 hi hz0 hz1 hz2 rfl v xs.length _ hv hm.1 _ len _ hx (hr.src cap hc) (by simp only [maxLen]; omega) (by omega) hbase fun v' w' h1 h2 => ?_
  refine h v' w' ⟨?_, ?_⟩ (fun w0 hb => Own.below_grown hb hm.1 h2 hbase) h2.size
  · rw [List.length_append, hr.count, List.map_append]; exact h1
  · intro z hz
    rcases List.mem_append.1 hz with h | h
    · exact hm.2 z h
    · exact hr.byt z h
theorem Mine.below {w w' base v zs} (h : Mine w base v zs) (hb : Below w.heap.size w w') : Mine w' base v zs := ⟨Own.owns_below h.1 hb, h.2⟩
theorem Row.keep {w w' : World} {a len zs} {B : Nat} (h : Row w a len zs) (hB : w.heap.size ≤ B) (hb : Below B w w') : Row w' a len zs := h.below (hb.mono hB)
theorem mine_nil (w : World) : Mine (w.alloc (.cells #[] 5)) w.heap.size (.slice (some ⟨w.heap.size, 0, none⟩) 0 0) [] :=
  ⟨World.ownsRow_lit w #[] 0 (Nat.le_refl _) (by simp) (by simp), by simp⟩
theorem more_append (s : BitVec 32) (xs zs : List Int) : more (more s xs) zs = more s (xs ++ zs) := by
  simp [more, fold, List.foldl_append]

/-! ### Three rows, place by place -/
def at3 (x0 x1 x2 : List Int) (i : Nat) : Int := bits .xor .u8 (bits .xor .u8 (x0.getD i 0) (x1.getD i 0)) (x2.getD i 0)
def all3 (x0 x1 x2 : List Int) (k : Nat) : List Int := (List.range k).map (at3 x0 x1 x2)
theorem u8_xor_lt (x y : Int) (hx : 0 ≤ x ∧ x < 256) (hy : 0 ≤ y ∧ y < 256) : 0 ≤ bits .xor .u8 x y ∧ bits .xor .u8 x y < 256 := by
  rw [u8_xor x y hx.1 hx.2 hy.1 hy.2]
  have : x.toNat ^^^ y.toNat < 2 ^ 8 := Nat.xor_lt_two_pow (by omega) (by omega)
  omega
theorem bv_xor (x y : Int) (hx : 0 ≤ x ∧ x < 256) (hy : 0 ≤ y ∧ y < 256) : bv (bits .xor .u8 x y) = bv x ^^^ bv y := by
  apply num_inj
  rw [num_bv _ (u8_xor_lt x y hx hy).1 (by have := (u8_xor_lt x y hx hy).2; omega), u8_xor x y hx.1 hx.2 hy.1 hy.2]
  unfold num
  rw [BitVec.toNat_xor]
  have e : ∀ z : Int, 0 ≤ z ∧ z < 256 → (bv z).toNat = z.toNat := fun z hz => by
    have := num_bv z hz.1 (by omega); unfold num at this; omega
  rw [e x hx, e y hy]
theorem upd_xor (a b x y : BitVec 32) : upd (a ^^^ b) (x ^^^ y) = upd a x ^^^ upd b y := by
  unfold upd tab
  have e : (a ^^^ b) ^^^ (x ^^^ y) = (a ^^^ x) ^^^ (b ^^^ y) := by ac_rfl
  have f : ((a ^^^ x) ^^^ (b ^^^ y)) &&& 255#32 = ((a ^^^ x) &&& 255#32) ^^^ ((b ^^^ y) &&& 255#32) := by
    apply BitVec.eq_of_getLsbD_eq
    intro i hi
    simp only [BitVec.getLsbD_xor, BitVec.getLsbD_and]
    cases (255#32).getLsbD i <;> simp
  rw [e, f, it_xor, shr_xor]
  ac_rfl
theorem byte_at {zs : List Int} (h : ∀ z ∈ zs, 0 ≤ z ∧ z < 256) (i : Nat) : 0 ≤ zs.getD i 0 ∧ zs.getD i 0 < 256 := by
  by_cases hi : i < zs.length
  · have : zs.getD i 0 ∈ zs := by simp [hi]
    exact h _ this
  · simp [List.getD, List.getElem?_eq_none (show zs.length ≤ i by omega)]
theorem at3_lt {x0 x1 x2 : List Int} (h0 : ∀ z ∈ x0, 0 ≤ z ∧ z < 256) (h1 : ∀ z ∈ x1, 0 ≤ z ∧ z < 256) (h2 : ∀ z ∈ x2, 0 ≤ z ∧ z < 256) (i : Nat) : 0 ≤ at3 x0 x1 x2 i ∧ at3 x0 x1 x2 i < 256 :=
  u8_xor_lt _ _ (u8_xor_lt _ _ (byte_at h0 i) (byte_at h1 i)) (byte_at h2 i)
theorem fold_all3 {x0 x1 x2 : List Int} (h0 : ∀ z ∈ x0, 0 ≤ z ∧ z < 256) (h1 : ∀ z ∈ x1, 0 ≤ z ∧ z < 256) (h2 : ∀ z ∈ x2, 0 ≤ z ∧ z < 256) (a b c : BitVec 32) (k : Nat) (l0 : k ≤ x0.length) (l1 : k ≤ x1.length) (l2 : k ≤ x2.length) :
    fold (a ^^^ b ^^^ c) (all3 x0 x1 x2 k) = fold a (x0.take k) ^^^ fold b (x1.take k) ^^^ fold c (x2.take k) := by
  induction k with
  | zero => simp [all3, fold]
  | succ k ih =>
    have e : all3 x0 x1 x2 (k + 1) = all3 x0 x1 x2 k ++ [at3 x0 x1 x2 k] := by simp [all3, List.range_succ]
    rw [e, take_snoc x0 k (by omega), take_snoc x1 k (by omega), take_snoc x2 k (by omega), fold_snoc, fold_snoc, fold_snoc, fold_snoc, ih (by omega) (by omega) (by omega)]
    unfold at3
    rw [bv_xor _ _ (u8_xor_lt _ _ (byte_at h0 k) (byte_at h1 k)) (byte_at h2 k), bv_xor _ _ (byte_at h0 k) (byte_at h1 k), upd_xor, upd_xor]
theorem not_xor3 (x y z : BitVec 32) : ~~~ (x ^^^ y ^^^ z) = ~~~ x ^^^ ~~~ y ^^^ ~~~ z := by
  apply BitVec.eq_of_getLsbD_eq
  intro i hi
  simp [hi]
theorem more_all3 {x0 x1 x2 : List Int} (h0 : ∀ z ∈ x0, 0 ≤ z ∧ z < 256) (h1 : ∀ z ∈ x1, 0 ≤ z ∧ z < 256) (h2 : ∀ z ∈ x2, 0 ≤ z ∧ z < 256) (k : Nat) (l0 : k ≤ x0.length) (l1 : k ≤ x1.length) (l2 : k ≤ x2.length) :
    num (more 0#32 (all3 x0 x1 x2 k)) = bits .xor .u32 (bits .xor .u32 (num (more 0#32 (x0.take k))) (num (more 0#32 (x1.take k)))) (num (more 0#32 (x2.take k))) := by
  rw [num_xor, num_xor]
  congr 1
  have e : (~~~ 0#32) = (~~~ 0#32) ^^^ (~~~ 0#32) ^^^ (~~~ 0#32) := by decide
  unfold more
  conv => lhs; rw [e, fold_all3 h0 h1 h2 _ _ _ k l0 l1 l2]
  rw [not_xor3]
theorem Row.take {w : World} {a len zs} (h : Row w a len zs) (k : Nat) (hk : k ≤ len) : Row w a k (zs.take k) := by
  have := h.count
  refine ⟨by rw [List.length_take]; omega, by have := h.short; omega, fun z hz => h.byt z (List.mem_of_mem_take hz), fun h0 => ?_⟩
  obtain ⟨b, off, ha, hb, hc⟩ := h.cells (by omega)
  refine ⟨b, off, ha, hb, fun j hj => ?_⟩
  rw [hc j (by omega)]
  simp [hj]
end Crc
end Go.Proofs.Ytmpidpjainobaaa

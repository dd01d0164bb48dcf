/-
Rows of bytes: what a slice of bytes reads as; rows of the call's own; what an append of them leaves.
-/
import Derived.Test.YtddfjndclgapcaaDoorOwn
import Derived.Test.YtddfjndclgapcaaDoorBlk
import Derived.Test.YtddfjndclgapcaaDoorProg
import Derived.IntWalk
import Derived.OpenShut
namespace Go.Proofs.YtddfjndclgapcaaDoor
open Go.RowKit
set_option linter.unusedVariables false

/-- The cells of bytes. -/
def bcells (zs : List Int) : List Value := zs.map (Value.int .u8)
@[simp] theorem bcells_length (zs : List Int) : (bcells zs).length = zs.length := by simp [bcells]
theorem bcells_one (zs : List Int) : ∀ u ∈ bcells zs, u.oneCell' = true := ints_oneCell .u8 zs
theorem bcells_at (zs : List Int) (j : Nat) (h : j < zs.length) : (bcells zs)[j]? = some (.int .u8 (zs.getD j 0)) := by simp [bcells, h]
/-- Bytes. -/
def Byte (zs : List Int) : Prop := ∀ z ∈ zs, 0 ≤ z ∧ z < 256
theorem Byte.getD {zs : List Int} (h : Byte zs) (i : Nat) : 0 ≤ zs.getD i 0 ∧ zs.getD i 0 < 256 := by
  by_cases hi : i < zs.length
  · exact h _ (by simp [hi])
  · simp [List.getD, List.getElem?_eq_none (show zs.length ≤ i by omega)]
theorem Byte.take {zs : List Int} (h : Byte zs) (k : Nat) : Byte (zs.take k) := fun z hz => h z (List.mem_of_mem_take hz)
theorem Byte.drop {zs : List Int} (h : Byte zs) (k : Nat) : Byte (zs.drop k) := fun z hz => h z (List.mem_of_mem_drop hz)
theorem Byte.append {xs zs : List Int} (h : Byte xs) (k : Byte zs) : Byte (xs ++ zs) := fun z hz => (List.mem_append.1 hz).elim (h z) (k z)
theorem Byte.nil : Byte [] := by simp [Byte]

/-- A slice's address and length lead to just these bytes. -/
structure Row (w : World) (a : Option Addr) (len : Nat) (zs : List Int) : Prop where
  count : zs.length = len
  short : len ≤ 9223372036854775807
  byt : Byte zs
  cells : 0 < len → ∃ b off, a = some ⟨b, off, none⟩ ∧ b < w.heap.size ∧ ∀ j, j < len → w.cell? ⟨b, off + j, none⟩ = some (.int .u8 (zs.getD j 0))

theorem Row.keep {w w' : World} {a len zs} (h : Row w a len zs) {S : Nat → Prop} (hb : Blk.Chg S w w') (hn : 0 < len → ∀ b off, a = some ⟨b, off, none⟩ → ¬ S b) : Row w' a len zs :=
  ⟨h.count, h.short, h.byt, fun hl => by
    obtain ⟨b, off, ha, hlt, hc⟩ := h.cells hl
    exact ⟨b, off, ha, Nat.lt_of_lt_of_le hlt hb.size, fun j hj => by rw [World.cell?_of_block (hb.block b hlt (hn hl b off ha))]; exact hc j hj⟩⟩
theorem Row.below {w w' : World} {a len zs} (h : Row w a len zs) (hb : Below w.heap.size w w') : Row w' a len zs :=
  h.keep (S := fun _ => False) (Blk.Chg.ofBelow' hb) (by simp)
theorem Row.nil (w : World) : Row w none 0 [] := ⟨rfl, by omega, by simp [Byte], by omega⟩
theorem Row.empty (w : World) (a : Option Addr) : Row w a 0 [] := ⟨rfl, by omega, by simp [Byte], by omega⟩
theorem Row.take {w : World} {a len zs} (h : Row w a len zs) (k : Nat) (hk : k ≤ len) : Row w a k (zs.take k) := by
  have := h.count
  refine ⟨by rw [List.length_take]; omega, by have := h.short; omega, h.byt.take k, fun h0 => ?_⟩
  obtain ⟨b, off, ha, hb, hc⟩ := h.cells (by omega)
  refine ⟨b, off, ha, hb, fun j hj => ?_⟩
  rw [hc j (by omega)]
  simp [hj]
theorem Row.ofIs {w : World} {b T cs} (h : Blk.Is w b T cs) (off len : Nat) (zs : List Int) (hz : zs.length = len) (hs : len ≤ 9223372036854775807) (hb : Byte zs) (hc : ∀ j, j < len → cs[off + j]? = some (.int .u8 (zs.getD j 0))) : Row w (some ⟨b, off, none⟩) len zs :=
  ⟨hz, hs, hb, fun _ => ⟨b, off, rfl, h.lt, fun j hj => h.at (hc j hj)⟩⟩
/-- As the source of a copy. -/
theorem Row.source {w : World} {a len zs} (h : Row w a len zs) (n : Nat) : 0 < (bcells (zs.take n)).length → ∃ x, a = some x ∧ ∀ j v, (bcells (zs.take n))[j]? = some v → w.cell? (x.add j) = some v := fun h0 => by
  have hl : 0 < len := by have := h.count; simp at h0; omega
  obtain ⟨b, off, rfl, _, hc⟩ := h.cells hl
  refine ⟨_, rfl, fun j v hv => ?_⟩
  rw [Addr.add_mid]
  have hj := (List.getElem?_eq_some_iff.1 hv).1
  simp only [bcells_length, List.length_take] at hj
  rw [hc j (by have := h.count; omega)]
  rw [bcells_at _ _ (by rw [List.length_take]; exact hj)] at hv
  rw [← hv]
  simp [show j < n by omega]

theorem infoU8 : (Tryd.prog.info? 5).map (fun i => (i.zero, i.size, i.bytes)) = some (some (.int .u8 0), 1, 1) := by kernel_rfl
theorem sizeU8 : (Tryd.prog.info? 5).map (·.size) = some 1 := by kernel_rfl

/-- The call's own row of bytes. -/
def Mine (w : World) (base : Nat) (v : Value) (zs : List Int) : Prop := w.ownsRow base 5 1 v zs.length (bcells zs) ∧ Byte zs

theorem Mine.row {w base v zs} (h : Mine w base v zs) : ∃ a cap, v = .slice a zs.length cap ∧ zs.length ≤ cap ∧ Row w a zs.length zs := by
  obtain ⟨ho, hb⟩ := h
  rcases id ho.2 with ⟨rfl, h0⟩ | ⟨g, cap, cur, rfl, hg, hh, hn, hcap, hsz, htake⟩
  · have : zs = [] := List.eq_nil_of_length_eq_zero h0
    subst this
    exact ⟨none, 0, rfl, Nat.le_refl _, Row.nil w⟩
  · refine ⟨_, cap, rfl, hn, rfl, by unfold maxLen at hcap; omega, hb, fun h0 => ⟨g, 0, rfl, (show Blk.Is w g _ _ from hh).lt, fun j hj => ?_⟩⟩
    rw [Nat.zero_add, ho.cellAt j (by omega), bcells_at _ _ hj]
theorem Mine.rows {w base v zs} (h : Mine w base v zs) : ∃ n a cap, v = .slice a n cap ∧ n ≤ cap ∧ zs.length = n ∧ Row w a n zs := by
  obtain ⟨a, cap, h1, h2, h3⟩ := h.row
  exact ⟨_, a, cap, h1, h2, rfl, h3⟩
theorem Mine.chg {w w' base v zs} {S : Nat → Prop} (h : Mine w base v zs) (hb : Blk.Chg S w w') (hn : ∀ b, v.ownBlock = some b → ¬ S b) : Mine w' base v zs := ⟨hb.owns h.1 hn, h.2⟩
theorem Mine.below {w w' base v zs} (h : Mine w base v zs) (hb : Below w.heap.size w w') : Mine w' base v zs := h.chg (S := fun _ => False) (Blk.Chg.ofBelow' hb) (by simp)
theorem Mine.mono {w base base' v zs} (h : Mine w base v zs) (hb : base' ≤ base) : Mine w base' v zs := by
  refine ⟨⟨h.1.1, ?_⟩, h.2⟩
  rcases h.1.2 with h2 | ⟨g, cap, cur, hv, hg, r⟩
  · exact Or.inl h2
  · exact Or.inr ⟨g, cap, cur, hv, by omega, r⟩
theorem mine_nil (w : World) : Mine (w.alloc (.cells #[] 5)) w.heap.size (.slice (some ⟨w.heap.size, 0, none⟩) 0 0) [] :=
  ⟨World.ownsRow_lit w #[] 0 (Nat.le_refl _) (by simp) (by simp), by simp [Byte]⟩
theorem mine_none (w : World) (base : Nat) : Mine w base (.slice none 0 0) [] := ⟨World.ownsRow_nil w base _ 1, Byte.nil⟩
/-- Where a row of the call's own lies. -/
theorem Mine.block {w base v zs} (h : Mine w base v zs) {b : Nat} (hb : v.ownBlock = some b) : base ≤ b ∧ b < w.heap.size ∧ ∃ cur, Blk.Is w b 5 cur := by
  rcases h.1.2 with ⟨rfl, _⟩ | ⟨g, cap, cur, rfl, hg, hh, _⟩
  · simp [Value.ownBlock] at hb
  · simp [Value.ownBlock] at hb
    subst hb
    exact ⟨hg, (show Blk.Is w g _ _ from hh).lt, cur, hh⟩

theorem Row.src {w : World} {a len zs} (h : Row w a len zs) (cap : Nat) (hc : a = none → cap = 0) : Src Tryd.prog 1 54 (.slice a len cap) len (bcells zs) w := by
  have one := bcells_one zs
  cases a with
  | none =>
    have h0 : len = 0 := by
      by_cases hl : 0 < len
      · obtain ⟨_, _, ha, _⟩ := h.cells hl; cases ha
      · omega
    subst h0
    have : zs = [] := List.eq_nil_of_length_eq_zero h.count
    subst this
    exact Src.ofNil w Tryd.underlying54 cap
  | some x =>
    refine Src.ofSlice w Tryd.underlying54 x len cap _ (by simp [h.count]) (fun j u hj => ?_) one
    have hl : j < zs.length := by
      have := (List.getElem?_eq_some_iff.1 hj).1
      simpa using this
    obtain ⟨b, off, ha, _, hcell⟩ := h.cells (by have := h.count; omega)
    cases ha
    rw [Addr.add_mid, hcell j (by have := h.count; omega), ← bcells_at _ _ hl]
    exact hj

/-- append(row of mine, bytes...) -/
theorem append_bytes {w : World} {ops : Array Oper} {rest : List Oper} {o : Oper} {a : Act} {Q : Exit → Act → World → Prop} (hgd : o.guard = none) (s x : Operand)
    (ho : o.op = .call { callee := .builtin .append, args := #[s, x], argTypes := #[54, 54] })
    (base : Nat) (v : Value) (xs : List Int) (hv : a.eval s = v) (hm : Mine w base v xs) (y : Option Addr) (len cap : Nat) (hx : a.eval x = .slice y len cap) (zs : List Int) (hr : Row w y len zs) (hc : y = none → cap = 0)
    (hlen : xs.length + len ≤ 140737488355328) (hbase : base ≤ w.heap.size)
    (h : ∀ v' w', Mine w' base v' (xs ++ zs) → w.grownBy w' v.ownBlock → wpList Tryd.prog ops Q rest (a.put o.dst v') w') : wpList Tryd.prog ops Q (o :: rest) a w := by
  obtain ⟨i0, hi, hz0, hz1, hz2⟩ := info_parts infoU8
  refine Own.wpList_append_src hgd s x 54 54 ho base 5 i0 _ 1 1 Tryd.underlying54 hi hz0 hz1 hz2 rfl v xs.length _ hv hm.1 _ len _ hx (hr.src cap hc) (by simp only [maxLen]; omega) (by omega) hbase fun v' w' h1 h2 => ?_
  refine h v' w' ⟨?_, hm.2.append hr.byt⟩ h2
  rw [List.length_append, hr.count]
  simpa [bcells] using h1
/-- append(row of mine, bytes...), as one step of a region that draws its order. -/
theorem step_append_bytes {w : World} {ops : Array Oper} {o : Oper} {a : Act} {K : Act → World → Prop} {Q : Exit → Act → World → Prop} {E : Prop} (hgd : o.guard = none) (s x : Operand)
    (ho : o.op = .call { callee := .builtin .append, args := #[s, x], argTypes := #[54, 54] })
    (base : Nat) (v : Value) (xs : List Int) (hv : a.eval s = v) (hm : Mine w base v xs) (y : Option Addr) (len cap : Nat) (hx : a.eval x = .slice y len cap) (zs : List Int) (hr : Row w y len zs) (hc : y = none → cap = 0)
    (hlen : xs.length + len ≤ 140737488355328) (hbase : base ≤ w.heap.size)
    (h : ∀ v' w', Mine w' base v' (xs ++ zs) → w.grownBy w' v.ownBlock → K (a.put o.dst v') w') :
    if Region.wanted o (yielded ops a.tmps) = true then Oper.wp Tryd.prog o a w K Q else E := by
  have hw : Region.wanted o (yielded ops a.tmps) = true := by simp [Region.wanted, hgd]
  rw [if_pos hw]
  obtain ⟨i0, hi, hz0, hz1, hz2⟩ := info_parts infoU8
  refine Own.wp_append_src s x 54 54 ho base 5 i0 _ 1 1 Tryd.underlying54 hi hz0 hz1 hz2 rfl v xs.length _ hv hm.1 _ len _ hx (hr.src cap hc) (by simp only [maxLen]; omega) (by omega) hbase fun v' w' h1 h2 _ => ?_
  refine h v' w' ⟨?_, hm.2.append hr.byt⟩ h2
  rw [List.length_append, hr.count]
  simpa [bcells] using h1

/-! ### bytes as a string -/
theorem str_beq {a b : List Int} (ha : Byte a) (hb : Byte b) : ((strOfNums a).toList == (strOfNums b).toList) = decide (a = b) := by
  by_cases h : a = b
  · subst h; simp
  · rw [show decide (a = b) = false by simpa using h, beq_eq_false_iff_ne, ByteArray.toList_eq, ByteArray.toList_eq]
    intro e
    apply h
    have e1 : (a.map fun n => UInt8.ofNat n.toNat) = b.map fun n => UInt8.ofNat n.toNat := by
      simpa [strOfNums] using e
    have hl : a.length = b.length := by have := congrArg List.length e1; simpa using this
    apply List.ext_getElem hl
    intro i h1 h2
    have e2 := congrArg (fun l : List UInt8 => l[i]?) e1
    simp [h1, h2] at e2
    have x := ha _ (List.getElem_mem h1)
    have y := hb _ (List.getElem_mem h2)
    have e3 := congrArg UInt8.toNat e2
    simp at e3
    omega
theorem Row.conv {w : World} {a len zs} (h : Row w a len zs) (cap : Nat) : (convert 54 9 (.slice a len cap)).run Tryd.prog w = .ok (.string (strOfNums zs)) w := by
  by_cases h0 : 0 < len
  · obtain ⟨b, off, rfl, _, hcell⟩ := h.cells h0
    exact run_convert_bytes_arg w 54 5 Tryd.underlying54 Tryd.underlying5 b off len cap zs h.count hcell 9 Tryd.underlying9
  · obtain rfl : len = 0 := by omega
    obtain rfl : zs = [] := List.eq_nil_of_length_eq_zero h.count
    cases a with
    | none => simp [convert, run_underlying Tryd.underlying54, run_underlying Tryd.underlying5, run_underlying Tryd.underlying9, strOfNums, Conv.bytesToString]; rfl
    | some x =>
      have hl := run_loadCells_list (P := Tryd.prog) w x [] (by simp)
      simp only [List.length_nil] at hl
      simp [convert, run_underlying Tryd.underlying54, run_underlying Tryd.underlying5, run_underlying Tryd.underlying9, strOfNums, Conv.bytesToString, hl]; rfl

/-! ### what a law's frame hands to its walk -/
/-- A slice of integers that came in. -/
def IsRow (k : IntKind) (w : World) (a : Option Addr) (len cap : Nat) (zs : List Int) : Prop :=
  (a = none ∧ len = 0 ∧ cap = 0 ∧ zs = []) ∨
  ∃ x, a = some x ∧ len ≤ cap ∧ cap ≤ maxLen ∧ zs.length = cap ∧ (∀ i, i < zs.length → w.cell? (x.add i) = some (.int k (zs.getD i 0))) ∧ ∀ n ∈ zs, (Lit.int k n).wf = true
theorem IsRow.row {w : World} {a : Option Addr} {len cap : Nat} {zs : List Int} (h : IsRow .u8 w a len cap zs) : Row w a len (zs.take len) := by
  rcases h with ⟨rfl, rfl, rfl, rfl⟩ | ⟨x, rfl, hl, hm, hz, hc, hw⟩
  · exact Row.nil w
  · unfold maxLen at hm
    refine ⟨by rw [List.length_take]; omega, by omega, fun z hz' => ?_, fun h0 => ?_⟩
    · have := bounds_u8 (hw z (List.mem_of_mem_take hz')); omega
    · obtain ⟨b, off, rfl, hc'⟩ := ints_at hc (by omega)
      have hlt : b < w.heap.size := block_lt_of_cell (hc' 0 (by omega))
      refine ⟨b, off, rfl, hlt, fun j hj => ?_⟩
      rw [hc' j (by omega)]
      simp [hj]
theorem IsRow.le {k : IntKind} {w : World} {a : Option Addr} {len cap : Nat} {zs : List Int} (h : IsRow k w a len cap zs) : len ≤ cap := by
  rcases h with ⟨_, rfl, rfl, _⟩ | ⟨x, _, hl, _⟩ <;> omega
theorem IsRow.nil {k : IntKind} {w : World} {a : Option Addr} {len cap : Nat} {zs : List Int} (h : IsRow k w a len cap zs) : a = none → cap = 0 := by
  rintro rfl
  rcases h with ⟨_, _, h, _⟩ | ⟨x, h, _⟩
  · exact h
  · cases h
end Go.Proofs.YtddfjndclgapcaaDoor

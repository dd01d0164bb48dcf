/-
Blocks of memory that a call has made, whole; what a call may have changed. No program is named here.
-/
import Derived.WalkKit
import Derived.Laws.CopyRow
import Derived.Deep.MidRow
import Derived.Lib.Hide
import Derived.Deep.RegionLaw
namespace Go.Proofs.Ytlpahomaokopoaa
open Go.RowKit
namespace Blk

/-- Block b is a row of just these cells, of element type T, none of them frozen. -/
def Is (w : World) (b : Nat) (T : TypeId) (cs : Array Value) : Prop := w.heap[b]? = some (.cells cs T (0, 0))
theorem Is.lt {w b T cs} (h : Is w b T cs) : b < w.heap.size := (Array.getElem?_eq_some_iff.1 h).1
theorem Is.cell {w b T cs} (h : Is w b T cs) (i : Nat) : w.cell? ⟨b, i, none⟩ = cs[i]? := cell_of_row w b i cs T (0, 0) h
theorem Is.at {w b T cs} (h : Is w b T cs) {i : Nat} {v : Value} (hv : cs[i]? = some v) : w.cell? ⟨b, i, none⟩ = some v := (h.cell i).trans hv
theorem Is.free {w b T cs} (h : Is w b T cs) (i : Nat) : w.frozen? ⟨b, i, none⟩ = false := frozen_of_row w b i cs T h
theorem Is.alloc {w b T cs} (h : Is w b T cs) (o : Obj) : Is (w.alloc o) b T cs := (Below.heap_alloc w o b h.lt).trans h
theorem Is.new (w : World) (T : TypeId) (cs : Array Value) : Is (w.alloc (.cells cs T)) w.heap.size T cs := heap_alloc_new w _
theorem Is.drew {w b T cs} (h : Is w b T cs) : Is w.drew b T cs := h
theorem Is.set {w b T cs} (h : Is w b T cs) (i : Nat) (v : Value) : Is (w.setCell ⟨b, i, none⟩ v) b T (cs.setIfInBounds i v) := heap_setCell_same w b i cs T v h
theorem Is.setOther {w b T cs} (h : Is w b T cs) {a : Addr} (v : Value) (hne : b ≠ a.block) : Is (w.setCell a v) b T cs := (heap_setCell_other w a b v hne).trans h
theorem Is.row {w b T cs} (h : Is w b T cs) (ds : Array Value) : Is (w.setRow b ds) b T ds := setRow_heap w b cs ds T (0, 0) h
theorem Is.rowOther {w b T cs} (h : Is w b T cs) {g : Nat} (ds : Array Value) (hne : b ≠ g) : Is (w.setRow g ds) b T cs := (setRow_other w g b ds hne).trans h
theorem Is.inj {w b T T' cs cs'} (h : Is w b T cs) (k : Is w b T' cs') : T = T' ∧ cs = cs' := by
  unfold Is at h k; rw [h] at k; cases k; exact ⟨rfl, rfl⟩
theorem Is.ne {w b b' T T' cs cs'} (h : Is w b T cs) (k : Is w b' T' cs') (hT : T ≠ T') : b ≠ b' := by
  rintro rfl; exact hT (h.inj k).1
theorem Is.range {w b T cs} (h : Is w b T cs) (o n : Nat) : w.rangeAt b o (cs.extract o (o + n)).toList := World.rangeAt_of_block h o n
theorem Is.there {w b T cs} (h : Is w b T cs) (o n : Nat) (hn : o + n ≤ cs.size) : w.there b o n := fun j hj => ⟨by rw [h.cell, Array.getElem?_eq_getElem (by omega)]; rfl, h.free _⟩
theorem setCells_row {w b T} : ∀ (vs : List Value) (cs : Array Value) (o : Nat), Is w b T cs → o + vs.length ≤ cs.size → w.setCells b o vs = w.setRow b (cs.toList.take o ++ vs ++ cs.toList.drop (o + vs.length)).toArray := by
  intro vs
  induction vs generalizing w with
  | nil => intro cs o h _; simp [World.setCells, setRow_self w b cs T (0, 0) h]
  | cons v r ih =>
    intro cs o h hl
    have hl' : o + (r.length + 1) ≤ cs.size := by simpa using hl
    rw [World.setCells, ih (cs.setIfInBounds o v) (o + 1) (h.set o v) (by simp; omega), setCell_eq_setRow w b o cs T (0, 0) v h, setRow_setRow]
    congr 2
    have e := list_seg_step cs.toList o v r (by simpa using hl')
    simpa [Array.toList_setIfInBounds, Nat.add_assoc] using e
theorem Is.cells {w b T cs} (h : Is w b T cs) (o : Nat) (vs : List Value) (hl : o + vs.length ≤ cs.size) : Is (w.setCells b o vs) b T (cs.toList.take o ++ vs ++ cs.toList.drop (o + vs.length)).toArray := by
  rw [setCells_row vs cs o h hl]; exact h.row _

/-- What a call may have changed: of the blocks that were there just those of S. -/
structure Chg (S : Nat → Prop) (w w' : World) : Prop where
  os : w'.os = w.os
  tape : w'.tape = w.tape
  output : w'.output = w.output
  size : w.heap.size ≤ w'.heap.size
  block : ∀ k, k < w.heap.size → ¬ S k → w'.heap[k]? = w.heap[k]?
theorem Chg.refl (S : Nat → Prop) (w : World) : Chg S w w := ⟨rfl, rfl, rfl, Nat.le_refl _, fun _ _ _ => rfl⟩
theorem Chg.trans {S : Nat → Prop} {a b c : World} (h : Chg S a b) (k : Chg S b c) : Chg S a c :=
  ⟨k.os.trans h.os, k.tape.trans h.tape, k.output.trans h.output, Nat.le_trans h.size k.size, fun i hi hn => (k.block i (Nat.lt_of_lt_of_le hi h.size) hn).trans (h.block i hi hn)⟩
theorem Chg.mono {S S' : Nat → Prop} {w w' : World} (h : Chg S w w') (hS : ∀ k, k < w.heap.size → S k → S' k) : Chg S' w w' :=
  ⟨h.os, h.tape, h.output, h.size, fun k hk hn => h.block k hk fun hs => hn (hS k hk hs)⟩
theorem Chg.drew {S : Nat → Prop} {a w : World} (h : Chg S a w) : Chg S a w.drew := ⟨h.os, h.tape, h.output, h.size, h.block⟩
theorem Chg.ofDrew {S : Nat → Prop} {a w : World} (h : Chg S a.drew w) : Chg S a w := ⟨h.os, h.tape, h.output, h.size, h.block⟩
theorem Chg.one {S : Nat → Prop} (w : World) (o : Obj) : Chg S w (w.alloc o) := ⟨rfl, rfl, rfl, by simp, fun k hk _ => Below.heap_alloc w o k hk⟩
theorem Chg.alloc {S : Nat → Prop} {a w : World} (h : Chg S a w) (o : Obj) : Chg S a (w.alloc o) := h.trans (Chg.one w o)
theorem Chg.setCell {S : Nat → Prop} {a w : World} (h : Chg S a w) {p : Addr} (hp : S p.block) (u : Value) : Chg S a (w.setCell p u) :=
  h.trans ⟨rfl, rfl, rfl, by simp [World.setCell], fun k _ hn => heap_setCell_other w p k u fun e => hn (e ▸ hp)⟩
theorem Chg.setAt {S : Nat → Prop} {a w : World} {b o : Nat} {u : Value} (h : Chg S a w) (hp : S b) : Chg S a (w.setCell ⟨b, o, none⟩ u) := h.setCell (p := ⟨b, o, none⟩) hp u
theorem Chg.setCell' {S : Nat → Prop} {a w : World} (h : Chg S a w) {p : Addr} (hp : a.heap.size ≤ p.block) (u : Value) : Chg S a (w.setCell p u) :=
  ⟨h.os, h.tape, h.output, by simpa [World.setCell] using h.size, fun k hk hn => (heap_setCell_other w p k u (by omega)).trans (h.block k hk hn)⟩
theorem Chg.setRow {S : Nat → Prop} {a w : World} (h : Chg S a w) {g : Nat} (hg : S g) (cs : Array Value) : Chg S a (w.setRow g cs) :=
  h.trans ⟨rfl, rfl, rfl, by simp [World.setRow], fun k _ hn => setRow_other w g k cs fun e => hn (e ▸ hg)⟩
theorem Chg.setRow' {S : Nat → Prop} {a w : World} (h : Chg S a w) {g : Nat} (hg : a.heap.size ≤ g) (cs : Array Value) : Chg S a (w.setRow g cs) :=
  ⟨h.os, h.tape, h.output, by simpa [World.setRow] using h.size, fun k hk hn => (setRow_other w g k cs (by omega)).trans (h.block k hk hn)⟩
theorem Chg.grown {S : Nat → Prop} {a w w' : World} {row : Option Nat} (h : Chg S a w) (hg : w.grownBy w' row) (hr : ∀ k, row = some k → k < a.heap.size → S k) : Chg S a w' :=
  ⟨hg.os.trans h.os, hg.tape.trans h.tape, hg.output.trans h.output, Nat.le_trans h.size hg.size, fun k hk hn => (hg.block k (Nat.lt_of_lt_of_le hk h.size) (fun e => hn (hr k e.symm hk))).trans (h.block k hk hn)⟩
theorem Chg.ofBelow {S : Nat → Prop} {w w' : World} {B : Nat} (h : Below B w w') (hS : ∀ k, k < w.heap.size → B ≤ k → S k) : Chg S w w' :=
  ⟨h.os, h.tape, h.output, h.size, fun k hk hn => h.block k (Nat.lt_of_not_le fun hB => hn (hS k hk hB))⟩
theorem Chg.ofBelow' {S : Nat → Prop} {w w' : World} (h : Below w.heap.size w w') : Chg S w w' := Chg.ofBelow h fun k hk hB => absurd hk (by omega)
theorem Chg.below {S : Nat → Prop} {B : Nat} {w w' : World} (h : Chg S w w') (hS : ∀ k, S k → B ≤ k) (hB : B ≤ w.heap.size) : Below B w w' :=
  ⟨h.os, h.tape, h.output, h.size, fun k hk => h.block k (by omega) fun hs => by have := hS k hs; omega⟩
theorem Chg.is {S : Nat → Prop} {w w' : World} (h : Chg S w w') {b T cs} (k : Is w b T cs) (hn : ¬ S b) : Is w' b T cs := (h.block b k.lt hn).trans k
theorem Chg.owns {S : Nat → Prop} {w w' : World} (h : Chg S w w') {base : Nat} {e : TypeId} {size : Nat} {v : Value} {n : Nat} {xs : List Value} (k : w.ownsRow base e size v n xs) (hn : ∀ b, v.ownBlock = some b → ¬ S b) : w'.ownsRow base e size v n xs := by
  refine ⟨k.1, ?_⟩
  rcases k.2 with h2 | ⟨g, cap, cur, hv, hg, hh, r⟩
  · exact Or.inl h2
  · exact Or.inr ⟨g, cap, cur, hv, hg, h.is hh (hn g (by rw [hv]; rfl)), r⟩

theorem belowRow {B g : Nat} {w0 w : World} (hb : Below B w0 w) (hg : B ≤ g) (cs : Array Value) : Below B w0 (w.setRow g cs) :=
  hb.trans ⟨rfl, rfl, rfl, by simp [World.setRow], fun k hk => setRow_other w g k cs (by omega)⟩

/-! ### copy: elements of any size, a row of the call's own as the destination -/
section
variable {P : Program}
/-- The cells behind a copy of cs to place o. -/
def over (cur : List Value) (o : Nat) (cs : List Value) : List Value := cur.take o ++ cs ++ cur.drop (o + cs.length)
theorem run_copy_sz (w : World) (dT sT ty elem : TypeId) (size : Nat) (g o dLen dCap : Nat) (sp : Option Addr) (sLen sCap : Nat) (cur : Array Value) (t : TypeId) (cs : List Value)
    (hu : P.underlying dT = some (.slice elem)) (hs : (P.info? elem).map (·.size) = some size)
    (hg : Is w g t cur) (hn : cs.length = Nat.min sLen dLen * size)
    (hsrc : 0 < cs.length → ∃ a, sp = some a ∧ ∀ j v, cs[j]? = some v → w.cell? (a.add j) = some v) (hfit : o + cs.length ≤ cur.size) (h1 : ∀ v ∈ cs, v.oneCell' = true) :
    (Builtin.copy_ #[dT, sT] ty #[.slice (some ⟨g, o, none⟩) dLen dCap, .slice sp sLen sCap]).run P w =
      .ok (goInt (Nat.min sLen dLen)) (w.setRow g (over cur.toList o cs).toArray) := by
  have hst := run_storeCells_at P g o t cs 0 cur w hg (by simpa using hfit) h1
  cases hq : P.info? elem with
  | none => simp [hq] at hs
  | some i =>
    have hi : i.size = size := by simpa [hq] using hs
    by_cases h0 : 0 < cs.length
    · obtain ⟨a, rfl, hc⟩ := hsrc h0
      have hl := run_loadCells_list (P := P) w a cs hc
      rw [hn] at hl
      simp only [Nat.add_zero] at hst
      simp [Builtin.copy_, run_underlying hu, Builtin.lenOf, Builtin.firstCells, sizeOf, typeInfo, hq, hi, hl, hst, over]
    · have : cs = [] := List.eq_nil_of_length_eq_zero (by omega)
      subst this
      have hz : Nat.min sLen dLen * size = 0 := by simpa using hn.symm
      simp only [Nat.add_zero] at hst
      cases sp with
      | none => simp [Builtin.copy_, run_underlying hu, Builtin.lenOf, Builtin.firstCells, sizeOf, typeInfo, hq, hst, over]
      | some a =>
        have hl := run_loadCells_list (P := P) w a [] (by simp)
        simp only [List.length_nil] at hl
        simp [Builtin.copy_, run_underlying hu, Builtin.lenOf, Builtin.firstCells, sizeOf, typeInfo, hq, hi, hz, hl, hst, over]
/-- Nothing goes over: whatever the two are. -/
theorem run_copy_zero (w : World) (dT sT ty elem : TypeId) (size : Nat) (dp sp : Option Addr) (dLen dCap sLen sCap : Nat)
    (hu : P.underlying dT = some (.slice elem)) (hs : (P.info? elem).map (·.size) = some size) (hn : Nat.min sLen dLen = 0) :
    (Builtin.copy_ #[dT, sT] ty #[.slice dp dLen dCap, .slice sp sLen sCap]).run P w = .ok (goInt 0) w := by
  cases hq : P.info? elem with
  | none => simp [hq] at hs
  | some i =>
    have hl : ∀ a, (loadCells a 0).run P w = .ok #[] w := fun a => by
      have := run_loadCells_list (P := P) w a [] (by simp)
      simpa using this
    cases sp <;> cases dp <;> simp [Builtin.copy_, run_underlying hu, Builtin.lenOf, Builtin.firstCells, sizeOf, typeInfo, hq, hn, hl, storeCells]

theorem wp_copy {o : Oper} {a : Act} {w : World} {K : Act → World → Prop} {Q : Exit → Act → World → Prop} (d s : Operand) (dT sT : TypeId)
    (ho : o.op = .call { callee := .builtin .copy, args := #[d, s], argTypes := #[dT, sT] }) {x y v : Value} {w' : World} (hd : a.eval d = x) (hs : a.eval s = y)
    (hrun : (Builtin.copy_ #[dT, sT] o.type #[x, y]).run P w = .ok v w') (h : K (a.put o.dst v) w') : o.wp P a w K Q := by
  unfold Oper.wp
  simp [execOp, ho, resolve, invoke, builtin, hd, hs, hrun, Result.andThen]
  exact h
/-- For the walk of a plain region's list. -/
theorem wpList_copy {ops : Array Oper} {rest : List Oper} {o : Oper} {a : Act} {w : World} {Q : Exit → Act → World → Prop} (hgd : o.guard = none) (d s : Operand) (dT sT : TypeId)
    (ho : o.op = .call { callee := .builtin .copy, args := #[d, s], argTypes := #[dT, sT] }) {x y v : Value} {w' : World} (hd : a.eval d = x) (hs : a.eval s = y)
    (hrun : (Builtin.copy_ #[dT, sT] o.type #[x, y]).run P w = .ok v w') (h : wpList P ops Q rest (a.put o.dst v) w') : wpList P ops Q (o :: rest) a w :=
  wpList_plain hgd fun _ hK => wp_copy d s dT sT ho hd hs hrun (hK _ _ h)
/-- As one step of a region that draws its order. -/
theorem step_copy {ops : Array Oper} {o : Oper} {a : Act} {w : World} {K : Act → World → Prop} {Q : Exit → Act → World → Prop} {E : Prop} (hgd : o.guard = none) (d s : Operand) (dT sT : TypeId)
    (ho : o.op = .call { callee := .builtin .copy, args := #[d, s], argTypes := #[dT, sT] }) {x y v : Value} {w' : World} (hd : a.eval d = x) (hs : a.eval s = y)
    (hrun : (Builtin.copy_ #[dT, sT] o.type #[x, y]).run P w = .ok v w') (h : K (a.put o.dst v) w') :
    if Region.wanted o (yielded ops a.tmps) = true then Oper.wp P o a w K Q else E := by
  have hw : Region.wanted o (yielded ops a.tmps) = true := by simp [Region.wanted, hgd]
  rw [if_pos hw]
  exact wp_copy d s dT sT ho hd hs hrun h
end
end Blk
end Go.Proofs.Ytlpahomaokopoaa

/-
CrcAdds: sums of three rows of one length add up by exclusive or.
Conditions: none.
-/
import Derived.Test.YtmpidpjainobaaaRows
import Derived.Test.YtmpidpjainobaaaBytes
import Derived.WalkKit
import Derived.ProofKit
import Derived.OpenShut
import Derived.ShutString
import Derived.ChangeOld
import Derived.Below
import Derived.SizedLaws
import Derived.RegionTactic
import Derived.Deep.RegionHeld3
import Derived.Deep.RegionWith
import Derived.BigRegion
import Derived.Laws.Cover1
namespace Go.Proofs.Ytmpidpjainobaaa.crcAdds
open Go.ChangeShapes Go.WideShapes Go.ChangeAt Go.RowKit
open Go.ChangeMaps (open_string shut_string)
set_option linter.unusedVariables false
theorem own : ownKnob Try.prog.godebug = none := by kernel_rfl
theorem laidOut : laidOutB Try.prog = true := by kernel_rfl
/-- What the walk is told of a slice of integers that came in. -/
def IsRow (k : IntKind) (w : World) (a : Option Addr) (len cap : Nat) (zs : List Int) : Prop :=
  (a = none ∧ len = 0 ∧ cap = 0 ∧ zs = []) ∨
  ∃ x, a = some x ∧ len ≤ cap ∧ cap ≤ maxLen ∧ zs.length = cap ∧ (∀ i, i < zs.length → w.cell? (x.add i) = some (.int k (zs.getD i 0))) ∧ ∀ n ∈ zs, (Lit.int k n).wf = true

open Crc in
theorem rowOf {w : World} {a : Option Addr} {len cap : Nat} {zs : List Int} (h : IsRow .u8 w a len cap zs) : Row w a len (zs.take len) := by
  rcases h with ⟨rfl, rfl, rfl, rfl⟩ | ⟨x, rfl, hl, hm, hz, hc, hw⟩
  · exact Row.nil w
  · unfold maxLen at hm
    refine ⟨by rw [List.length_take]; omega, by omega, fun z hz' => ?_, fun h0 => ?_⟩
    · have := bounds_u8 (hw z (List.mem_of_mem_take hz')); omega
    · obtain ⟨b, off, rfl, hc'⟩ := ints_at hc (by omega)
      have hlt : b < w.heap.size := block_lt_of_cell (hc' 0 (by omega))
      refine ⟨b, off, rfl, hlt, fun j hj => ?_⟩
      rw [hc' j (by omega)]
      simp [hj]

open Crc in
/-- The new row with its first k places made. -/
def Done (x0 x1 x2 : List Int) (n k : Nat) (c : Array Value) : Prop := c.size = n ∧ (∀ i, i < k → c[i]? = some (.int .u8 (at3 x0 x1 x2 i))) ∧ ∀ i, i < n → ∃ z, c[i]? = some (.int .u8 z)
open Crc in
theorem Done.next {x0 x1 x2 n k c} (h : Done x0 x1 x2 n k c) (hk : k < n) {v : Int} (hv : v = at3 x0 x1 x2 k) : Done x0 x1 x2 n (k + 1) (c.setIfInBounds k (.int .u8 v)) := by
  obtain ⟨h1, h2, h3⟩ := h
  refine ⟨by simpa using h1, fun i hi => ?_, fun i hi => ?_⟩
  · rw [Array.getElem?_setIfInBounds]
    by_cases e : k = i
    · subst e; simp [h1, hk, hv]
    · rw [if_neg e]; exact h2 i (by omega)
  · rw [Array.getElem?_setIfInBounds]
    by_cases e : k = i
    · subst e; simp [h1, hk]
    · rw [if_neg e]; exact h3 i hi
theorem Done.start (x0 x1 x2 : List Int) (n : Nat) : Done x0 x1 x2 n 0 (madeCells #[.int .u8 0] n) := by
  refine ⟨by simp [madeCells], fun i hi => by omega, fun i hi => ⟨0, ?_⟩⟩
  have : (madeCells #[Value.int .u8 0] n).toList = List.replicate n (.int .u8 0) := toList_madeCells_one _ _
  rw [← Array.getElem?_toList, this]; simp [hi]

open Crc in
theorem kept {w w1 w2 : World} {a : Option Addr} {k : Nat} {zs : List Int} (h : Below w.heap.size w w1 ∧ Row w1 a k zs) (hb : Below w1.heap.size w1 w2) : Below w.heap.size w w2 ∧ Row w2 a k zs :=
  ⟨h.1.trans (hb.mono h.1.size), h.2.below hb⟩

open Crc in
theorem Done.row {x0 x1 x2 : List Int} {n : Nat} {c : Array Value} (h : Done x0 x1 x2 n n c) (w : World) (B : Nat) (hh : w.heap[B]? = some (.cells c 5 (0, 0))) (hs : n ≤ 9223372036854775807)
    (h0 : ∀ z ∈ x0, 0 ≤ z ∧ z < 256) (h1 : ∀ z ∈ x1, 0 ≤ z ∧ z < 256) (h2 : ∀ z ∈ x2, 0 ≤ z ∧ z < 256) : Row w (some ⟨B, 0, none⟩) n (all3 x0 x1 x2 n) := by
  refine ⟨by simp [all3], hs, fun z hz => ?_, fun hl => ⟨B, 0, rfl, ?_, fun j hj => ?_⟩⟩
  · obtain ⟨i, _, rfl⟩ := List.mem_map.1 hz
    exact at3_lt h0 h1 h2 i
  · by_cases hlt : B < w.heap.size
    · exact hlt
    · rw [Array.getElem?_eq_none (by omega)] at hh; cases hh
  · rw [Nat.zero_add, cell_of_row w B j c 5 (0, 0) hh, h.2.1 j hj]
    simp [all3, hj]

open Crc in
set_option maxRecDepth 100000 in
theorem walk (a0 : Option Addr) (len0 cap0 : Nat) (z0 : List Int) (a1 : Option Addr) (len1 cap1 : Nat) (z1 : List Int) (a2 : Option Addr) (len2 cap2 : Nat) (z2 : List Int) (w : World) (w0 : IsRow .u8 w a0 len0 cap0 z0) (g0 : cap0 * 1 ≤ 140737488351232) (w1 : IsRow .u8 w a1 len1 cap1 z1) (g1 : cap1 * 1 ≤ 140737488351232) (w2 : IsRow .u8 w a2 len2 cap2 z2) (g2 : cap2 * 1 ≤ 140737488351232) :
    Calls Try.prog 7 #[.slice a0 len0 cap0, .slice a1 len1 cap1, .slice a2 len2 cap2] w fun e w' => e = .returned (.bool true) ∧ Below w.heap.size w w' := by
  have hr0 := rowOf w0
  have hr1 := rowOf w1
  have hr2 := rowOf w2
  have l0 : len0 ≤ cap0 := by rcases w0 with ⟨_, h1, h, _⟩ | ⟨x, h, h1, _⟩ <;> omega
  have l1 : len1 ≤ cap1 := by rcases w1 with ⟨_, h1, h, _⟩ | ⟨x, h, h1, _⟩ <;> omega
  have l2 : len2 ≤ cap2 := by rcases w2 with ⟨_, h1, h, _⟩ | ⟨x, h, h1, _⟩ <;> omega
  clear w0 w1 w2
  generalize z0.take len0 = x0 at *
  generalize z1.take len1 = x1 at *
  generalize z2.take len2 = x2 at *
  have H0 := Lib.hid hr0
  have H1 := Lib.hid hr1
  have H2 := Lib.hid hr2
  clear hr0 hr1 hr2
  obtain ⟨i0, hi, hz0, hz1, hz2⟩ := info_parts info5
  obtain ⟨n, hn⟩ : ∃ n : Nat, n = min (min len0 len1) len2 := ⟨_, rfl⟩
  have hmk : ∀ u : World, (Instr.makeSlice 28 (.int .i64 (n : Int)) (.int .i64 (n : Int))).run Try.prog u =
      .ok (.slice (some ⟨u.heap.size, 0, none⟩) n n) (u.alloc (.cells (madeCells #[.int .u8 0] n) 5)) := fun u => by
    have h := run_make (P := Try.prog) u 28 5 i0 (.int .u8 0) Try.underlying28 hi hz0 .i64 .i64 (n : Int) (n : Int) (by omega) (Int.le_refl _) (by rw [hz2]; omega) (by omega)
    simpa [hz1, Value.cells] using h
  have hmin : ∀ u : World, (Builtin.min_ #[3, 3, 3] 3 #[.int .i64 (len0 : Int), .int .i64 (len1 : Int), .int .i64 (len2 : Int)]).run Try.prog u = .ok (.int .i64 (n : Int)) u := fun u => by
    rw [run_min_int3]
    congr 2
    repeat' split
    all_goals omega
  have m0 : n ≤ len0 := by omega
  have m1 : n ≤ len1 := by omega
  have m2 : n ≤ len2 := by omega
  clear hn
  go_enter Try.func7, Try.ntmps7
  go_wp2
  go_loopw [9, 21] (fun _ t wr => ∃ k : Nat, ∃ c : Array Value, k ≤ n ∧ t = .int .i64 k ∧ Below w.heap.size w wr ∧ wr.heap[w.heap.size]? = some (.cells c 5 (0, 0)) ∧ Done x0 x1 x2 n k c) (fun _ t _ => n - (intOf t).toNat)
  case atStart => exact ⟨0, _, by omega, rfl, (Below.refl _ _).alloc (Nat.le_refl _) _, heap_alloc_last w _, Done.start _ _ _ _⟩
  case round =>
    obtain ⟨k, c, hk, rfl, hB, hh, hd⟩ := hrel
    by_cases hlt : k < n
    · obtain ⟨b0, o0, rfl, _, hc0⟩ := (H0.out.below hB).cells (by omega)
      obtain ⟨b1, o1, rfl, _, hc1⟩ := (H1.out.below hB).cells (by omega)
      obtain ⟨b2, o2, rfl, _, hc2⟩ := (H2.out.below hB).cells (by omega)
      have c0 := hc0 k (by omega)
      have c1 := hc1 k (by omega)
      have c2 := hc2 k (by omega)
      obtain ⟨z, hz⟩ := hd.2.2 k hlt
      have c3 := cell_of_row wr w.heap.size k c 5 (0, 0) hh
      rw [hz] at c3
      have f3 := frozen_of_row wr w.heap.size k c 5 hh
      have v0 : at3 x0 x1 x2 k = bits .xor .u8 (bits .xor .u8 (x0.getD k 0) (x1.getD k 0)) (x2.getD k 0) := rfl
      generalize x0.getD k 0 = y0 at *
      generalize x1.getD k 0 = y1 at *
      generalize x2.getD k 0 = y2 at *
      have HD := Lib.hid hd
      have HH := Lib.hid hh
      have HV := Lib.hid v0
      have HB := Lib.hid hB
      clear hd hh v0 hB hc0 hc1 hc2 hz
      go_wp2_with fail
      go_region
      go_wp2
      go_roundw
      case rel => exact ⟨k + 1, _, by omega, by go_num, (HB.out.setCell (Nat.le_refl _) _).drew, heap_setCell_same wr w.heap.size k c 5 _ HH.out, HD.out.next hlt HV.out.symm⟩
      case measure => simp [intOf]; omega
    · obtain rfl : k = n := by omega
      have d0 : (0 : Int) ≤ (k : Int) := by omega
      have d1 : (k : Int) ≤ (cap0 : Int) := by omega
      have d2 : (k : Int) ≤ (cap1 : Int) := by omega
      have d3 : (k : Int) ≤ (cap2 : Int) := by omega
      have hR := hd.row wr w.heap.size hh (by omega) H0.out.byt H1.out.byt H2.out.byt
      have hM := more_all3 H0.out.byt H1.out.byt H2.out.byt k (by rw [H0.out.count]; exact m0) (by rw [H1.out.count]; exact m1) (by rw [H2.out.count]; exact m2)
      have T0 := Lib.hid (H0.out.take k m0)
      have T1 := Lib.hid (H1.out.take k m1)
      have T2 := Lib.hid (H2.out.take k m2)
      obtain ⟨q0, hq0⟩ : ∃ q, num (more 0#32 (x0.take k)) = q := ⟨_, rfl⟩
      obtain ⟨q1, hq1⟩ : ∃ q, num (more 0#32 (x1.take k)) = q := ⟨_, rfl⟩
      obtain ⟨q2, hq2⟩ : ∃ q, num (more 0#32 (x2.take k)) = q := ⟨_, rfl⟩
      obtain ⟨q3, hq3⟩ : ∃ q, num (more 0#32 (all3 x0 x1 x2 k)) = q := ⟨_, rfl⟩
      rw [hq0, hq1, hq2, hq3] at hM
      have hT : (q3 == bits .xor .u32 (bits .xor .u32 q0 q1) q2) = true := by rw [hM]; simp
      have Q0 := Lib.hid hq0
      have Q1 := Lib.hid hq1
      have Q2 := Lib.hid hq2
      have Q3 := Lib.hid hq3
      have HR := Lib.hid hR
      clear hM hq0 hq1 hq2 hq3 hd hh hR H0 H1 H2
      go_wp2_with fail
      go_region_held3 (fun w' => Below w.heap.size w w' ∧ Row w' (some ⟨w.heap.size, 0, none⟩) k (all3 x0 x1 x2 k))
        (first | exact ⟨hB.drew, HR.out.below (Below.refl _ _).drew⟩ | (refine kept ?_ hb3; assumption) | assumption)
        (first
          | (go_at_call_of 11 (Value.slice (some ⟨w.heap.size, 0, none⟩) k k); refine (sum_any _ _ _ (all3 x0 x1 x2 k) _ ?_).mono ?_; exact (by assumption : _ ∧ _).2; rintro e w' ⟨rfl, hb3⟩; rw [Q3.out])
          | (go_at_call_of 11 (Value.slice a0 k cap0); refine (sum_any _ _ _ (x0.take k) _ ?_).mono ?_; exact T0.out.below (by assumption : _ ∧ _).1; rintro e w' ⟨rfl, hb3⟩; rw [Q0.out])
          | (go_at_call_of 11 (Value.slice a1 k cap1); refine (sum_any _ _ _ (x1.take k) _ ?_).mono ?_; exact T1.out.below (by assumption : _ ∧ _).1; rintro e w' ⟨rfl, hb3⟩; rw [Q1.out])
          | (go_at_call_of 11 (Value.slice a2 k cap2); refine (sum_any _ _ _ (x2.take k) _ ?_).mono ?_; exact T2.out.below (by assumption : _ ∧ _).1; rintro e w' ⟨rfl, hb3⟩; rw [Q2.out])
          | (go_at_call 10; refine (awake_any _).mono ?_; rintro e w' ⟨rfl, hb3⟩))
      all_goals
        go_wp2
        rename_i hS
        go_ret
        exact ⟨rfl, hS.1⟩
-- WALK ENDS

set_option maxRecDepth 100000 in
theorem lifted (os : Os) (started : os.Started) (H : Type) (enc : TypeId × Value → H) :
    ReturnsInHanded {} Try.checked os 7 .any (Rows.crcAddsSpec.pre6 enc Try.prog Try.f7 Rows.crcAddsRow.domain false) (Rows.crcAddsSpec.post enc Try.prog Try.f7 false true false false) := by
  refine returnsInHanded_of_change_sized (C := Try.checked) own started (by kernel_rfl) Try.func7
    (ChangeSpec.witness6 (enc := enc) (C := Try.checked) false ⟨#[], #[.slice none 0 0, .slice none 0 0, .slice none 0 0], []⟩ 8 (by kernel_rfl) (by kernel_rfl) (by kernel_rfl) (by kernel_rfl)) ?_
  intro W base args ds gs before hval0 hW hcnd hsz0 _
  have hsz : (DataW.weightsEach Try.prog (Try.f7.params.toList ++ Rows.crcAddsSpec.plain.varTypes Try.prog) (ds ++ gs)).all (· ≤ reachBytes) = true := hsz0
  clear hsz0
  have hval : ∀ (j : Nat) t v, Try.f7.params[j]? = some t → args[j]? = some v → Value.okWide Try.prog W .any base t v := hval0
  have hW' := hW
  obtain ⟨p, q, hA0, hV, rfl, hfz, hnd⟩ := hW
  have hA : DataW.TrodAll enc Try.prog W 0 (fun _ => true) true Try.f7.params.toList args.toList ds p := hA0
  rw [Try.params7] at hA hval hsz
  obtain ⟨v0, vs0, d0, ds0, p0, q0, hargs, rfl, rfl, h0, r0⟩ := trodAll_cons hA
  obtain ⟨v1, vs1, d1, ds1, p1, q1, rfl, rfl, rfl, h1, r1⟩ := trodAll_cons r0
  obtain ⟨v2, vs2, d2, ds2, p2, q2, rfl, rfl, rfl, h2, r2⟩ := trodAll_cons r1
  obtain ⟨rfl, rfl, rfl⟩ := trodAll_nil r2
  obtain rfl : args = #[v0, v1, v2] := by cases args; simp_all
  obtain ⟨rfl, rfl⟩ := trodVars_none hV
  obtain ⟨a0, len0, cap0, rfl⟩ := okWide_slice Try.underlying28 (hval 0 28 v0 rfl rfl)
  have k0 := h0
  have lt0 : ∀ x ∈ p0, x.block < W.heap.size := by obtain ⟨m, hm⟩ := k0; exact DataW.trod_lt m _ _ _ hm
  obtain ⟨z0, w0, g0⟩ : ∃ zs, IsRow .u8 W a0 len0 cap0 zs ∧ cap0 * 1 ≤ 140737488351232 := by
    obtain ⟨fuel, hf⟩ := h0
    rcases open_ints Try.underlying28 Try.underlying5 (by kernel_rfl) hf with ⟨hcs, hx⟩ | ⟨x, l, c, zs, hcs, _, hl, hm, hz, hx, hcell, hwz⟩
    · simp [Value.cells] at hcs
      obtain ⟨rfl, rfl, rfl⟩ := hcs
      exact ⟨[], .inl ⟨rfl, rfl, rfl, rfl⟩, by omega⟩
    · simp [Value.cells] at hcs
      obtain ⟨rfl, rfl, rfl⟩ := hcs
      simp only [Prod.mk.injEq] at hx
      obtain ⟨hd, _⟩ := hx
      have hz' : zs.length = cap0 := by simpa using hz
      have g0 : cap0 * 1 ≤ 140737488351232 := by
        have := sized_slice hsz (j := 0) (t := 28) (e := 5) rfl (by rw [hd]; rfl) Try.underlying28
        rw [show Try.prog.bytesOf 5 = 1 by kernel_rfl] at this
        simp only [lits, List.length_map, List.length_take, List.length_drop, reachBytes] at this
        omega
      exact ⟨zs, .inr ⟨_, rfl, hl, hm, by simpa using hz, hcell, hwz⟩, g0⟩
  obtain ⟨a1, len1, cap1, rfl⟩ := okWide_slice Try.underlying28 (hval 1 28 v1 rfl rfl)
  have k1 := h1
  have lt1 : ∀ x ∈ p1, x.block < W.heap.size := by obtain ⟨m, hm⟩ := k1; exact DataW.trod_lt m _ _ _ hm
  obtain ⟨z1, w1, g1⟩ : ∃ zs, IsRow .u8 W a1 len1 cap1 zs ∧ cap1 * 1 ≤ 140737488351232 := by
    obtain ⟨fuel, hf⟩ := h1
    rcases open_ints Try.underlying28 Try.underlying5 (by kernel_rfl) hf with ⟨hcs, hx⟩ | ⟨x, l, c, zs, hcs, _, hl, hm, hz, hx, hcell, hwz⟩
    · simp [Value.cells] at hcs
      obtain ⟨rfl, rfl, rfl⟩ := hcs
      exact ⟨[], .inl ⟨rfl, rfl, rfl, rfl⟩, by omega⟩
    · simp [Value.cells] at hcs
      obtain ⟨rfl, rfl, rfl⟩ := hcs
      simp only [Prod.mk.injEq] at hx
      obtain ⟨hd, _⟩ := hx
      have hz' : zs.length = cap1 := by simpa using hz
      have g1 : cap1 * 1 ≤ 140737488351232 := by
        have := sized_slice hsz (j := 1) (t := 28) (e := 5) rfl (by rw [hd]; rfl) Try.underlying28
        rw [show Try.prog.bytesOf 5 = 1 by kernel_rfl] at this
        simp only [lits, List.length_map, List.length_take, List.length_drop, reachBytes] at this
        omega
      exact ⟨zs, .inr ⟨_, rfl, hl, hm, by simpa using hz, hcell, hwz⟩, g1⟩
  obtain ⟨a2, len2, cap2, rfl⟩ := okWide_slice Try.underlying28 (hval 2 28 v2 rfl rfl)
  have k2 := h2
  have lt2 : ∀ x ∈ p2, x.block < W.heap.size := by obtain ⟨m, hm⟩ := k2; exact DataW.trod_lt m _ _ _ hm
  obtain ⟨z2, w2, g2⟩ : ∃ zs, IsRow .u8 W a2 len2 cap2 zs ∧ cap2 * 1 ≤ 140737488351232 := by
    obtain ⟨fuel, hf⟩ := h2
    rcases open_ints Try.underlying28 Try.underlying5 (by kernel_rfl) hf with ⟨hcs, hx⟩ | ⟨x, l, c, zs, hcs, _, hl, hm, hz, hx, hcell, hwz⟩
    · simp [Value.cells] at hcs
      obtain ⟨rfl, rfl, rfl⟩ := hcs
      exact ⟨[], .inl ⟨rfl, rfl, rfl, rfl⟩, by omega⟩
    · simp [Value.cells] at hcs
      obtain ⟨rfl, rfl, rfl⟩ := hcs
      simp only [Prod.mk.injEq] at hx
      obtain ⟨hd, _⟩ := hx
      have hz' : zs.length = cap2 := by simpa using hz
      have g2 : cap2 * 1 ≤ 140737488351232 := by
        have := sized_slice hsz (j := 2) (t := 28) (e := 5) rfl (by rw [hd]; rfl) Try.underlying28
        rw [show Try.prog.bytesOf 5 = 1 by kernel_rfl] at this
        simp only [lits, List.length_map, List.length_take, List.length_drop, reachBytes] at this
        omega
      exact ⟨zs, .inr ⟨_, rfl, hl, hm, by simpa using hz, hcell, hwz⟩, g2⟩
  clear hA0 hval0
  refine (walk a0 len0 cap0 z0 a1 len1 cap1 z1 a2 len2 cap2 z2 W w0 g0 w1 g1 w2 g2).mono fun e W' ⟨he, bel⟩ => ?_
  subst he
  exact ⟨_, rfl, _, _, _, [], _, [], hW', trodAll_mk1 (shut_bool Try.underlying4 _), (trodAll_cons_mk (Below.trod laidOut (by kernel_rfl) (of_decide_eq_true (by kernel_rfl)) k0 bel lt0) (trodAll_cons_mk (Below.trod laidOut (by kernel_rfl) (of_decide_eq_true (by kernel_rfl)) k1 bel lt1) (trodAll_cons_mk (Below.trod laidOut (by kernel_rfl) (of_decide_eq_true (by kernel_rfl)) k2 bel lt2) trodAll_mk0))), rfl, bel.frame _, fun h => by cases h⟩

theorem proved : Rows.CrcAddsSaid :=
  OpenClaim.holds_of_wide 7 Try.f7 rfl rfl rfl rfl rfl rfl rfl ⟨rfl, rfl, rfl, rfl, rfl⟩ rfl rfl rfl rfl rfl (by kernel_rfl) Try.func7 (by kernel_rfl)
    (of_decide_eq_true (by kernel_rfl)) (by unfold Func.isWrapper; first | (rw [if_pos (by decide +kernel)]; kernel_rfl) | (rw [if_neg (by decide +kernel)]; exact ⟨rfl, rfl⟩))
    (fun os started H enc _ => lifted os started H enc)
#print axioms proved
end Go.Proofs.Ytmpidpjainobaaa.crcAdds

/-
CrcTells: rows that differ within four bytes side by side have unlike sums, others the same.
Conditions: none.
-/
import Derived.Test.YtmpidpjainobaaaRows
import Derived.Test.YtmpidpjainobaaaWord
import Derived.WalkKit
import Derived.ProofKit
import Derived.OpenShut
import Derived.ShutString
import Derived.ChangeOld
import Derived.Below
import Derived.SizedLaws
import Derived.RegionTactic
import Derived.Deep.RegionHeld3
import Derived.Deep.RegionWith
import Derived.Laws.BytesArg
import Derived.Lib.SmallJoins
import Derived.Laws.IdiomArrays
namespace Go.Proofs.Ytmpidpjainobaaa.crcTells
open Go.ChangeShapes Go.WideShapes Go.ChangeAt Go.RowKit
open Go.ChangeMaps (open_string shut_string)
set_option linter.unusedVariables false
theorem own : ownKnob Try.prog.godebug = none := by kernel_rfl
theorem laidOut : laidOutB Try.prog = true := by kernel_rfl
/-- What the walk is told of a slice of integers that came in. -/
def IsRow (k : IntKind) (w : World) (a : Option Addr) (len cap : Nat) (zs : List Int) : Prop :=
  (a = none ∧ len = 0 ∧ cap = 0 ∧ zs = []) ∨
  ∃ x, a = some x ∧ len ≤ cap ∧ cap ≤ maxLen ∧ zs.length = cap ∧ (∀ i, i < zs.length → w.cell? (x.add i) = some (.int k (zs.getD i 0))) ∧ ∀ n ∈ zs, (Lit.int k n).wf = true

open Crc in
theorem rowOf {w : World} {a : Option Addr} {len cap : Nat} {zs : List Int} (h : IsRow .u8 w a len cap zs) : Row w a len (zs.take len) := by
  rcases h with ⟨rfl, rfl, rfl, rfl⟩ | ⟨x, rfl, hl, hm, hz, hc, hw⟩
  · exact Row.nil w
  · unfold maxLen at hm
    refine ⟨by rw [List.length_take]; omega, by omega, fun z hz' => ?_, fun h0 => ?_⟩
    · have := bounds_u8 (hw z (List.mem_of_mem_take hz')); omega
    · obtain ⟨b, off, rfl, hc'⟩ := ints_at hc (by omega)
      have hlt : b < w.heap.size := block_lt_of_cell (hc' 0 (by omega))
      refine ⟨b, off, rfl, hlt, fun j hj => ?_⟩
      rw [hc' j (by omega)]
      simp [hj]

theorem list4 {α : Type} (l : List α) (h : (⟨l⟩ : Array α).size = 4) : ∃ a b c d, l = [a, b, c, d] := by
  match l, h with
  | [a, b, c, d], _ => exact ⟨a, b, c, d, rfl⟩
open Crc in
/-- The array of four bytes, opened. -/
theorem four {H : Type} (enc : TypeId × Value → H) (base : Nat) (v : Value) (d : DataW H) (p : List MemPlace) (w : World) (k2 : DataW.Trod enc Try.prog w 0 (fun _ => true) true 33 v d p) (o2 : Value.okWide Try.prog w .any base 33 v) :
    ∃ y0 y1 y2 y3 : Int, v = .agg #[.int .u8 y0, .int .u8 y1, .int .u8 y2, .int .u8 y3] ∧ Byte [y0, y1, y2, y3] := by
  obtain ⟨cs, rfl, hsz, _⟩ : ∃ cs, v = .agg cs ∧ cs.size = Try.prog.cellsOf 33 ∧ Row.okWide Try.prog w .any base 33 cs := by
    simpa [Value.okWide, Try.underlying33] using o2
  rw [show Try.prog.cellsOf 33 = 4 by kernel_rfl] at hsz
  obtain ⟨l⟩ := cs
  obtain ⟨c0, c1, c2, c3, rfl⟩ := list4 l hsz
  obtain ⟨fuel, hf⟩ := k2
  obtain ⟨y0, y1, y2, y3, m, hx, hy0, hy1, hy2, hy3⟩ := trod_array4 Try.underlying33 (by kernel_rfl) hf
  obtain ⟨x0, e0, _, w0⟩ := DataW.trod_int Try.underlying5 hy0
  obtain ⟨x1, e1, _, w1⟩ := DataW.trod_int Try.underlying5 hy1
  obtain ⟨x2, e2, _, w2⟩ := DataW.trod_int Try.underlying5 hy2
  obtain ⟨x3, e3, _, w3⟩ := DataW.trod_int Try.underlying5 hy3
  simp at e0 e1 e2 e3
  subst e0 e1 e2 e3
  refine ⟨x0, x1, x2, x3, rfl, fun z hz => ?_⟩
  have b0 := bounds_u8 w0
  have b1 := bounds_u8 w1
  have b2 := bounds_u8 w2
  have b3 := bounds_u8 w3
  simp at hz
  omega

open Crc in
set_option maxRecDepth 100000 in
theorem core_none (a0 : Option Addr) (cap0 : Nat) (a1 : Int) (y0 y1 y2 y3 : Int) (w : World) :
    Calls Try.prog 6 #[.slice a0 0 cap0, .int .i64 a1, .agg #[.int .u8 y0, .int .u8 y1, .int .u8 y2, .int .u8 y3]] w fun e w' => e = .returned (.bool true) ∧ Below w.heap.size w w' := by
  go_enter Try.func6, Try.ntmps6
  go_wp2_with fail
  refine (awake_any _).mono ?_
  rintro e w1 ⟨rfl, b1⟩
  go_wp2
  go_ret
  exact ⟨rfl, ((Below.refl _ _).alloc (Nat.le_refl _) _).trans (b1.mono (by simp))⟩

open Crc in
structure Keep (w u : World) (a : Option Addr) (len : Nat) (zs : List Int) : Prop where
  below : Below w.heap.size w u
  row : Row u a len zs
theorem Keep.mono {w u u' : World} {a : Option Addr} {len : Nat} {zs : List Int} (h : Keep w u a len zs) (hb : Below u.heap.size u u') : Keep w u' a len zs :=
  ⟨h.1.trans (hb.mono h.1.size), h.2.below hb⟩

open Crc in
theorem str_ne {a b : List Int} (h : ¬ a = b) (hl : a.length = b.length) (ha : Byte a) (hb : Byte b) : ((strOfNums a).toList == (strOfNums b).toList) = false := by
  rw [beq_eq_false_iff_ne, ByteArray.toList_eq, ByteArray.toList_eq]
  intro e
  apply h
  have e1 : (a.map fun n => UInt8.ofNat n.toNat) = b.map fun n => UInt8.ofNat n.toNat := by
    simpa [strOfNums] using e
  apply List.ext_getElem hl
  intro i h1 h2
  have e2 := congrArg (fun l : List UInt8 => l[i]?) e1
  simp [h1, h2] at e2
  have x := ha _ (List.getElem_mem h1)
  have y := hb _ (List.getElem_mem h2)
  have e3 := congrArg UInt8.toNat e2
  simp at e3
  omega

theorem place (a1 : Int) (len : Nat) (h0 : 0 < len) (hl : len ≤ 140737488351232) : ∃ n : Nat, n < len ∧ wrap64 ((IntKind.u64.wrap a1).tmod (len : Int)) = (n : Int) := by
  have h1 : 0 ≤ IntKind.u64.wrap a1 := by
    have : IntKind.u64.wrap a1 = a1 % 18446744073709551616 := by simp [IntKind.wrap, IntKind.bits, IntKind.signed]
    rw [this]; omega
  rw [Int.tmod_eq_emod_of_nonneg h1]
  have h2 := Int.emod_nonneg (IntKind.u64.wrap a1) (b := (len : Int)) (by omega)
  have h3 := Int.emod_lt_of_pos (IntKind.u64.wrap a1) (b := (len : Int)) (by omega)
  generalize IntKind.u64.wrap a1 % (len : Int) = r at *
  refine ⟨r.toNat, by omega, ?_⟩
  unfold wrap64
  omega

open Crc in
set_option maxRecDepth 100000 in
theorem core (a0 : Option Addr) (len cap : Nat) (zs : List Int) (a1 : Int) (y0 y1 y2 y3 : Int) (w : World) (hr : Row w a0 len zs) (hn : a0 = none → cap = 0) (hlen : 0 < len) (hl : len ≤ 140737488351232) (w1 : (Lit.int .i64 a1).wf = true) (hy : Byte [y0, y1, y2, y3]) :
    Calls Try.prog 6 #[.slice a0 len cap, .int .i64 a1, .agg #[.int .u8 y0, .int .u8 y1, .int .u8 y2, .int .u8 y3]] w fun e w' => e = .returned (.bool true) ∧ Below w.heap.size w w' := by
  have ht : ((len : Int) == 0) = false := by simp; omega
  have HR := Lib.hid hr
  have HN := Lib.hid hn
  have HY := Lib.hid hy
  have hbox : Below w.heap.size w ((w.alloc (.cells #[.int .u8 y0, .int .u8 y1, .int .u8 y2, .int .u8 y3] 33)).alloc (.cells #[] 5)) := ((Below.refl _ _).alloc (Nat.le_refl _) _).alloc (by simp) _
  have hm0 : Mine ((w.alloc (.cells #[.int .u8 y0, .int .u8 y1, .int .u8 y2, .int .u8 y3] 33)).alloc (.cells #[] 5)) (w.heap.size + 1) (.slice (some ⟨w.heap.size + 1, 0, none⟩) 0 0) [] := by
    have h := mine_nil (w.alloc (.cells #[.int .u8 y0, .int .u8 y1, .int .u8 y2, .int .u8 y3] 33))
    rwa [World.size_alloc] at h
  have hr1 := Lib.hid (hr.below hbox)
  clear hr hn hy
  go_enter Try.func6, Try.ntmps6
  go_wp2_with (at_builtin; refine append_bytes rfl (.tmp 13) (.tmp 14) rfl (w.heap.size + 1) _ [] rfl hm0 a0 len cap rfl zs hr1.out HN.out ?_ ?_ ?_)
  · simp; omega
  · simp
  intro v1 u1 m1 k1 g1
  have hB1 := k1 _ (Below.refl _ _)
  obtain ⟨g, cap1, cur, rfl, hg, hh, hcap, hcur⟩ := m1.opened len HR.out.count hlen
  have hbx : u1.heap[w.heap.size]? = some (.cells #[.int .u8 y0, .int .u8 y1, .int .u8 y2, .int .u8 y3] 33 (0, 0)) := by
    rw [hB1.block w.heap.size (by omega)]; exact heap_alloc2_old w _ _
  have hB : Below w.heap.size w u1 := hbox.trans (hB1.mono (by omega))
  have HB := Lib.hid hB
  have HH := Lib.hid hh
  have HX := Lib.hid hbx
  have HC := Lib.hid hcur
  clear hB hh hbx hcur hB1 k1 m1 hm0 hbox
  go_wp2
  obtain ⟨at0, hat, eat⟩ := place a1 len hlen hl
  rw [eat]
  clear eat
  go_loopw [8] (fun i wr => ∃ k : Nat, ∃ c : Array Value, k ≤ 4 ∧ at0 + k ≤ len ∧ i = .int .i64 k ∧ Below w.heap.size w wr ∧ wr.heap[g]? = some (.cells c 5 (0, 0)) ∧ wr.heap[w.heap.size]? = some (.cells #[.int .u8 y0, .int .u8 y1, .int .u8 y2, .int .u8 y3] 33 (0, 0)) ∧ Cur (chg zs [y0, y1, y2, y3] at0 k) c) (fun i _ => 4 - (intOf i).toNat)
  case atStart => exact ⟨0, cur, by omega, by omega, rfl, HB.out, HH.out, HX.out, HC.out⟩
  case round =>
    clear HB HH HX HC cur
    obtain ⟨k, cur, hk, hak, rfl, hB, hh, hx, hc⟩ := hrel
    by_cases hgo : k < 4 ∧ at0 + k < len
    · obtain ⟨hk4, hal⟩ := hgo
      have hcl : (chg zs [y0, y1, y2, y3] at0 k).length = len := by rw [chg_len]; exact HR.out.count
      have c1 := hc.cell (i := at0 + k) (by omega)
      have c2 := cell_of_row wr g (at0 + k) cur 5 (0, 0) hh
      rw [c1] at c2
      have f2 := frozen_of_row wr g (at0 + k) cur 5 hh
      have c3 : wr.cell? ⟨w.heap.size, k, none⟩ = some (.int .u8 ([y0, y1, y2, y3].getD k 0)) := by
        rw [cell_of_row wr w.heap.size k _ 33 (0, 0) hx]
        rcases k with _ | _ | _ | _ | k <;> first | rfl | omega
      have hs := hc.set (at0 + k) (bits .xor .u8 ((chg zs [y0, y1, y2, y3] at0 k).getD (at0 + k) 0) ([y0, y1, y2, y3].getD k 0))
      have HS : Hid (Cur (chg zs [y0, y1, y2, y3] at0 (k + 1)) _) := hs
      generalize (chg zs [y0, y1, y2, y3] at0 k).getD (at0 + k) 0 = p at *
      generalize ([y0, y1, y2, y3] : List Int).getD k 0 = q at *
      have HB := Lib.hid hB
      have HH := Lib.hid hh
      have HX := Lib.hid hx
      have d0 : ((at0 + k : Nat) : Int) = (at0 : Int) + (k : Int) := by omega
      have d1 : (0 : Int) ≤ (at0 : Int) + (k : Int) := by omega
      have d2 : (at0 : Int) + (k : Int) < (len : Int) := by omega
      have d3 : ((at0 : Int) + (k : Int)).toNat = at0 + k := by omega
      clear hB hh hx hc hs c1 d0 hcl
      go_wp2_with fail
      go_region
      go_wp2
      rw [d3] at *
      go_roundw
      case rel => exact ⟨k + 1, _, by omega, by omega, by go_num, (HB.out.setCell (by show w.heap.size ≤ g; omega) _).drew, heap_setCell_same wr g (at0 + k) cur 5 _ HH.out, (heap_setCell_other wr _ _ _ (by show w.heap.size ≠ g; omega)).trans HX.out, HS.out⟩
      case measure => simp [intOf]; omega
    · have hHy := HY.out
      have hzb : Byte zs := HR.out.byt
      have hcb := chg_byte hzb hHy at0 k
      have hcl : (chg zs [y0, y1, y2, y3] at0 k).length = len := by rw [chg_len]; exact HR.out.count
      have hT := chg_tells hzb hHy at0 k hk
      have hR := hc.row wr g hh hcb (by omega)
      rw [hcl] at hR
      generalize chg zs [y0, y1, y2, y3] at0 k = zs' at *
      have hK : Keep w wr (some ⟨g, 0, none⟩) len zs' := ⟨hB, hR⟩
      have hgo' : k < 4 → ¬ at0 + k < len := fun h1 h2 => hgo ⟨h1, h2⟩
      have K0 := Lib.hid hK
      have hz' : zs'.length = zs.length := by rw [hcl, HR.out.count]
      clear hc hh hx hB hR hgo hHy hcl HY hr1
      have hcv0 : ∀ u, Keep w u (some ⟨g, 0, none⟩) len zs' → (convert 28 9 (.slice a0 len cap)).run Try.prog u = .ok (.string (strOfNums zs)) u := fun u hu => by
        obtain ⟨b, off, rfl, _, hcell⟩ := (HR.out.below hu.1).cells hlen
        exact run_convert_bytes_arg u 28 5 Try.underlying28 Try.underlying5 b off len cap zs HR.out.count hcell 9 Try.underlying9
      have hcv1 : ∀ u, Keep w u (some ⟨g, 0, none⟩) len zs' → (convert 28 9 (.slice (some ⟨g, 0, none⟩) len cap1)).run Try.prog u = .ok (.string (strOfNums zs')) u := fun u hu => by
        obtain ⟨b, off, hbo, _, hcell⟩ := hu.2.cells hlen
        cases hbo
        exact run_convert_bytes_arg u 28 5 Try.underlying28 Try.underlying5 g 0 len cap1 zs' hu.2.count hcell 9 Try.underlying9
      obtain ⟨q0, hq0⟩ : ∃ q, num (more 0#32 zs) = q := ⟨_, rfl⟩
      obtain ⟨q1, hq1⟩ : ∃ q, num (more 0#32 zs') = q := ⟨_, rfl⟩
      rw [hq0, hq1] at hT
      have hE : zs = zs' → q0 = q1 := by rintro rfl; rw [← hq0, ← hq1]
      have Q0 := Lib.hid hq0
      have Q1 := Lib.hid hq1
      clear hq0 hq1 hK
      by_cases hsame : zs = zs'
      · subst hsame
        obtain rfl := hE rfl
        clear hT hE
        by_cases hk4 : k < 4
        · have hno := hgo' hk4
          clear hgo'
          go_wp2_with fail
          go_region_held3 (fun u => Keep w u (some ⟨g, 0, none⟩) len zs)
            (first | exact K0.out.mono (Below.refl _ _).drew | (refine Keep.mono ?_ hb3; assumption) | assumption)
            (first
              | (go_at_call_of 11 (Value.slice a0 len cap); refine (sum_any _ _ _ zs _ ?_).mono ?_; exact HR.out.below (by assumption : Keep _ _ _ _ _).1; rintro e w' ⟨rfl, hb3⟩; rw [Q0.out])
              | (go_at_call_of 11 (Value.slice (some ⟨g, 0, none⟩) len cap1); refine (sum_any _ _ _ zs _ ?_).mono ?_; exact (by assumption : Keep _ _ _ _ _).2; rintro e w' ⟨rfl, hb3⟩; rw [Q1.out])
              | (go_at_call 10; refine (awake_any _).mono ?_; rintro e w' ⟨rfl, hb3⟩))
          all_goals
            go_wp2
            go_ret
            exact ⟨rfl, Keep.below (by assumption)⟩
        · clear hgo'
          go_wp2_with fail
          go_region_held3 (fun u => Keep w u (some ⟨g, 0, none⟩) len zs)
            (first | exact K0.out.mono (Below.refl _ _).drew | (refine Keep.mono ?_ hb3; assumption) | assumption)
            (first
              | (go_at_call_of 11 (Value.slice a0 len cap); refine (sum_any _ _ _ zs _ ?_).mono ?_; exact HR.out.below (by assumption : Keep _ _ _ _ _).1; rintro e w' ⟨rfl, hb3⟩; rw [Q0.out])
              | (go_at_call_of 11 (Value.slice (some ⟨g, 0, none⟩) len cap1); refine (sum_any _ _ _ zs _ ?_).mono ?_; exact (by assumption : Keep _ _ _ _ _).2; rintro e w' ⟨rfl, hb3⟩; rw [Q1.out])
              | (go_at_call 10; refine (awake_any _).mono ?_; rintro e w' ⟨rfl, hb3⟩))
          all_goals
            go_wp2
            go_ret
            exact ⟨rfl, Keep.below (by assumption)⟩
      · have hq : (q0 == q1) = false := by
          rw [beq_eq_false_iff_ne]; exact fun h => hsame (hT h)
        have hst : ((strOfNums zs).toList == (strOfNums zs').toList) = false := str_ne hsame hz'.symm hzb hcb
        clear hT hE hsame
        by_cases hk4 : k < 4
        · have hno := hgo' hk4
          clear hgo'
          go_wp2_with fail
          go_region_held3 (fun u => Keep w u (some ⟨g, 0, none⟩) len zs')
            (first | exact K0.out.mono (Below.refl _ _).drew | (refine Keep.mono ?_ hb3; assumption) | assumption)
            (first
              | (go_at_call_of 11 (Value.slice a0 len cap); refine (sum_any _ _ _ zs _ ?_).mono ?_; exact HR.out.below (by assumption : Keep _ _ _ _ _).1; rintro e w' ⟨rfl, hb3⟩; rw [Q0.out])
              | (go_at_call_of 11 (Value.slice (some ⟨g, 0, none⟩) len cap1); refine (sum_any _ _ _ zs' _ ?_).mono ?_; exact (by assumption : Keep _ _ _ _ _).2; rintro e w' ⟨rfl, hb3⟩; rw [Q1.out])
              | (go_at_call 10; refine (awake_any _).mono ?_; rintro e w' ⟨rfl, hb3⟩))
          all_goals
            go_wp2
            go_ret
            exact ⟨rfl, Keep.below (by assumption)⟩
        · clear hgo'
          go_wp2_with fail
          go_region_held3 (fun u => Keep w u (some ⟨g, 0, none⟩) len zs')
            (first | exact K0.out.mono (Below.refl _ _).drew | (refine Keep.mono ?_ hb3; assumption) | assumption)
            (first
              | (go_at_call_of 11 (Value.slice a0 len cap); refine (sum_any _ _ _ zs _ ?_).mono ?_; exact HR.out.below (by assumption : Keep _ _ _ _ _).1; rintro e w' ⟨rfl, hb3⟩; rw [Q0.out])
              | (go_at_call_of 11 (Value.slice (some ⟨g, 0, none⟩) len cap1); refine (sum_any _ _ _ zs' _ ?_).mono ?_; exact (by assumption : Keep _ _ _ _ _).2; rintro e w' ⟨rfl, hb3⟩; rw [Q1.out])
              | (go_at_call 10; refine (awake_any _).mono ?_; rintro e w' ⟨rfl, hb3⟩))
          all_goals
            go_wp2
            go_ret
            exact ⟨rfl, Keep.below (by assumption)⟩

open Crc in
set_option maxRecDepth 100000 in
theorem walk {H : Type} (enc : TypeId × Value → H) (base : Nat) (a0 : Option Addr) (len0 cap0 : Nat) (z0 : List Int) (a1 : Int) (v2 : Value) (d2 : DataW H) (p2 : List MemPlace) (w : World) (w0 : IsRow .u8 w a0 len0 cap0 z0) (g0 : cap0 * 1 ≤ 140737488351232) (w1 : (Lit.int .i64 a1).wf = true) (k2 : DataW.Trod enc Try.prog w 0 (fun _ => true) true 33 v2 d2 p2) (o2 : Value.okWide Try.prog w .any base 33 v2) :
    Calls Try.prog 6 #[.slice a0 len0 cap0, .int .i64 a1, v2] w fun e w' => e = .returned (.bool true) ∧ Below w.heap.size w w' := by
  obtain ⟨y0, y1, y2, y3, rfl, hy⟩ := four enc base v2 d2 p2 w k2 o2
  have hr0 := rowOf w0
  have l0 : len0 ≤ cap0 := by rcases w0 with ⟨_, h1, h, _⟩ | ⟨x, h, h1, _⟩ <;> omega
  have n0 : a0 = none → cap0 = 0 := by rintro rfl; rcases w0 with ⟨_, _, h, _⟩ | ⟨x, h, _⟩ <;> simp_all
  by_cases h0 : len0 = 0
  · subst h0; exact core_none a0 cap0 a1 y0 y1 y2 y3 w
  · exact core a0 len0 cap0 _ a1 y0 y1 y2 y3 w hr0 n0 (by omega) (by omega) w1 hy
-- WALK ENDS

set_option maxRecDepth 100000 in
theorem lifted (os : Os) (started : os.Started) (H : Type) (enc : TypeId × Value → H) :
    ReturnsInHanded {} Try.checked os 6 .any (Rows.crcTellsSpec.pre6 enc Try.prog Try.f6 Rows.crcTellsRow.domain false) (Rows.crcTellsSpec.post enc Try.prog Try.f6 false true false false) := by
  refine returnsInHanded_of_change_sized (C := Try.checked) own started (by kernel_rfl) Try.func6
    (ChangeSpec.witness6 (enc := enc) (C := Try.checked) false ⟨#[], #[.slice none 0 0, .int .i64 0, .agg #[.int .u8 0, .int .u8 0, .int .u8 0, .int .u8 0]], []⟩ 8 (by kernel_rfl) (by kernel_rfl) (by kernel_rfl) (by kernel_rfl)) ?_
  intro W base args ds gs before hval0 hW hcnd hsz0 _
  have hsz : (DataW.weightsEach Try.prog (Try.f6.params.toList ++ Rows.crcTellsSpec.plain.varTypes Try.prog) (ds ++ gs)).all (· ≤ reachBytes) = true := hsz0
  clear hsz0
  have hval : ∀ (j : Nat) t v, Try.f6.params[j]? = some t → args[j]? = some v → Value.okWide Try.prog W .any base t v := hval0
  have hW' := hW
  obtain ⟨p, q, hA0, hV, rfl, hfz, hnd⟩ := hW
  have hA : DataW.TrodAll enc Try.prog W 0 (fun _ => true) true Try.f6.params.toList args.toList ds p := hA0
  rw [Try.params6] at hA hval hsz
  obtain ⟨v0, vs0, d0, ds0, p0, q0, hargs, rfl, rfl, h0, r0⟩ := trodAll_cons hA
  obtain ⟨v1, vs1, d1, ds1, p1, q1, rfl, rfl, rfl, h1, r1⟩ := trodAll_cons r0
  obtain ⟨v2, vs2, d2, ds2, p2, q2, rfl, rfl, rfl, h2, r2⟩ := trodAll_cons r1
  obtain ⟨rfl, rfl, rfl⟩ := trodAll_nil r2
  obtain rfl : args = #[v0, v1, v2] := by cases args; simp_all
  obtain ⟨rfl, rfl⟩ := trodVars_none hV
  obtain ⟨a0, len0, cap0, rfl⟩ := okWide_slice Try.underlying28 (hval 0 28 v0 rfl rfl)
  have k0 := h0
  have lt0 : ∀ x ∈ p0, x.block < W.heap.size := by obtain ⟨m, hm⟩ := k0; exact DataW.trod_lt m _ _ _ hm
  obtain ⟨z0, w0, g0⟩ : ∃ zs, IsRow .u8 W a0 len0 cap0 zs ∧ cap0 * 1 ≤ 140737488351232 := by
    obtain ⟨fuel, hf⟩ := h0
    rcases open_ints Try.underlying28 Try.underlying5 (by kernel_rfl) hf with ⟨hcs, hx⟩ | ⟨x, l, c, zs, hcs, _, hl, hm, hz, hx, hcell, hwz⟩
    · simp [Value.cells] at hcs
      obtain ⟨rfl, rfl, rfl⟩ := hcs
      exact ⟨[], .inl ⟨rfl, rfl, rfl, rfl⟩, by omega⟩
    · simp [Value.cells] at hcs
      obtain ⟨rfl, rfl, rfl⟩ := hcs
      simp only [Prod.mk.injEq] at hx
      obtain ⟨hd, _⟩ := hx
      have hz' : zs.length = cap0 := by simpa using hz
      have g0 : cap0 * 1 ≤ 140737488351232 := by
        have := sized_slice hsz (j := 0) (t := 28) (e := 5) rfl (by rw [hd]; rfl) Try.underlying28
        rw [show Try.prog.bytesOf 5 = 1 by kernel_rfl] at this
        simp only [lits, List.length_map, List.length_take, List.length_drop, reachBytes] at this
        omega
      exact ⟨zs, .inr ⟨_, rfl, hl, hm, by simpa using hz, hcell, hwz⟩, g0⟩
  obtain ⟨a1, rfl, rfl, rfl, w1⟩ := open_int Try.underlying3 (hval 1 3 v1 rfl rfl) h1
  have k2 := h2
  have lt2 : ∀ x ∈ p2, x.block < W.heap.size := by obtain ⟨m, hm⟩ := k2; exact DataW.trod_lt m _ _ _ hm
  clear hA0 hval0
  refine (walk enc base a0 len0 cap0 z0 a1 v2 d2 p2 W w0 g0 w1 k2 (hval 2 33 v2 rfl rfl)).mono fun e W' ⟨he, bel⟩ => ?_
  subst he
  exact ⟨_, rfl, _, _, _, [], _, [], hW', trodAll_mk1 (shut_bool Try.underlying4 _), (trodAll_cons_mk (Below.trod laidOut (by kernel_rfl) (of_decide_eq_true (by kernel_rfl)) k0 bel lt0) (trodAll_cons_mk (shut_int Try.underlying3 w1) (trodAll_cons_mk (Below.trod laidOut (by kernel_rfl) (of_decide_eq_true (by kernel_rfl)) k2 bel lt2) trodAll_mk0))), rfl, bel.frame _, fun h => by cases h⟩

theorem proved : Rows.CrcTellsSaid :=
  OpenClaim.holds_of_wide 6 Try.f6 rfl rfl rfl rfl rfl rfl rfl ⟨rfl, rfl, rfl, rfl, rfl⟩ rfl rfl rfl rfl rfl (by kernel_rfl) Try.func6 (by kernel_rfl)
    (of_decide_eq_true (by kernel_rfl)) (by unfold Func.isWrapper; first | (rw [if_pos (by decide +kernel)]; kernel_rfl) | (rw [if_neg (by decide +kernel)]; exact ⟨rfl, rfl⟩))
    (fun os started H enc _ => lifted os started H enc)
#print axioms proved
end Go.Proofs.Ytmpidpjainobaaa.crcTells

/-
CrcGoesOn: in parts it is the same sum: More of More of Sum is the Sum of all; with nothing behind it stays.
Conditions: none but the form's own bound on what comes in (its bulk).
-/
import Derived.Test.YtmpidpjainobaaaRows
import Derived.Test.YtmpidpjainobaaaBytes
import Derived.WalkKit
import Derived.ProofKit
import Derived.OpenShut
import Derived.ShutString
import Derived.ChangeOld
import Derived.Below
import Derived.JoinedCond
namespace Go.Proofs.Ytmpidpjainobaaa.crcGoesOnUpto
open Go.ChangeShapes Go.WideShapes Go.ChangeAt Go.RowKit
open Go.ChangeMaps (open_string shut_string)
set_option linter.unusedVariables false
theorem own : ownKnob Try.prog.godebug = none := by kernel_rfl
theorem laidOut : laidOutB Try.prog = true := by kernel_rfl
/-- What the walk is told of a slice of integers that came in. -/
def IsRow (k : IntKind) (w : World) (a : Option Addr) (len cap : Nat) (zs : List Int) : Prop :=
  (a = none ∧ len = 0 ∧ cap = 0 ∧ zs = []) ∨
  ∃ x, a = some x ∧ len ≤ cap ∧ cap ≤ maxLen ∧ zs.length = cap ∧ (∀ i, i < zs.length → w.cell? (x.add i) = some (.int k (zs.getD i 0))) ∧ ∀ n ∈ zs, (Lit.int k n).wf = true
theorem bulk_len {H : Type} (l : List (DataW H)) : l.length ≤ Rows.uptoBulkAll l := by
  induction l with
  | nil => simp [Rows.uptoBulkAll]
  | cons x r ih =>
    have h1 : 1 ≤ Rows.uptoBulk x := by
      cases x with
      | lit l => cases l <;> simp [Rows.uptoBulk]
      | _ => simp [Rows.uptoBulk]
    simp only [Rows.uptoBulkAll, List.length_cons]; omega
theorem bulk_slice {H : Type} (elems spare : List (DataW H)) : elems.length + spare.length + 1 ≤ Rows.uptoBulk (.slice elems spare) := by
  have h1 := bulk_len elems
  have h2 := bulk_len spare
  simp only [Rows.uptoBulk]; omega

open Crc in
theorem rowOf {w : World} {a : Option Addr} {len cap : Nat} {zs : List Int} (h : IsRow .u8 w a len cap zs) : Row w a len (zs.take len) := by
  rcases h with ⟨rfl, rfl, rfl, rfl⟩ | ⟨x, rfl, hl, hm, hz, hc, hw⟩
  · exact Row.nil w
  · unfold maxLen at hm
    refine ⟨by rw [List.length_take]; omega, by omega, fun z hz' => ?_, fun h0 => ?_⟩
    · have := bounds_u8 (hw z (List.mem_of_mem_take hz')); omega
    · obtain ⟨b, off, rfl, hc'⟩ := ints_at hc (by omega)
      have hlt : b < w.heap.size := block_lt_of_cell (hc' 0 (by omega))
      refine ⟨b, off, rfl, hlt, fun j hj => ?_⟩
      rw [hc' j (by omega)]
      simp [hj]

open Crc in
set_option maxRecDepth 100000 in
theorem walk (a0 : Option Addr) (len0 cap0 : Nat) (z0 : List Int) (a1 : Option Addr) (len1 cap1 : Nat) (z1 : List Int) (a2 : Option Addr) (len2 cap2 : Nat) (z2 : List Int) (w : World) (w0 : IsRow .u8 w a0 len0 cap0 z0) (w1 : IsRow .u8 w a1 len1 cap1 z1) (w2 : IsRow .u8 w a2 len2 cap2 z2) (hs : cap0 + cap1 + cap2 ≤ 1048576) :
    Calls Try.prog 5 #[.slice a0 len0 cap0, .slice a1 len1 cap1, .slice a2 len2 cap2] w fun e w' => e = .returned (.bool true) ∧ Below w.heap.size w w' := by
  have hr0 := rowOf w0
  have hr1 := rowOf w1
  have hr2 := rowOf w2
  have n0 : a0 = none → cap0 = 0 := by rintro rfl; rcases w0 with ⟨_, _, h, _⟩ | ⟨x, h, _⟩ <;> simp_all
  have n1 : a1 = none → cap1 = 0 := by rintro rfl; rcases w1 with ⟨_, _, h, _⟩ | ⟨x, h, _⟩ <;> simp_all
  have n2 : a2 = none → cap2 = 0 := by rintro rfl; rcases w2 with ⟨_, _, h, _⟩ | ⟨x, h, _⟩ <;> simp_all
  have l0 : len0 ≤ cap0 := by rcases w0 with ⟨_, h1, h, _⟩ | ⟨x, h, h1, _⟩ <;> omega
  have l1 : len1 ≤ cap1 := by rcases w1 with ⟨_, h1, h, _⟩ | ⟨x, h, h1, _⟩ <;> omega
  have l2 : len2 ≤ cap2 := by rcases w2 with ⟨_, h1, h, _⟩ | ⟨x, h, h1, _⟩ <;> omega
  clear w0 w1 w2
  generalize z0.take len0 = x0 at *
  generalize z1.take len1 = x1 at *
  generalize z2.take len2 = x2 at *
  have H0 := Lib.hid hr0
  have H1 := Lib.hid hr1
  have H2 := Lib.hid hr2
  have N0 := Lib.hid n0
  have N1 := Lib.hid n1
  have N2 := Lib.hid n2
  have c0 := hr0.count
  have c1 := hr1.count
  have c2 := hr2.count
  have C0 := Lib.hid c0
  have C1 := Lib.hid c1
  have C2 := Lib.hid c2
  clear hr0 hr1 hr2 n0 n1 n2 c0 c1 c2
  have hm0 := mine_nil w
  have hB0 : Below w.heap.size w (w.alloc (.cells #[] 5)) := (Below.refl _ _).alloc (Nat.le_refl _) _
  have H00 := Lib.hid (H0.out.below hB0)
  go_enter Try.func5, Try.ntmps5
  go_wp2_with (at_builtin; refine append_bytes rfl (.tmp 8) (.tmp 9) rfl w.heap.size _ [] rfl hm0 a0 len0 cap0 rfl x0 H00.out N0.out ?_ ?_ ?_)
  · simp; omega
  · simp
  intro v1 u1 m1 k1 g1
  have hB1 := k1 w hB0
  clear k1 hm0 H00
  have H01 := Lib.hid (H1.out.below hB1)
  go_wp2_with (at_builtin; refine append_bytes rfl (.tmp 10) (.tmp 11) rfl w.heap.size _ x0 rfl m1 a1 len1 cap1 rfl x1 H01.out N1.out ?_ ?_ ?_)
  · rw [C0.out]; omega
  · exact hB1.size
  intro v2 u2 m2 k2 g2
  have hB2 := k2 w hB1
  clear k2 m1 H01 hB1
  have H02 := Lib.hid (H2.out.below hB2)
  go_wp2_with (at_builtin; refine append_bytes rfl (.tmp 12) (.tmp 13) rfl w.heap.size _ (x0 ++ x1) rfl m2 a2 len2 cap2 rfl x2 H02.out N2.out ?_ ?_ ?_)
  · rw [List.length_append, C0.out, C1.out]; omega
  · exact hB2.size
  intro v3 u3 m3 k3 g3
  have hB3 := k3 w hB2
  clear k3 m2 H02 hB2
  obtain ⟨n3, a3, cap3, rfl, _, hr3⟩ := m3.rows
  rw [← List.append_assoc] at hr3
  have R3 := Lib.hid hr3
  have R0 := Lib.hid (H0.out.below hB3)
  have hz3 := hB3.size
  obtain ⟨p0, hp0⟩ : ∃ p, num (more 0#32 x0) = p := ⟨_, rfl⟩
  obtain ⟨p1, hp1⟩ : ∃ p, num (more 0#32 (x0 ++ x1)) = p := ⟨_, rfl⟩
  obtain ⟨p2, hp2⟩ : ∃ p, num (more 0#32 (x0 ++ x1 ++ x2)) = p := ⟨_, rfl⟩
  have P0 := Lib.hid hp0
  have P1 := Lib.hid hp1
  have P2 := Lib.hid hp2
  clear hr3 hp0 hp1 hp2 m3
  go_wp2_with fail
  refine (sum_any _ _ _ x0 _ R0.out).mono ?_
  rintro e s1 ⟨rfl, d1⟩
  rw [P0.out]
  have b1 := hB3.trans (d1.mono hz3)
  go_wp2_with fail
  refine (more_any (more 0#32 x0) _ P0.out.symm _ _ _ x1 _ (H1.out.below b1)).mono ?_
  rintro e s2 ⟨rfl, b2⟩
  rw [more_append, P1.out]
  have d2 := d1.trans (b2.mono d1.size)
  have b2 := hB3.trans (d2.mono hz3)
  go_wp2_with fail
  refine (more_any (more 0#32 (x0 ++ x1)) _ P1.out.symm _ _ _ x2 _ (H2.out.below b2)).mono ?_
  rintro e s3 ⟨rfl, b3⟩
  rw [more_append, P2.out]
  have d3 := d2.trans (b3.mono d2.size)
  have b3 := hB3.trans (d3.mono hz3)
  go_wp2_with fail
  refine (sum_any _ _ _ (x0 ++ x1 ++ x2) _ (R3.out.below d3)).mono ?_
  rintro e s4 ⟨rfl, b4⟩
  rw [P2.out]
  have b4 := b3.trans (b4.mono b3.size)
  go_wp2_with fail
  refine (sum_any _ _ _ x0 _ (H0.out.below b4)).mono ?_
  rintro e s5 ⟨rfl, b5⟩
  rw [P0.out]
  have b5 := b4.trans (b5.mono b4.size)
  go_wp2_with fail
  refine (more_any (more 0#32 x0) _ P0.out.symm _ _ _ [] _ (Row.nil _)).mono ?_
  rintro e s6 ⟨rfl, b6⟩
  rw [more_append, List.append_nil, P0.out]
  have b6 := b5.trans (b6.mono b5.size)
  go_wp2_with fail
  refine (sum_any _ _ _ x0 _ (H0.out.below b6)).mono ?_
  rintro e s7 ⟨rfl, b7⟩
  rw [P0.out]
  have b7 := b6.trans (b7.mono b6.size)
  go_wp2_with fail
  refine (awake_any _).mono ?_
  rintro e s8 ⟨rfl, b8⟩
  go_wp2
  go_ret
  exact ⟨rfl, b7.trans (b8.mono b7.size)⟩
-- WALK ENDS

set_option maxRecDepth 100000 in
theorem lifted (os : Os) (started : os.Started) (H : Type) (enc : TypeId × Value → H) (F : Stop.Interp) :
    ReturnsInHanded {} Try.checked os 5 .any ((Rows.OpenSpec.upto Rows.crcGoesOnSpec).pre6 enc Try.prog Try.f5 Rows.crcGoesOnUptoRow.domain false) (((Rows.OpenSpec.upto Rows.crcGoesOnSpec).at F).post enc Try.prog Try.f5 false true false false) := by
  refine returnsInHanded_of_cond (C := Try.checked) (s := Rows.OpenSpec.upto Rows.crcGoesOnSpec) (k := Rows.uptoSmall) rfl own started (by kernel_rfl) Try.func5
    (OpenSpec.witness (enc := enc) (C := Try.checked) (s := Rows.OpenSpec.upto Rows.crcGoesOnSpec) (k := Rows.uptoSmall) rfl false ⟨#[], #[.slice none 0 0, .slice none 0 0, .slice none 0 0], []⟩ 8 (by kernel_rfl) (by kernel_rfl) (by kernel_rfl)
      (x := ([.nil, .nil, .nil], [], [])) (by kernel_rfl) rfl (by kernel_rfl)) ?_
  intro W base args ds gs before hval0 hW hcnd hk _
  have hval : ∀ (j : Nat) t v, Try.f5.params[j]? = some t → args[j]? = some v → Value.okWide Try.prog W .any base t v := hval0
  have hW' := hW
  obtain ⟨p, q, hA0, hV, rfl, hfz, hnd⟩ := hW
  have hA : DataW.TrodAll enc Try.prog W 0 (fun _ => true) true Try.f5.params.toList args.toList ds p := hA0
  rw [Try.params5] at hA hval
  obtain ⟨v0, vs0, d0, ds0, p0, q0, hargs, rfl, rfl, h0, r0⟩ := trodAll_cons hA
  obtain ⟨v1, vs1, d1, ds1, p1, q1, rfl, rfl, rfl, h1, r1⟩ := trodAll_cons r0
  obtain ⟨v2, vs2, d2, ds2, p2, q2, rfl, rfl, rfl, h2, r2⟩ := trodAll_cons r1
  obtain ⟨rfl, rfl, rfl⟩ := trodAll_nil r2
  obtain rfl : args = #[v0, v1, v2] := by cases args; simp_all
  obtain ⟨rfl, rfl⟩ := trodVars_none hV
  have hB : Rows.uptoBulkAll [d0, d1, d2] ≤ 1048576 := of_decide_eq_true hk
  obtain ⟨a0, len0, cap0, rfl⟩ := okWide_slice Try.underlying28 (hval 0 28 v0 rfl rfl)
  have k0 := h0
  have lt0 : ∀ x ∈ p0, x.block < W.heap.size := by obtain ⟨m, hm⟩ := k0; exact DataW.trod_lt m _ _ _ hm
  obtain ⟨z0, w0, b0⟩ : ∃ zs, IsRow .u8 W a0 len0 cap0 zs ∧ cap0 + 1 ≤ Rows.uptoBulk d0 := by
    obtain ⟨fuel, hf⟩ := h0
    rcases open_ints Try.underlying28 Try.underlying5 (by kernel_rfl) hf with ⟨hcs, hx⟩ | ⟨x, l, c, zs, hcs, _, hl, hm, hz, hx, hcell, hwz⟩
    · simp [Value.cells] at hcs
      obtain ⟨rfl, rfl, rfl⟩ := hcs
      simp only [Prod.mk.injEq] at hx
      obtain ⟨hd, _⟩ := hx
      exact ⟨[], .inl ⟨rfl, rfl, rfl, rfl⟩, by rw [hd]; simp only [Rows.uptoBulk]; omega⟩
    · simp [Value.cells] at hcs
      obtain ⟨rfl, rfl, rfl⟩ := hcs
      simp only [Prod.mk.injEq] at hx
      obtain ⟨hd, _⟩ := hx
      have hz' : zs.length = cap0 := by simpa using hz
      have b0 : cap0 + 1 ≤ Rows.uptoBulk d0 := by
        rw [hd]
        have := bulk_slice (lits (H := H) .u8 (zs.take len0)) (lits .u8 (zs.drop len0))
        simp only [lits, List.length_map, List.length_take, List.length_drop] at this
        simp only [lits]
        omega
      exact ⟨zs, .inr ⟨_, rfl, hl, hm, by simpa using hz, hcell, hwz⟩, b0⟩
  obtain ⟨a1, len1, cap1, rfl⟩ := okWide_slice Try.underlying28 (hval 1 28 v1 rfl rfl)
  have k1 := h1
  have lt1 : ∀ x ∈ p1, x.block < W.heap.size := by obtain ⟨m, hm⟩ := k1; exact DataW.trod_lt m _ _ _ hm
  obtain ⟨z1, w1, b1⟩ : ∃ zs, IsRow .u8 W a1 len1 cap1 zs ∧ cap1 + 1 ≤ Rows.uptoBulk d1 := by
    obtain ⟨fuel, hf⟩ := h1
    rcases open_ints Try.underlying28 Try.underlying5 (by kernel_rfl) hf with ⟨hcs, hx⟩ | ⟨x, l, c, zs, hcs, _, hl, hm, hz, hx, hcell, hwz⟩
    · simp [Value.cells] at hcs
      obtain ⟨rfl, rfl, rfl⟩ := hcs
      simp only [Prod.mk.injEq] at hx
      obtain ⟨hd, _⟩ := hx
      exact ⟨[], .inl ⟨rfl, rfl, rfl, rfl⟩, by rw [hd]; simp only [Rows.uptoBulk]; omega⟩
    · simp [Value.cells] at hcs
      obtain ⟨rfl, rfl, rfl⟩ := hcs
      simp only [Prod.mk.injEq] at hx
      obtain ⟨hd, _⟩ := hx
      have hz' : zs.length = cap1 := by simpa using hz
      have b1 : cap1 + 1 ≤ Rows.uptoBulk d1 := by
        rw [hd]
        have := bulk_slice (lits (H := H) .u8 (zs.take len1)) (lits .u8 (zs.drop len1))
        simp only [lits, List.length_map, List.length_take, List.length_drop] at this
        simp only [lits]
        omega
      exact ⟨zs, .inr ⟨_, rfl, hl, hm, by simpa using hz, hcell, hwz⟩, b1⟩
  obtain ⟨a2, len2, cap2, rfl⟩ := okWide_slice Try.underlying28 (hval 2 28 v2 rfl rfl)
  have k2 := h2
  have lt2 : ∀ x ∈ p2, x.block < W.heap.size := by obtain ⟨m, hm⟩ := k2; exact DataW.trod_lt m _ _ _ hm
  obtain ⟨z2, w2, b2⟩ : ∃ zs, IsRow .u8 W a2 len2 cap2 zs ∧ cap2 + 1 ≤ Rows.uptoBulk d2 := by
    obtain ⟨fuel, hf⟩ := h2
    rcases open_ints Try.underlying28 Try.underlying5 (by kernel_rfl) hf with ⟨hcs, hx⟩ | ⟨x, l, c, zs, hcs, _, hl, hm, hz, hx, hcell, hwz⟩
    · simp [Value.cells] at hcs
      obtain ⟨rfl, rfl, rfl⟩ := hcs
      simp only [Prod.mk.injEq] at hx
      obtain ⟨hd, _⟩ := hx
      exact ⟨[], .inl ⟨rfl, rfl, rfl, rfl⟩, by rw [hd]; simp only [Rows.uptoBulk]; omega⟩
    · simp [Value.cells] at hcs
      obtain ⟨rfl, rfl, rfl⟩ := hcs
      simp only [Prod.mk.injEq] at hx
      obtain ⟨hd, _⟩ := hx
      have hz' : zs.length = cap2 := by simpa using hz
      have b2 : cap2 + 1 ≤ Rows.uptoBulk d2 := by
        rw [hd]
        have := bulk_slice (lits (H := H) .u8 (zs.take len2)) (lits .u8 (zs.drop len2))
        simp only [lits, List.length_map, List.length_take, List.length_drop] at this
        simp only [lits]
        omega
      exact ⟨zs, .inr ⟨_, rfl, hl, hm, by simpa using hz, hcell, hwz⟩, b2⟩
  clear hA0 hval0
  refine (walk a0 len0 cap0 z0 a1 len1 cap1 z1 a2 len2 cap2 z2 W w0 w1 w2 (by simp only [Rows.uptoBulkAll] at hB; omega)).mono fun e W' ⟨he, bel⟩ => ?_
  subst he
  exact ⟨_, rfl, _, _, _, [], _, [], hW', trodAll_mk1 (shut_bool Try.underlying4 _), (trodAll_cons_mk (Below.trod laidOut (by kernel_rfl) (of_decide_eq_true (by kernel_rfl)) k0 bel lt0) (trodAll_cons_mk (Below.trod laidOut (by kernel_rfl) (of_decide_eq_true (by kernel_rfl)) k1 bel lt1) (trodAll_cons_mk (Below.trod laidOut (by kernel_rfl) (of_decide_eq_true (by kernel_rfl)) k2 bel lt2) trodAll_mk0))), rfl, bel.frame _, fun h => by cases h⟩

theorem proved : Rows.CrcGoesOnUptoSaid :=
  OpenClaim.holds_of_cond 5 Try.f5 rfl rfl rfl rfl rfl rfl rfl ⟨rfl, rfl, rfl, rfl, rfl⟩ rfl rfl rfl rfl rfl (by kernel_rfl) Try.func5 (by kernel_rfl)
    (of_decide_eq_true (by kernel_rfl)) (by unfold Func.isWrapper; first | (rw [if_pos (by decide +kernel)]; kernel_rfl) | (rw [if_neg (by decide +kernel)]; exact ⟨rfl, rfl⟩))
    (fun os started H enc _ F => lifted os started H enc F)
#print axioms proved
end Go.Proofs.Ytmpidpjainobaaa.crcGoesOnUpto

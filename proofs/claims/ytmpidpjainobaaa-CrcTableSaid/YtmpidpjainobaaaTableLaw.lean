/-
CrcTable: for every byte, the code's table holds the reference's number there.
Conditions: none.
-/
import Derived.Test.YtmpidpjainobaaaRows
import Derived.Test.YtmpidpjainobaaaMore
import Derived.WalkKit
import Derived.ProofKit
import Derived.OpenShut
import Derived.ShutString
import Derived.ChangeOld
import Derived.Below
import Derived.Deep.RegionHeld3
namespace Go.Proofs.Ytmpidpjainobaaa.crcTable
open Go.ChangeShapes Go.WideShapes Go.ChangeAt Go.RowKit
open Go.ChangeMaps (open_string shut_string)
set_option linter.unusedVariables false
theorem own : ownKnob Try.prog.godebug = none := by kernel_rfl
theorem laidOut : laidOutB Try.prog = true := by kernel_rfl

/-- What the last statement needs of the world, kept by whatever only makes memory. -/
theorem kept {w w1 w2 : World} {B i : Nat} {u v : Value} (h : Below w.heap.size w w1 ∧ B < w1.heap.size ∧ w1.cell? ⟨B, i, none⟩ = some u ∧ w1.cell? ⟨B, 128, none⟩ = some v) (hb : Below w1.heap.size w1 w2) :
    Below w.heap.size w w2 ∧ B < w2.heap.size ∧ w2.cell? ⟨B, i, none⟩ = some u ∧ w2.cell? ⟨B, 128, none⟩ = some v :=
  ⟨h.1.trans (hb.mono h.1.size), Nat.lt_of_lt_of_le h.2.1 hb.size, (hb.cell (p := ⟨B, i, none⟩) h.2.1).trans h.2.2.1, (hb.cell (p := ⟨B, 128, none⟩) h.2.1).trans h.2.2.2⟩

open Crc in
set_option maxRecDepth 100000 in
theorem walk (a0 : Int) (w : World) (w0 : (Lit.int .u8 a0).wf = true) :
    Calls Try.prog 3 #[.int .u8 a0] w fun e w' => e = .returned (.bool true) ∧ Below w.heap.size w w' := by
  obtain ⟨z, hz, hp⟩ : ∃ z, (∀ w, (zeroValue 23).run Try.prog w = .ok (.agg z) w) ∧ IsPart 0 z := ⟨zc, zero23.1, part_zero.symm⟩
  have hb := bounds_u8 w0
  clear w0
  have h0 : 0 ≤ a0 := hb.1
  have h1 : a0 < 256 := by have := hb.2; omega
  have e1 : a0 = num (bv a0) := (num_bv a0 (by omega) (by omega)).symm
  obtain ⟨t, ht⟩ : ∃ t, t = num (tab (bv a0)) := ⟨_, rfl⟩
  have HE := Lib.hid e1
  have HP := Lib.hid hp
  clear e1 hp hb
  go_enter Try.func3, Try.ntmps3
  go_wp2_with fail
  refine (table_any _).mono ?_
  rintro e w1 ⟨rfl, hb1⟩
  obtain ⟨c, hc⟩ : ∃ c, IsTable c := ⟨table, rfl⟩
  rw [← hc]
  have c1 : c[a0.toNat]? = some (.int .u32 t) := by
    have h := hc.cell (bv a0) (by rw [← HE.out]; omega)
    rw [← HE.out, ← ht] at h; exact h
  have c2 : c[128]? = some (.int .u32 3988292384) := by
    rw [hc, table_cell 128 (by omega), show num (tab (BitVec.ofNat 32 128)) = 3988292384 by decide +kernel]
  have HC := Lib.hid hc
  have HT := Lib.hid ht
  clear hc ht
  have hz1 : w.heap.size ≤ w1.heap.size := hb1.size
  go_wp2_with (first
        | (refine wpList_store_row rfl 23 _ _ rfl w1.heap.size c rfl rfl 23 z (heap_alloc_last w1 _) (by rw [zero23.2, HC.out.size]) (by rw [HP.out.size, HC.out.size]) (HC.out.one) ?_; rw [World.setRow_alloc_new]))
  have hb2 : Below w.heap.size w (w1.alloc (.cells c 23)) := hb1.alloc hz1 _
  have d1 : (w1.alloc (.cells c 23)).cell? ⟨w1.heap.size, a0.toNat, none⟩ = some (.int .u32 t) := by rw [World.cell?_alloc_at _ _ _ _ rfl]; exact c1
  have d2 : (w1.alloc (.cells c 23)).cell? ⟨w1.heap.size, 128, none⟩ = some (.int .u32 3988292384) := by rw [World.cell?_alloc_at _ _ _ _ rfl]; exact c2
  have hlt : w1.heap.size < (w1.alloc (.cells c 23)).heap.size := by simp
  generalize w1.alloc (.cells c 23) = w2 at *
  generalize w1.heap.size = B at *
  clear c1 c2 hb1
  go_region_held3 (fun w' => Below w.heap.size w w' ∧ B < w'.heap.size ∧ w'.cell? ⟨B, a0.toNat, none⟩ = some (.int .u32 t) ∧ w'.cell? ⟨B, 128, none⟩ = some (.int .u32 3988292384))
    (first | exact ⟨hb2.drew, hlt, d1, d2⟩ | (refine kept ?_ hb3; assumption) | assumption)
    (first
      | (go_at_call 9; refine (refEntry_any (bv a0) _ HE.out h1 _).mono ?_; rintro e w' ⟨rfl, rfl⟩; rw [← HT.out])
      | (go_at_call 10; refine (awake_any _).mono ?_; rintro e w' ⟨rfl, hb3⟩))
  go_wp2
  rename_i hS
  go_ret
  exact ⟨rfl, hS.1⟩
-- WALK ENDS

set_option maxRecDepth 100000 in
theorem lifted (os : Os) (started : os.Started) (H : Type) (enc : TypeId × Value → H) :
    ReturnsInHanded {} Try.checked os 3 .any (Rows.crcTableSpec.pre6 enc Try.prog Try.f3 Rows.crcTableRow.domain false) (Rows.crcTableSpec.post enc Try.prog Try.f3 false true false false) := by
  refine returnsInHanded_of_change (C := Try.checked) own started (by kernel_rfl) Try.func3
    (ChangeSpec.witness6 (enc := enc) (C := Try.checked) false ⟨#[], #[.int .u8 0], []⟩ 8 (by kernel_rfl) (by kernel_rfl) (by kernel_rfl) (by kernel_rfl)) ?_
  intro W base args ds gs before hval0 hW hcnd _
  have hval : ∀ (j : Nat) t v, Try.f3.params[j]? = some t → args[j]? = some v → Value.okWide Try.prog W .any base t v := hval0
  have hW' := hW
  obtain ⟨p, q, hA0, hV, rfl, hfz, hnd⟩ := hW
  have hA : DataW.TrodAll enc Try.prog W 0 (fun _ => true) true Try.f3.params.toList args.toList ds p := hA0
  rw [Try.params3] at hA hval
  obtain ⟨v0, vs0, d0, ds0, p0, q0, hargs, rfl, rfl, h0, r0⟩ := trodAll_cons hA
  obtain ⟨rfl, rfl, rfl⟩ := trodAll_nil r0
  obtain rfl : args = #[v0] := by cases args; simp_all
  obtain ⟨rfl, rfl⟩ := trodVars_none hV
  obtain ⟨a0, rfl, rfl, rfl, w0⟩ := open_int Try.underlying5 (hval 0 5 v0 rfl rfl) h0
  clear hA0 hval0
  refine (walk a0 W w0).mono fun e W' ⟨he, bel⟩ => ?_
  subst he
  exact ⟨_, rfl, _, _, _, [], _, [], hW', trodAll_mk1 (shut_bool Try.underlying4 _), (trodAll_cons_mk (shut_int Try.underlying5 w0) trodAll_mk0), rfl, bel.frame _, fun h => by cases h⟩

theorem proved : Rows.CrcTableSaid :=
  OpenClaim.holds_of_wide 3 Try.f3 rfl rfl rfl rfl rfl rfl rfl ⟨rfl, rfl, rfl, rfl, rfl⟩ rfl rfl rfl rfl rfl (by kernel_rfl) Try.func3 (by kernel_rfl)
    (of_decide_eq_true (by kernel_rfl)) (by unfold Func.isWrapper; first | (rw [if_pos (by decide +kernel)]; kernel_rfl) | (rw [if_neg (by decide +kernel)]; exact ⟨rfl, rfl⟩))
    (fun os started H enc _ => lifted os started H enc)
#print axioms proved
end Go.Proofs.Ytmpidpjainobaaa.crcTable

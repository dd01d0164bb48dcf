/-
RelationTexts: the texts of any clauses, atoms, provides and of any one atom are what the references write, and MayAtom of it is theirs.
Conditions: none.
-/
import Derived.Test.YtddfjndclgapcaaDoorRows
import Derived.Test.YtddfjndclgapcaaDoorRelLaw6
import Derived.WalkKit
import Derived.ProofKit
import Derived.OpenShut
import Derived.ShutString
import Derived.ChangeOld
import Derived.Below
import Derived.Test.YtddfjndclgapcaaDoorTie
import Derived.Test.YtddfjndclgapcaaDoorCards
import Derived.Test.YtddfjndclgapcaaDoorRelTabs
import Derived.Test.YtddfjndclgapcaaDoorRelArgs
import Derived.Test.YtddfjndclgapcaaDoorLaidFrame
import Derived.Lay
import Derived.LaidMore
import Derived.SevenTiedAt
import Derived.Stop.Joined
import Derived.SizedLaws
namespace Go.Proofs.YtddfjndclgapcaaDoor.relationTexts
open Go.ChangeShapes Go.WideShapes Go.ChangeAt Go.RowKit
open Go.ChangeMaps (open_string shut_string)
set_option linter.unusedVariables false
theorem own : ownKnob Tryd.prog.godebug = none := by kernel_rfl
theorem laidOut : laidOutB Tryd.prog = true := by kernel_rfl

-- WALK BEGINS
set_option maxRecDepth 100000 in
theorem walk {H : Type} (enc : TypeId × Value → H) (base : Nat) (v0 : Value) (d0 : DataW H) (p0 : List MemPlace) (v1 : Value) (d1 : DataW H) (p1 : List MemPlace) (v2 : Value) (d2 : DataW H) (p2 : List MemPlace) (v3 : Value) (d3 : DataW H) (p3 : List MemPlace) (w : World) (k0 : DataW.Trod enc Tryd.prog w 0 (fun _ => true) true 22 v0 d0 p0) (o0 : Value.okWide Tryd.prog w .any base 22 v0) (hw0 : Rl.Wt 22 d0) (k1 : DataW.Trod enc Tryd.prog w 0 (fun _ => true) true 26 v1 d1 p1) (o1 : Value.okWide Tryd.prog w .any base 26 v1) (hw1 : Rl.Wt 26 d1) (k2 : DataW.Trod enc Tryd.prog w 0 (fun _ => true) true 29 v2 d2 p2) (o2 : Value.okWide Tryd.prog w .any base 29 v2) (hw2 : Rl.Wt 29 d2) (k3 : DataW.Trod enc Tryd.prog w 0 (fun _ => true) true 36 v3 d3 p3) (o3 : Value.okWide Tryd.prog w .any base 36 v3) (hw3 : Rl.Wt 36 d3) (hG : Rl.Vars w) :
    Calls Tryd.prog 4 #[v0, v1, v2, v3] w fun e w' => e = .returned (.bool true) ∧ Below w.heap.size w w' := by
  obtain ⟨a0, len0, cap0, rfl⟩ := okWide_slice Tryd.underlying22 o0
  obtain ⟨fuel0, hf0⟩ := k0
  obtain ⟨l0, h0, m0⟩ := Rl.clss_of Tryd.underlying22 hf0 hw0
  obtain ⟨a1, len1, cap1, rfl⟩ := okWide_slice Tryd.underlying26 o1
  obtain ⟨fuel1, hf1⟩ := k1
  obtain ⟨l1, h1, m1⟩ := Rl.ats_of Tryd.underlying26 hf1 hw1
  obtain ⟨a2, len2, cap2, rfl⟩ := okWide_slice Tryd.underlying29 o2
  obtain ⟨fuel2, hf2⟩ := k2
  obtain ⟨l2, h2, m2⟩ := Rl.pvs_of Tryd.underlying29 hf2 hw2
  obtain ⟨a3, rfl, x3, y3⟩ := Rl.one_of o3 k3 hw3
  exact Rl.texts_walk _ _ _ a3 l0 l1 l2 w h0 h1 h2 m0 m1 m2 x3 y3 hG
-- WALK ENDS

set_option maxRecDepth 100000 in
theorem lifted (os : Os) (started : os.Started) (H : Type) (enc : TypeId × Value → H) :
    ReturnsInHanded {} Tryd.checked os 4 .any (fun w args => (Rows.relationTextsSpec.pre enc Tryd.prog Tryd.f4 Rows.relationTextsRow.domain false w args ∧ laidMetH Tryd.prog Rl.listed w) ∧ sizedMet enc Tryd.prog Tryd.f4 (OpenSpec.ofChange Rows.relationTextsSpec) false w args)
      (Rows.relationTextsSpec.post enc Tryd.prog Tryd.f4 false true false false) := by
  refine laid_said (C := Tryd.checked) (X := fun w _ => laidMetH Tryd.prog Rl.listed w) (fun _ _ _ hh h => h.of_heap hh) own started (by kernel_rfl) Tryd.func4
    (ChangeSpec.witness_shaped (enc := enc) (C := Tryd.checked) (os := os) (X := fun w _ => laidMetH Tryd.prog Rl.listed w) false (World.laidAll Tryd.prog os Rl.listed) #[.slice none 0 0, .slice none 0 0, .slice none 0 0, .agg #[.string .empty, .int .i64 0, .string .empty]] 8 (World.laidAll_os _ _ _)
      (World.shaped_of_ZipB (by kernel_rfl) (by kernel_rfl)) (by kernel_rfl) (by kernel_rfl) (by kernel_rfl)
      (by rw [MakeChecks.laidMetH_plain _ _ _ (by kernel_rfl)]; exact laidMet_laidAll _ (by kernel_rfl) (by kernel_rfl))) ?_
  intro W base args ds gs before hval0 hW hcnd hsz0 hL hSh _
  have hsz : (DataW.weightsEach Tryd.prog (Tryd.f4.params.toList ++ Rows.relationTextsSpec.plain.varTypes Tryd.prog) (ds ++ gs)).all (· ≤ reachBytes) = true := hsz0
  clear hsz0
  have hval : ∀ (j : Nat) t v, Tryd.f4.params[j]? = some t → args[j]? = some v → Value.okWide Tryd.prog W .any base t v := hval0
  have hW' := hW
  obtain ⟨p, q, hA0, hV, rfl, hfz, hnd⟩ := hW
  have hA : DataW.TrodAll enc Tryd.prog W 0 (fun _ => true) true Tryd.f4.params.toList args.toList ds p := hA0
  rw [Tryd.params4] at hA hval hsz
  obtain ⟨v0, vs0, d0, ds0, p0, q0, hargs, rfl, rfl, h0, r0⟩ := trodAll_cons hA
  obtain ⟨v1, vs1, d1, ds1, p1, q1, rfl, rfl, rfl, h1, r1⟩ := trodAll_cons r0
  obtain ⟨v2, vs2, d2, ds2, p2, q2, rfl, rfl, rfl, h2, r2⟩ := trodAll_cons r1
  obtain ⟨v3, vs3, d3, ds3, p3, q3, rfl, rfl, rfl, h3, r3⟩ := trodAll_cons r2
  obtain ⟨rfl, rfl, rfl⟩ := trodAll_nil r3
  obtain rfl : args = #[v0, v1, v2, v3] := by cases args; simp_all
  obtain ⟨rfl, rfl⟩ := trodVars_none hV
  have k0 := h0
  have lt0 : ∀ x ∈ p0, x.block < W.heap.size := by obtain ⟨m, hm⟩ := k0; exact DataW.trod_lt m _ _ _ hm
  have k1 := h1
  have lt1 : ∀ x ∈ p1, x.block < W.heap.size := by obtain ⟨m, hm⟩ := k1; exact DataW.trod_lt m _ _ _ hm
  have k2 := h2
  have lt2 : ∀ x ∈ p2, x.block < W.heap.size := by obtain ⟨m, hm⟩ := k2; exact DataW.trod_lt m _ _ _ hm
  have k3 := h3
  have lt3 : ∀ x ∈ p3, x.block < W.heap.size := by obtain ⟨m, hm⟩ := k3; exact DataW.trod_lt m _ _ _ hm
  clear hA0 hval0
  refine (walk enc base v0 d0 p0 v1 d1 p1 v2 d2 p2 v3 d3 p3 W k0 (hval 0 22 v0 rfl rfl) (Rl.wt_at hsz 0 rfl rfl) k1 (hval 1 26 v1 rfl rfl) (Rl.wt_at hsz 1 rfl rfl) k2 (hval 2 29 v2 rfl rfl) (Rl.wt_at hsz 2 rfl rfl) k3 (hval 3 36 v3 rfl rfl) (Rl.wt_at hsz 3 rfl rfl) (Rl.vars_of hL hSh)).mono fun e W' ⟨he, bel⟩ => ?_
  subst he
  exact ⟨_, rfl, _, _, _, [], _, [], hW', trodAll_mk1 (shut_bool Tryd.underlying4 _), (trodAll_cons_mk (Below.trod laidOut (by kernel_rfl) (of_decide_eq_true (by kernel_rfl)) k0 bel lt0) (trodAll_cons_mk (Below.trod laidOut (by kernel_rfl) (of_decide_eq_true (by kernel_rfl)) k1 bel lt1) (trodAll_cons_mk (Below.trod laidOut (by kernel_rfl) (of_decide_eq_true (by kernel_rfl)) k2 bel lt2) (trodAll_cons_mk (Below.trod laidOut (by kernel_rfl) (of_decide_eq_true (by kernel_rfl)) k3 bel lt3) trodAll_mk0)))), rfl, bel.frame _, fun h => by cases h⟩

theorem proved : Rows.RelationTextsSaid :=
  OpenClaim.holds_of_wide 4 Tryd.f4 rfl rfl rfl rfl rfl rfl rfl ⟨rfl, rfl, rfl, rfl, rfl⟩ rfl rfl rfl rfl rfl (by kernel_rfl) Tryd.func4 (by kernel_rfl)
    (of_decide_eq_true (by kernel_rfl)) (by unfold Func.isWrapper; first | (rw [if_pos (by decide +kernel)]; kernel_rfl) | (rw [if_neg (by decide +kernel)]; exact ⟨rfl, rfl⟩))
    (fun os started H enc _ => lifted os started H enc)
theorem card_holds : Rows.RelationTextsCardSaid :=
  Claim7.holds_tied_plain_at .later [] [.data] true (true, "a5665ea20e5083b568878c37869bac1dd2df85ae4c71539d061e6676e5e43788") false proved (fun _ h => by cases h) (by kernel_rfl) (fun _ h => by cases h) relationTexts_row_tie rfl ⟨rfl, rfl⟩ (by kernel_rfl) rfl
    (fun f fn hf hfn => by
      obtain rfl : f = 4 := Option.some.inj ((show Tryd.prog.funcNamed Rows.relationTextsRow.func = some 4 by kernel_rfl).symm.trans hf) |>.symm
      obtain rfl : fn = Tryd.f4 := (Option.some.inj (Tryd.func4.symm.trans hfn)).symm
      exact ⟨by kernel_rfl, fun j t ht => by
        rw [Tryd.params4] at ht
        have hm : t ∈ [22, 26, 29, 36] := by simpa using Array.mem_of_getElem? ht
        have hall : ([22, 26, 29, 36].all fun u => !Tryd.prog.wantsStandIn u) = true := by kernel_rfl
        exact (show Tryd.prog.wantsStandIn t = false by simpa using List.all_eq_true.1 hall t hm)⟩)
    (by kernel_rfl)
#print axioms card_holds
end Go.Proofs.YtddfjndclgapcaaDoor.relationTexts

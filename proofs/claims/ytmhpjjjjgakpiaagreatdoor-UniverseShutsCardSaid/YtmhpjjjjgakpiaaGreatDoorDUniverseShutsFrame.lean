/-
What is reached shuts: whatever meets an atom of a reached dependency is reached; so a whole of reached ones is healthy or not by itself.
Conditions: none.
-/
import Derived.Test.YtmhpjjjjgakpiaaGreatDoorRows
import Derived.Test.YtmhpjjjjgakpiaaGreatDoorDUniLaw4
import Derived.WalkKit
import Derived.ProofKit
import Derived.OpenShut
import Derived.ShutString
import Derived.ChangeOld
import Derived.Below
import Derived.Test.YtmhpjjjjgakpiaaGreatDoorTie
import Derived.Test.YtmhpjjjjgakpiaaGreatDoorCards
import Derived.Test.YtmhpjjjjgakpiaaGreatDoorDStaTabs
import Derived.Test.YtmhpjjjjgakpiaaGreatDoorDLaidFrame
import Derived.Lay
import Derived.LaidMore
import Derived.SevenTiedAt
import Derived.Stop.Joined
import Derived.SizedLaws
namespace Go.Proofs.YtmhpjjjjgakpiaaGreatDoor.universeShuts
open Go.ChangeShapes Go.WideShapes Go.ChangeAt Go.RowKit
open Go.ChangeMaps (open_string shut_string)
set_option linter.unusedVariables false
theorem own : ownKnob Tryz.prog.godebug = none := by kernel_rfl
theorem laidOut : laidOutB Tryz.prog = true := by kernel_rfl

set_option maxRecDepth 100000 in
theorem walk {H : Type} (enc : TypeId × Value → H) (base : Nat) (v0 : Value) (d0 : DataW H) (p0 : List MemPlace) (v1 : Value) (d1 : DataW H) (p1 : List MemPlace) (v2 : Value) (d2 : DataW H) (p2 : List MemPlace) (v3 : Value) (d3 : DataW H) (p3 : List MemPlace) (w : World) (k0 : DataW.Trod enc Tryz.prog w 0 (fun _ => true) true 22 v0 d0 p0) (o0 : Value.okWide Tryz.prog w .any base 22 v0) (hw0 : Rl.Wt 22 d0) (k1 : DataW.Trod enc Tryz.prog w 0 (fun _ => true) true 23 v1 d1 p1) (o1 : Value.okWide Tryz.prog w .any base 23 v1) (hw1 : Rl.Wt 23 d1) (k2 : DataW.Trod enc Tryz.prog w 0 (fun _ => true) true 32 v2 d2 p2) (o2 : Value.okWide Tryz.prog w .any base 32 v2) (hw2 : Rl.Wt 32 d2) (k3 : DataW.Trod enc Tryz.prog w 0 (fun _ => true) true 44 v3 d3 p3) (o3 : Value.okWide Tryz.prog w .any base 44 v3) (hw3 : Rl.Wt 44 d3) (hG : Rl.Vars w) :
    Calls Tryz.prog 6 #[v0, v1, v2, v3] w fun e w' => e = .returned (.bool true) ∧ Below w.heap.size w w' := by
  obtain ⟨a0, len0, cap0, rfl⟩ := okWide_slice Tryz.underlying22 o0
  obtain ⟨fuel0, hf0⟩ := k0
  obtain ⟨l0, h0, m0⟩ := Rc.pks_of Tryz.underlying22 hf0 hw0
  obtain ⟨a1, len1, cap1, rfl⟩ := okWide_slice Tryz.underlying23 o1
  obtain ⟨fuel1, hf1⟩ := k1
  obtain ⟨l1, h1, m1, n1⟩ := Rc.ens_of Tryz.underlying23 hf1 hw1
  obtain ⟨a2, len2, cap2, rfl⟩ := okWide_slice Tryz.underlying32 o2
  obtain ⟨fuel2, hf2⟩ := k2
  obtain ⟨l2, h2, m2⟩ := Un.texts_of hf2 hw2
  obtain ⟨a3, len3, cap3, rfl⟩ := okWide_slice Tryz.underlying44 o3
  obtain ⟨fuel3, hf3⟩ := k3
  obtain ⟨l3, h3⟩ := Sa.bls_of Tryz.underlying44 hf3 hw3
  exact Un.shuts_walk _ _ _ _ l2 l3 l0 l1 w h0 h1 h2 h3 m2 m0 m1 n1 hG

set_option maxRecDepth 100000 in
theorem lifted (os : Os) (started : os.Started) (H : Type) (enc : TypeId × Value → H) :
    ReturnsInHanded {} Tryz.checked os 6 .any (fun w args => (Rows.universeShutsSpec.pre enc Tryz.prog Tryz.f6 Rows.universeShutsRow.domain false w args ∧ laidMetH Tryz.prog Sa.listed w) ∧ sizedMet enc Tryz.prog Tryz.f6 (OpenSpec.ofChange Rows.universeShutsSpec) false w args)
      (Rows.universeShutsSpec.post enc Tryz.prog Tryz.f6 false true false false) := by
  refine laid_said (C := Tryz.checked) (X := fun w _ => laidMetH Tryz.prog Sa.listed w) (fun _ _ _ hh h => h.of_heap hh) own started (by kernel_rfl) Tryz.func6
    (ChangeSpec.witness_shaped (enc := enc) (C := Tryz.checked) (os := os) (X := fun w _ => laidMetH Tryz.prog Sa.listed w) false (World.laidAll Tryz.prog os Sa.listed) #[.slice none 0 0, .slice none 0 0, .slice none 0 0, .slice none 0 0] 8 (World.laidAll_os _ _ _)
      (World.shaped_of_ZipB (by kernel_rfl) (by kernel_rfl)) (by kernel_rfl) (by kernel_rfl) (by kernel_rfl)
      (by rw [MakeChecks.laidMetH_plain _ _ _ (by kernel_rfl)]; exact laidMet_laidAll _ (by kernel_rfl) (by kernel_rfl))) ?_
  intro W base args ds gs before hval0 hW hcnd hsz0 hL hSh _
  have hsz : (DataW.weightsEach Tryz.prog (Tryz.f6.params.toList ++ Rows.universeShutsSpec.plain.varTypes Tryz.prog) (ds ++ gs)).all (· ≤ reachBytes) = true := hsz0
  clear hsz0
  have hval : ∀ (j : Nat) t v, Tryz.f6.params[j]? = some t → args[j]? = some v → Value.okWide Tryz.prog W .any base t v := hval0
  have hW' := hW
  obtain ⟨p, q, hA0, hV, rfl, hfz, hnd⟩ := hW
  have hA : DataW.TrodAll enc Tryz.prog W 0 (fun _ => true) true Tryz.f6.params.toList args.toList ds p := hA0
  rw [Tryz.params6] at hA hval hsz
  obtain ⟨v0, vs0, d0, ds0, p0, q0, hargs, rfl, rfl, h0, r0⟩ := trodAll_cons hA
  obtain ⟨v1, vs1, d1, ds1, p1, q1, rfl, rfl, rfl, h1, r1⟩ := trodAll_cons r0
  obtain ⟨v2, vs2, d2, ds2, p2, q2, rfl, rfl, rfl, h2, r2⟩ := trodAll_cons r1
  obtain ⟨v3, vs3, d3, ds3, p3, q3, rfl, rfl, rfl, h3, r3⟩ := trodAll_cons r2
  obtain ⟨rfl, rfl, rfl⟩ := trodAll_nil r3
  obtain rfl : args = #[v0, v1, v2, v3] := by cases args; simp_all
  obtain ⟨rfl, rfl⟩ := trodVars_none hV
  have k0 := h0
  have lt0 : ∀ x ∈ p0, x.block < W.heap.size := by obtain ⟨m, hm⟩ := k0; exact DataW.trod_lt m _ _ _ hm
  have k1 := h1
  have lt1 : ∀ x ∈ p1, x.block < W.heap.size := by obtain ⟨m, hm⟩ := k1; exact DataW.trod_lt m _ _ _ hm
  have k2 := h2
  have lt2 : ∀ x ∈ p2, x.block < W.heap.size := by obtain ⟨m, hm⟩ := k2; exact DataW.trod_lt m _ _ _ hm
  have k3 := h3
  have lt3 : ∀ x ∈ p3, x.block < W.heap.size := by obtain ⟨m, hm⟩ := k3; exact DataW.trod_lt m _ _ _ hm
  clear hA0 hval0
  refine (walk enc base v0 d0 p0 v1 d1 p1 v2 d2 p2 v3 d3 p3 W k0 (hval 0 22 v0 rfl rfl) (Rl.wt_at hsz 0 rfl rfl) k1 (hval 1 23 v1 rfl rfl) (Rl.wt_at hsz 1 rfl rfl) k2 (hval 2 32 v2 rfl rfl) (Rl.wt_at hsz 2 rfl rfl) k3 (hval 3 44 v3 rfl rfl) (Rl.wt_at hsz 3 rfl rfl) (Sa.vars_of hL hSh)).mono fun e W' ⟨he, bel⟩ => ?_
  subst he
  exact ⟨_, rfl, _, _, _, [], _, [], hW', trodAll_mk1 (shut_bool Tryz.underlying4 _), (trodAll_cons_mk (Below.trod laidOut (by kernel_rfl) (of_decide_eq_true (by kernel_rfl)) k0 bel lt0) (trodAll_cons_mk (Below.trod laidOut (by kernel_rfl) (of_decide_eq_true (by kernel_rfl)) k1 bel lt1) (trodAll_cons_mk (Below.trod laidOut (by kernel_rfl) (of_decide_eq_true (by kernel_rfl)) k2 bel lt2) (trodAll_cons_mk (Below.trod laidOut (by kernel_rfl) (of_decide_eq_true (by kernel_rfl)) k3 bel lt3) trodAll_mk0)))), rfl, bel.frame _, fun h => by cases h⟩

theorem fPlace : (Rows.universeShutsRow.inPlace == Tryz.prog.inPlace 6) = true := by kernel_rfl
theorem fUnf : (Rows.universeShutsRow.unfollowed == Tryz.prog.unfollowed 6) = true := by kernel_rfl
theorem fRec : (Rows.universeShutsRow.recurses == Tryz.prog.recurses 6) = true := by kernel_rfl
theorem fNamed : (Rows.universeShutsRow.named == Tryz.prog.varsNamed 6) = true := by kernel_rfl
set_option maxHeartbeats 4000000 in
theorem facts : joinedFacts Tryz.prog 6 Tryz.f6 Rows.universeShutsSpec Rows.universeShutsRow = true := by
  unfold joinedFacts
  rw [fPlace, fUnf, fRec, fNamed]
  simp only [Bool.and_eq_true, Bool.and_true]
  repeat' apply And.intro
  all_goals as_aux_lemma => kernel_rfl
set_option maxHeartbeats 4000000 in
theorem proved : Rows.UniverseShutsSaid :=
  OpenClaim.holds_of_wide 6 Tryz.f6 rfl rfl rfl rfl rfl rfl rfl ⟨rfl, rfl, rfl, rfl, rfl⟩ rfl rfl rfl rfl rfl (by kernel_rfl) Tryz.func6 facts
    (of_decide_eq_true (by kernel_rfl)) (by unfold Func.isWrapper; first | (rw [if_pos (by decide +kernel)]; kernel_rfl) | (rw [if_neg (by decide +kernel)]; exact ⟨rfl, rfl⟩))
    (fun os started H enc _ => lifted os started H enc)
set_option maxHeartbeats 4000000 in
theorem card_holds : Rows.UniverseShutsCardSaid :=
  Claim7.holds_tied_plain_at .later [] [.data, .data, .pinned] true (true, "7205ee5f3006e4cb0ec0ed4dc3d28795a1a206eb448d0cd12e4c38490d1e207c") false proved (fun _ h => by cases h) (by as_aux_lemma => kernel_rfl) (fun _ h => by cases h) universeShuts_row_tie rfl ⟨rfl, rfl⟩ (by as_aux_lemma => kernel_rfl) rfl
    (fun f fn hf hfn => by
      obtain rfl : f = 6 := Option.some.inj ((show Tryz.prog.funcNamed Rows.universeShutsRow.func = some 6 by as_aux_lemma => kernel_rfl).symm.trans hf) |>.symm
      obtain rfl : fn = Tryz.f6 := (Option.some.inj (Tryz.func6.symm.trans hfn)).symm
      exact ⟨by as_aux_lemma => kernel_rfl, fun j t ht => by
        rw [Tryz.params6] at ht
        have hm : t ∈ [22, 23, 32, 44] := by simpa using Array.mem_of_getElem? ht
        have hall : ([22, 23, 32, 44].all fun u => !Tryz.prog.wantsStandIn u) = true := by as_aux_lemma => kernel_rfl
        exact (show Tryz.prog.wantsStandIn t = false by simpa using List.all_eq_true.1 hall t hm)⟩)
    (by as_aux_lemma => kernel_rfl)
#print axioms card_holds
end Go.Proofs.YtmhpjjjjgakpiaaGreatDoor.universeShuts

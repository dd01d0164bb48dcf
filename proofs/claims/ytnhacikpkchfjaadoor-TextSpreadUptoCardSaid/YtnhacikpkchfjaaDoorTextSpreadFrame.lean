/-
TextSpread: of any text, white space at the ends, and more of it between, makes no difference to its words; each word is a word by itself.
Conditions: none but the form's own bound on what comes in (its bulk).
-/
import Derived.Test.YtnhacikpkchfjaaDoorRows
import Derived.Test.YtnhacikpkchfjaaDoorTextLaws5
import Derived.WalkKit
import Derived.ProofKit
import Derived.OpenShut
import Derived.ShutString
import Derived.ChangeOld
import Derived.Below
import Derived.Test.YtnhacikpkchfjaaDoorTie
import Derived.Test.YtnhacikpkchfjaaDoorCards
import Derived.Test.YtnhacikpkchfjaaDoorTextTabs
import Derived.Test.YtnhacikpkchfjaaDoorLaidFrame
import Derived.Lay
import Derived.LaidMore
import Derived.SevenTiedAt
import Derived.Stop.Joined
import Derived.JoinedCond
namespace Go.Proofs.YtnhacikpkchfjaaDoor.textSpreadUpto
open Go.ChangeShapes Go.WideShapes Go.ChangeAt Go.RowKit
open Go.ChangeMaps (open_string shut_string)
set_option linter.unusedVariables false
theorem own : ownKnob Tryd.prog.godebug = none := by kernel_rfl
theorem laidOut : laidOutB Tryd.prog = true := by kernel_rfl

-- WALK BEGINS
theorem walk (s0 : ByteArray) (a1 : Int) (w : World) (w0 : s0.size ≤ maxLen) (w1 : (Lit.int .i64 a1).wf = true) (hs : s0.size ≤ 1048576) (hT : Lib.Utf8Tabs 0 1 w) (hSh : w.ShapedOpen Tryd.prog) :
    Calls Tryd.prog 10 #[.string s0, .int .i64 a1] w fun e w' => e = .returned (.bool true) ∧ Below w.heap.size w w' := by
  exact Txt.textSpread_walk s0 a1 w hs hT
-- WALK ENDS

set_option maxRecDepth 100000 in
theorem lifted (os : Os) (started : os.Started) (H : Type) (enc : TypeId × Value → H) (F : Stop.Interp) :
    ReturnsInHanded {} Tryd.checked os 10 .any (fun w args => ((Rows.OpenSpec.upto Rows.textSpreadSpec).pre enc Tryd.prog Tryd.f10 Rows.textSpreadUptoRow.domain false w args ∧ laidMetH Tryd.prog Txt.listed w) ∧ sizedMet enc Tryd.prog Tryd.f10 (Rows.OpenSpec.upto Rows.textSpreadSpec) false w args)
      (((Rows.OpenSpec.upto Rows.textSpreadSpec).at F).post enc Tryd.prog Tryd.f10 false true false false) := by
  refine laid_upto (C := Tryd.checked) (s := Rows.OpenSpec.upto Rows.textSpreadSpec) (k := Rows.uptoSmall) rfl (X := fun w _ => laidMetH Tryd.prog Txt.listed w) (fun _ _ _ hh h => h.of_heap hh) own started (by kernel_rfl) Tryd.func10
    (witness_upto (enc := enc) (C := Tryd.checked) (s := Rows.OpenSpec.upto Rows.textSpreadSpec) (k := Rows.uptoSmall) rfl (os := os) (X := fun w _ => laidMetH Tryd.prog Txt.listed w) false (World.laidAll Tryd.prog os Txt.listed) #[.string .empty, .int .i64 0] 8 (World.laidAll_os _ _ _)
      (World.shaped_of_ZipB (by kernel_rfl) (by kernel_rfl)) (by kernel_rfl) (x := ([.lit (.string []), .lit (.int .i64 0)], [], [])) (by kernel_rfl) rfl (by kernel_rfl) (by kernel_rfl)
      (by rw [MakeChecks.laidMetH_plain _ _ _ (by kernel_rfl)]; exact laidMet_laidAll _ (by kernel_rfl) (by kernel_rfl))) ?_
  intro W base args ds gs before hval0 hW hcnd hk hL hSh _
  have hU := Txt.tabs_of_laid hL
  have hval : ∀ (j : Nat) t v, Tryd.f10.params[j]? = some t → args[j]? = some v → Value.okWide Tryd.prog W .any base t v := hval0
  have hW' := hW
  obtain ⟨p, q, hA0, hV, rfl, hfz, hnd⟩ := hW
  have hA : DataW.TrodAll enc Tryd.prog W 0 (fun _ => true) true Tryd.f10.params.toList args.toList ds p := hA0
  rw [Tryd.params10] at hA hval
  obtain ⟨v0, vs0, d0, ds0, p0, q0, hargs, rfl, rfl, h0, r0⟩ := trodAll_cons hA
  obtain ⟨v1, vs1, d1, ds1, p1, q1, rfl, rfl, rfl, h1, r1⟩ := trodAll_cons r0
  obtain ⟨rfl, rfl, rfl⟩ := trodAll_nil r1
  obtain rfl : args = #[v0, v1] := by cases args; simp_all
  obtain ⟨rfl, rfl⟩ := trodVars_none hV
  have hB : Rows.uptoBulkAll [d0, d1] ≤ 1048576 := of_decide_eq_true hk
  obtain ⟨s0, rfl, rfl, rfl, w0⟩ := open_string Tryd.underlying9 (hval 0 9 v0 rfl rfl) h0
  have b0 : s0.size + 1 ≤ Rows.uptoBulk (DataW.lit (H := H) (.string s0.data.toList)) := by
    simp only [Rows.uptoBulk, Array.length_toList]; exact Nat.le_refl _
  obtain ⟨a1, rfl, rfl, rfl, w1⟩ := open_int Tryd.underlying3 (hval 1 3 v1 rfl rfl) h1
  clear hA0 hval0
  refine (walk s0 a1 W w0 w1 (by simp only [Rows.uptoBulkAll] at hB; omega) hU hSh).mono fun e W' ⟨he, bel⟩ => ?_
  subst he
  exact ⟨_, rfl, _, _, _, [], _, [], hW', trodAll_mk1 (shut_bool Tryd.underlying4 _), (trodAll_cons_mk (shut_string Tryd.underlying9 w0) (trodAll_cons_mk (shut_int Tryd.underlying3 w1) trodAll_mk0)), rfl, bel.frame _, fun h => by cases h⟩

theorem proved : Rows.TextSpreadUptoSaid :=
  OpenClaim.holds_of_cond 10 Tryd.f10 rfl rfl rfl rfl rfl rfl rfl ⟨rfl, rfl, rfl, rfl, rfl⟩ rfl rfl rfl rfl rfl (by kernel_rfl) Tryd.func10 (by kernel_rfl)
    (of_decide_eq_true (by kernel_rfl)) (by unfold Func.isWrapper; first | (rw [if_pos (by decide +kernel)]; kernel_rfl) | (rw [if_neg (by decide +kernel)]; exact ⟨rfl, rfl⟩))
    (fun os started H enc _ F => lifted os started H enc F)
theorem card_holds : Rows.TextSpreadUptoCardSaid :=
  Claim7.holds_tied_plain_at .later [] [.data, .pinned] true (true, "ac9301b9559fd78bf3df21e130897513403cc4b01c99e678092a118d77196367") false proved (fun _ h => by cases h) (by kernel_rfl) (fun _ h => by cases h) textSpreadUpto_row_tie rfl ⟨rfl, rfl⟩ (by kernel_rfl) rfl
    (fun f fn hf hfn => by
      obtain rfl : f = 10 := Option.some.inj ((show Tryd.prog.funcNamed Rows.textSpreadUptoRow.func = some 10 by kernel_rfl).symm.trans hf) |>.symm
      obtain rfl : fn = Tryd.f10 := (Option.some.inj (Tryd.func10.symm.trans hfn)).symm
      exact ⟨by kernel_rfl, fun j t ht => by
        rw [Tryd.params10] at ht
        have hm : t ∈ [9, 3] := by simpa using Array.mem_of_getElem? ht
        have hall : ([9, 3].all fun u => !Tryd.prog.wantsStandIn u) = true := by kernel_rfl
        exact (show Tryd.prog.wantsStandIn t = false by simpa using List.all_eq_true.1 hall t hm)⟩)
    (by kernel_rfl)
#print axioms card_holds
end Go.Proofs.YtnhacikpkchfjaaDoor.textSpreadUpto

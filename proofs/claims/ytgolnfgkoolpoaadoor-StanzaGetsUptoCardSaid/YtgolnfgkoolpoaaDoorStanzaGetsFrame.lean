/-
StanzaGets: StanzaGets, of inputs of small bulk: stanza.Get, Fold and Same tell of any field and any names what the reference tells.
Conditions: none but the form's own bound on what comes in (its bulk).
-/
import Derived.Test.YtgolnfgkoolpoaaDoorRows
import Derived.Test.YtgolnfgkoolpoaaDoorStzLaw8
import Derived.WalkKit
import Derived.ProofKit
import Derived.OpenShut
import Derived.ShutString
import Derived.ChangeOld
import Derived.Below
import Derived.Test.YtgolnfgkoolpoaaDoorTie
import Derived.Test.YtgolnfgkoolpoaaDoorCards
import Derived.Test.YtgolnfgkoolpoaaDoorTextTabs
import Derived.Test.YtgolnfgkoolpoaaDoorLaidFrame
import Derived.Lay
import Derived.LaidMore
import Derived.SevenTiedAt
import Derived.Stop.Joined
import Derived.JoinedCond
namespace Go.Proofs.YtgolnfgkoolpoaaDoor.stanzaGetsUpto
open Go.ChangeShapes Go.WideShapes Go.ChangeAt Go.RowKit
open Go.ChangeMaps (open_string shut_string)
set_option linter.unusedVariables false
theorem own : ownKnob Tryd.prog.godebug = none := by kernel_rfl
theorem laidOut : laidOutB Tryd.prog = true := by kernel_rfl

-- WALK BEGINS
set_option maxRecDepth 100000 in
theorem walk {H : Type} (enc : TypeId × Value → H) (base : Nat) (v0 : Value) (d0 : DataW H) (p0 : List MemPlace) (s1 : ByteArray) (s2 : ByteArray) (w : World) (k0 : DataW.Trod enc Tryd.prog w 0 (fun _ => true) true 37 v0 d0 p0) (o0 : Value.okWide Tryd.prog w .any base 37 v0) (b0 : Rows.uptoBulk d0 ≤ 1048576) (w1 : s1.size ≤ maxLen) (w2 : s2.size ≤ maxLen) (hs : s1.size + s2.size ≤ 1048576) (hT : Lib.Utf8Tabs 1 2 w) (hSh : w.ShapedOpen Tryd.prog) :
    Calls Tryd.prog 5 #[v0, .string s1, .string s2] w fun e w' => e = .returned (.bool true) ∧ Below w.heap.size w w' := by
  obtain ⟨line, fv, fs, rfl, hF, hB⟩ := Stz.stz_b o0 k0 b0
  exact Stz.stanzaGets_walk line fv fs s1 s2 w hF hB (by omega) (by omega) hT (Txt.maxLen_of hSh)
-- WALK ENDS

set_option maxRecDepth 100000 in
theorem lifted (os : Os) (started : os.Started) (H : Type) (enc : TypeId × Value → H) (F : Stop.Interp) :
    ReturnsInHanded {} Tryd.checked os 5 .any (fun w args => ((Rows.OpenSpec.upto Rows.stanzaGetsSpec).pre enc Tryd.prog Tryd.f5 Rows.stanzaGetsUptoRow.domain false w args ∧ laidMetH Tryd.prog Txt.listed w) ∧ sizedMet enc Tryd.prog Tryd.f5 (Rows.OpenSpec.upto Rows.stanzaGetsSpec) false w args)
      (((Rows.OpenSpec.upto Rows.stanzaGetsSpec).at F).post enc Tryd.prog Tryd.f5 false true false false) := by
  refine laid_upto (C := Tryd.checked) (s := Rows.OpenSpec.upto Rows.stanzaGetsSpec) (k := Rows.uptoSmall) rfl (X := fun w _ => laidMetH Tryd.prog Txt.listed w) (fun _ _ _ hh h => h.of_heap hh) own started (by kernel_rfl) Tryd.func5
    (witness_upto (enc := enc) (C := Tryd.checked) (s := Rows.OpenSpec.upto Rows.stanzaGetsSpec) (k := Rows.uptoSmall) rfl (os := os) (X := fun w _ => laidMetH Tryd.prog Txt.listed w) false (World.laidAll Tryd.prog os Txt.listed) #[.agg #[.int .i64 0, .slice none 0 0], .string .empty, .string .empty] 8 (World.laidAll_os _ _ _)
      (World.shaped_of_ZipB (by kernel_rfl) (by kernel_rfl)) (by kernel_rfl) (x := ([.agg [.lit (.int .i64 0), .nil], .lit (.string []), .lit (.string [])], [], [])) (by kernel_rfl) rfl (by kernel_rfl) (by kernel_rfl)
      (by rw [MakeChecks.laidMetH_plain _ _ _ (by kernel_rfl)]; exact laidMet_laidAll _ (by kernel_rfl) (by kernel_rfl))) ?_
  intro W base args ds gs before hval0 hW hcnd hk hL hSh _
  have hU := Txt.tabs_of_laid hL
  have hval : ∀ (j : Nat) t v, Tryd.f5.params[j]? = some t → args[j]? = some v → Value.okWide Tryd.prog W .any base t v := hval0
  have hW' := hW
  obtain ⟨p, q, hA0, hV, rfl, hfz, hnd⟩ := hW
  have hA : DataW.TrodAll enc Tryd.prog W 0 (fun _ => true) true Tryd.f5.params.toList args.toList ds p := hA0
  rw [Tryd.params5] at hA hval
  obtain ⟨v0, vs0, d0, ds0, p0, q0, hargs, rfl, rfl, h0, r0⟩ := trodAll_cons hA
  obtain ⟨v1, vs1, d1, ds1, p1, q1, rfl, rfl, rfl, h1, r1⟩ := trodAll_cons r0
  obtain ⟨v2, vs2, d2, ds2, p2, q2, rfl, rfl, rfl, h2, r2⟩ := trodAll_cons r1
  obtain ⟨rfl, rfl, rfl⟩ := trodAll_nil r2
  obtain rfl : args = #[v0, v1, v2] := by cases args; simp_all
  obtain ⟨rfl, rfl⟩ := trodVars_none hV
  have hB : Rows.uptoBulkAll [d0, d1, d2] ≤ 1048576 := of_decide_eq_true hk
  have k0 := h0
  have lt0 : ∀ x ∈ p0, x.block < W.heap.size := by obtain ⟨m, hm⟩ := k0; exact DataW.trod_lt m _ _ _ hm
  obtain ⟨s1, rfl, rfl, rfl, w1⟩ := open_string Tryd.underlying9 (hval 1 9 v1 rfl rfl) h1
  have b1 : s1.size + 1 ≤ Rows.uptoBulk (DataW.lit (H := H) (.string s1.data.toList)) := by
    simp only [Rows.uptoBulk, Array.length_toList]; exact Nat.le_refl _
  obtain ⟨s2, rfl, rfl, rfl, w2⟩ := open_string Tryd.underlying9 (hval 2 9 v2 rfl rfl) h2
  have b2 : s2.size + 1 ≤ Rows.uptoBulk (DataW.lit (H := H) (.string s2.data.toList)) := by
    simp only [Rows.uptoBulk, Array.length_toList]; exact Nat.le_refl _
  clear hA0 hval0
  refine (walk enc base v0 d0 p0 s1 s2 W k0 (hval 0 37 v0 rfl rfl) (by simp only [Rows.uptoBulkAll] at hB; omega) w1 w2 (by simp only [Rows.uptoBulkAll] at hB; omega) hU hSh).mono fun e W' ⟨he, bel⟩ => ?_
  subst he
  exact ⟨_, rfl, _, _, _, [], _, [], hW', trodAll_mk1 (shut_bool Tryd.underlying4 _), (trodAll_cons_mk (Below.trod laidOut (by kernel_rfl) (of_decide_eq_true (by kernel_rfl)) k0 bel lt0) (trodAll_cons_mk (shut_string Tryd.underlying9 w1) (trodAll_cons_mk (shut_string Tryd.underlying9 w2) trodAll_mk0))), rfl, bel.frame _, fun h => by cases h⟩

theorem proved : Rows.StanzaGetsUptoSaid :=
  OpenClaim.holds_of_cond 5 Tryd.f5 rfl rfl rfl rfl rfl rfl rfl ⟨rfl, rfl, rfl, rfl, rfl⟩ rfl rfl rfl rfl rfl (by kernel_rfl) Tryd.func5 (by kernel_rfl)
    (of_decide_eq_true (by kernel_rfl)) (by unfold Func.isWrapper; first | (rw [if_pos (by decide +kernel)]; kernel_rfl) | (rw [if_neg (by decide +kernel)]; exact ⟨rfl, rfl⟩))
    (fun os started H enc _ F => lifted os started H enc F)
theorem card_holds : Rows.StanzaGetsUptoCardSaid :=
  Claim7.holds_tied_plain_at .later [] [.data, .pinned] true (true, "6ce2fad95b50b93d0265b9318d55f57192288fab55dcc4fe91e04594d2702d03") false proved (fun _ h => by cases h) (by kernel_rfl) (fun _ h => by cases h) stanzaGetsUpto_row_tie rfl ⟨rfl, rfl⟩ (by kernel_rfl) rfl
    (fun f fn hf hfn => by
      obtain rfl : f = 5 := Option.some.inj ((show Tryd.prog.funcNamed Rows.stanzaGetsUptoRow.func = some 5 by kernel_rfl).symm.trans hf) |>.symm
      obtain rfl : fn = Tryd.f5 := (Option.some.inj (Tryd.func5.symm.trans hfn)).symm
      exact ⟨by kernel_rfl, fun j t ht => by
        rw [Tryd.params5] at ht
        have hm : t ∈ [37, 9, 9] := by simpa using Array.mem_of_getElem? ht
        have hall : ([37, 9, 9].all fun u => !Tryd.prog.wantsStandIn u) = true := by kernel_rfl
        exact (show Tryd.prog.wantsStandIn t = false by simpa using List.all_eq_true.1 hall t hm)⟩)
    (by kernel_rfl)
#print axioms card_holds
end Go.Proofs.YtgolnfgkoolpoaaDoor.stanzaGetsUpto

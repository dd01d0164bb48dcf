/-
The walk of the law StanzaPrints.
-/
import Derived.Test.YtgolnfgkoolpoaaDoorStzLight
namespace Go.Proofs.YtgolnfgkoolpoaaDoor
open Go.RowKit Go.ChangeShapes Go.WideShapes Go.Deep
set_option linter.unusedSimpArgs false
set_option linter.unusedVariables false
namespace Stz
open Txt (tabs_below tabs_lt MaxLen)
theorem nums_S (l : Bs) : strOfNums (nums l) = S l := by
  apply ByteArray.ext
  simp [strOfNums, nums, S, List.map_map, Function.comp_def]
theorem BytesAt.conv {w : World} {v : Value} {l : Bs} (h : BytesAt w v l) : (convert 22 9 v).run Tryd.prog w = .ok (.string (S l)) w := by
  obtain ⟨a, cap, rfl, _, _, hr⟩ := h
  rw [hr.conv cap, nums_S]
theorem YP.uniq {l : List Sz} {t : Bs} {er : Nat} (h : YP l t er) : t = (print l).1 ∧ er = (print l).2 := h
theorem wt_of {H : Type} {t : TypeId} {ts : List TypeId} {d : DataW H} {ds : List (DataW H)} (h : (DataW.weightsEach Tryd.prog (t :: ts) (d :: ds)).all (· ≤ reachBytes) = true) : Wt t d := fun n hn => by
  have := List.all_eq_true.1 h _ (DataW.weights_mem_each (j := 0) rfl rfl n hn)
  simpa using this
set_option maxRecDepth 100000 in
set_option maxHeartbeats 4000000 in
theorem stanzaPrints_walk (v : Value) (l : List Sz) (w : World) (h : Stzs w v l) (hs : ∀ s ∈ l, ∀ f ∈ s.2, Szd f) (hT : Lib.Utf8Tabs 1 2 w) (hm : MaxLen w) :
    Calls Tryd.prog 4 #[v] w fun e w' => e = .returned (.bool true) ∧ Below w.heap.size w w' := by
  have hl := tabs_lt hT
  have hml := Lib.hid hm.lt
  have HT := Lib.hid hT
  have HMM := Lib.hid hm
  have H := Lib.hid h
  have HS := Lib.hid hs
  obtain ⟨_, a, cap, rfl, _, _⟩ := id h
  obtain ⟨N, hN⟩ : ∃ N, l.length = N := ⟨_, rfl⟩
  rw [hN] at H ⊢
  have cl := light_any _ l w H.out
  clear hT hm h hs hN
  go_enter Tryd.func4, Tryd.ntmps4
  go_wp2_with fail
  refine cl.mono ?_
  rintro e w1 ⟨rfl, b1⟩
  have B1 := Lib.hid b1
  clear cl b1
  cases hlt : lightB l with
  | false =>
    clear hlt
    go_wp2_with fail
    refine (awake_any w1 (tabs_below HT.out B1.out hl) (HMM.out.below B1.out hml.out)).mono ?_
    rintro e w4 ⟨rfl, b4⟩
    have B4 := Lib.hid (B1.out.trans (b4.mono B1.out.size))
    clear b4 B1
    go_wp2_with fail
    go_ret
    exact ⟨rfl, B4.out⟩
  | true =>
    have HC := Lib.hid (light_cnt hlt).2
    clear hlt
    go_wp2_with fail
    refine (print_any _ l w1 (H.out.below B1.out) HS.out (tabs_below HT.out B1.out hl)).mono ?_
    rintro e w2 ⟨u, rfl, hu, b2⟩
    have HU := Lib.hid hu
    have B2 := Lib.hid (B1.out.trans (b2.mono B1.out.size))
    clear hu b2 B1
    go_wp2_with fail
    refine (yprint_any _ l w2 (H.out.below B2.out) HS.out (fun s hs f hf => Nat.le_trans ((HC.out s hs).2 f hf) (by omega))).mono ?_
    rintro e w3 ⟨u', t', er', rfl, hyp, hu', b3⟩
    obtain ⟨rfl, rfl⟩ := hyp
    have C1 := ((HU.out.below b3).conv)
    have C2 := hu'.conv
    have B3 := Lib.hid (B2.out.trans (b3.mono B2.out.size))
    clear hu' b3 B2 HU
    go_wp2_with fail
    clear C1 C2
    refine (awake_any w3 (tabs_below HT.out B3.out hl) (HMM.out.below B3.out hml.out)).mono ?_
    rintro e w4 ⟨rfl, b4⟩
    have B4 := Lib.hid (B3.out.trans (b4.mono B3.out.size))
    clear b4 B3
    go_wp2_with fail
    go_ret
    exact ⟨rfl, B4.out⟩
end Stz
end Go.Proofs.YtgolnfgkoolpoaaDoor

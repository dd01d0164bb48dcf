/-
The walk of the law StanzaBack.
-/
import Derived.Test.YtgolnfgkoolpoaaDoorStzLight
import Derived.Test.YtgolnfgkoolpoaaDoorStzLines
import Derived.Test.YtgolnfgkoolpoaaDoorStzSameK
namespace Go.Proofs.YtgolnfgkoolpoaaDoor
open Go.RowKit
set_option linter.unusedSimpArgs false
set_option linter.unusedVariables false
namespace Stz
open Txt (tabs_below tabs_lt MaxLen)
theorem Like.szd {a c : List Sz} (h : Like a c) (hs : ∀ s ∈ a, ∀ f ∈ s.2, Szd f) : ∀ s ∈ c, ∀ f ∈ s.2, Szd f := by
  intro s hsc f hf
  have : s.2 ∈ c.map (·.2) := List.mem_map.2 ⟨s, hsc, rfl⟩
  rw [← h] at this
  obtain ⟨s', hs', e⟩ := List.mem_map.1 this
  exact hs s' hs' f (by rw [e]; exact hf)
set_option maxRecDepth 100000 in
set_option maxHeartbeats 4000000 in
theorem stanzaBack_walk (v : Value) (l : List Sz) (w : World) (h : Stzs w v l) (hs : ∀ s ∈ l, ∀ f ∈ s.2, Szd f) (hT : Lib.Utf8Tabs 1 2 w) (hm : MaxLen w) :
    Calls Tryd.prog 7 #[v] w fun e w' => e = .returned (.bool true) ∧ Below w.heap.size w w' := by
  have hl := tabs_lt hT
  have hml := Lib.hid hm.lt
  have HT := Lib.hid hT
  have HMM := Lib.hid hm
  have H := Lib.hid h
  have HS := Lib.hid hs
  obtain ⟨_, a, cap, rfl, _, _⟩ := id h
  obtain ⟨N, hN⟩ : ∃ N, l.length = N := ⟨_, rfl⟩
  rw [hN] at H ⊢
  have cl := light_any _ l w H.out
  clear hT hm h hs hN
  go_enter Tryd.func7, Tryd.ntmps7
  go_wp2_with fail
  refine cl.mono ?_
  rintro e w1 ⟨rfl, b1⟩
  have B1 := Lib.hid b1
  clear cl b1
  cases hlt : lightB l with
  | false =>
    clear hlt
    go_wp2_with fail
    refine (awake_any w1 (tabs_below HT.out B1.out hl) (HMM.out.below B1.out hml.out)).mono ?_
    rintro e w4 ⟨rfl, b4⟩
    have B4 := Lib.hid (B1.out.trans (b4.mono B1.out.size))
    clear b4 B1
    go_wp2_with fail
    go_ret
    exact ⟨rfl, B4.out⟩
  | true =>
    clear hlt
    go_wp2_with fail
    refine (print_any _ l w1 (H.out.below B1.out) HS.out (tabs_below HT.out B1.out hl)).mono ?_
    rintro e w2 ⟨u, rfl, hu, b2⟩
    obtain ⟨ua, uc, rfl, hun, huc, hur⟩ := id hu
    obtain ⟨L, hL⟩ : ∃ L, (print l).1.length = L := ⟨_, rfl⟩
    obtain ⟨G, hG⟩ : ∃ G, (print l).2 = G := ⟨_, rfl⟩
    rw [hL] at hu hur ⊢
    rw [hG]
    have HL := Lib.hid hL
    have HU := Lib.hid hu
    have HUR := Lib.hid hur
    have B2 := Lib.hid (B1.out.trans (b2.mono B1.out.size))
    clear hu b2 B1 hL hur hun huc
    by_cases hG0 : G = 0
    · have hb0 : ((G : Int) == 0) = true := by subst hG0; rfl
      have hb1 : ((G : Int) != 0) = false := by subst hG0; rfl
      obtain ⟨p1, p2, p3⟩ := print_ok (l := l) (by rw [hG]; exact hG0)
      obtain ⟨m, hpr, hlk⟩ := print_back p1 p2
      rw [← p3] at hpr
      have HPR := Lib.hid hpr
      have HLK := Lib.hid hlk
      have HP3 := Lib.hid p3
      have HG := Lib.hid (show (print l).2 = 0 by rw [hG]; exact hG0)
      clear hG0 hG p1 p2 p3 hpr hlk
      go_wp2_with fail
      clear hb0 hb1
      refine (parse_any ua L uc _ w2 HUR.out (tabs_below HT.out B2.out hl) (HMM.out.below B2.out hml.out)).mono ?_
      rintro e w3 ⟨v3, l3, er, n, rfl, h3, _, t3, b3⟩
      rw [nums_S] at h3
      obtain ⟨rfl, rfl, rfl⟩ := h3.uniq HPR.out
      have T3 := Lib.hid t3
      have HU3 := Lib.hid (HU.out.below b3)
      have B3 := Lib.hid (B2.out.trans (b3.mono B2.out.size))
      clear h3 t3 b3 HU HUR B2
      go_wp2_with fail
      have nA : Below w3.heap.size w3 (w3.alloc (.cells #[.int .i64 0, .int .i64 0] 26)) := (Below.refl _ _).alloc (Nat.le_refl _) _
      have iA := Blk.Is.new w3 26 #[.int .i64 0, .int .i64 0]
      have T4 := Lib.hid (T3.out.below nA)
      have HU4 := Lib.hid (HU3.out.below nA)
      have B4 := Lib.hid (B3.out.trans (nA.mono B3.out.size))
      have sA : w3.heap.size < (w3.alloc (.cells #[.int .i64 0, .int .i64 0] 26)).heap.size := by simp
      obtain ⟨W, hW⟩ : ∃ W, w3.alloc (.cells #[.int .i64 0, .int .i64 0] 26) = W := ⟨_, rfl⟩
      obtain ⟨z, hz⟩ : ∃ z, w3.heap.size = z := ⟨_, rfl⟩
      rw [hW] at iA T4 HU4 B4 sA ⊢
      rw [hz] at iA sA ⊢
      have IA := Lib.hid iA
      clear nA iA hW hz T3 HU3 B3
      refine (print_any v3 l3 W T4.out (HLK.out.symm.szd HS.out) (tabs_below HT.out B4.out hl)).mono ?_
      rintro e w5 ⟨u5, rfl, hu5, b5⟩
      rw [like_print HLK.out] at hu5 ⊢
      rw [HG.out]
      have c0 : w5.cell? ⟨z, 0, none⟩ = some (.int .i64 0) := (show Blk.Is w5 z 26 #[.int .i64 0, .int .i64 0] from (b5.block _ sA).trans IA.out).at rfl
      have T5 := Lib.hid (T4.out.below b5)
      have HU5 := Lib.hid (HU4.out.below b5)
      have HV5 := Lib.hid hu5
      have B5 := Lib.hid (B4.out.trans (b5.mono B4.out.size))
      clear hu5 b5 T4 HU4 B4 sA IA
      go_wp2_with fail
      refine (sameStanzas_yes _ v3 l l3 false w5 (H.out.below B5.out) T5.out HLK.out.symm (fun h => by cases h)).mono ?_
      rintro e w6 ⟨rfl, b6⟩
      have C1 := ((HU5.out.below b6).conv)
      have C2 := ((HV5.out.below b6).conv)
      have B6 := Lib.hid (B5.out.trans (b6.mono B5.out.size))
      clear b6 B5 c0 HU5 HV5 T5
      go_wp2_with fail
      clear C1 C2
      refine (awake_any w6 (tabs_below HT.out B6.out hl) (HMM.out.below B6.out hml.out)).mono ?_
      rintro e w7 ⟨rfl, b7⟩
      have B7 := Lib.hid (B6.out.trans (b7.mono B6.out.size))
      clear b7 B6
      go_wp2_with fail
      go_ret
      exact ⟨rfl, B7.out⟩
    · have hb0 : ((G : Int) == 0) = false := by
        rw [beq_eq_false_iff_ne]
        omega
      have hb1 : ((G : Int) != 0) = true := by simp [bne, hb0]
      have hL0 : L = 0 := by
        rw [← HL.out]
        unfold print at hG ⊢
        split
        · rfl
        · rename_i hne
          rw [if_neg hne] at hG
          split
          · rfl
          · rename_i hl9
            rw [if_neg hl9] at hG
            exact absurd hG.symm hG0
      subst hL0
      clear hG0 hG
      go_wp2_with fail
      refine (awake_any w2 (tabs_below HT.out B2.out hl) (HMM.out.below B2.out hml.out)).mono ?_
      rintro e w4 ⟨rfl, b4⟩
      have B4 := Lib.hid (B2.out.trans (b4.mono B2.out.size))
      clear b4 B2
      go_wp2_with fail
      go_ret
      exact ⟨rfl, B4.out⟩
end Stz
end Go.Proofs.YtgolnfgkoolpoaaDoor

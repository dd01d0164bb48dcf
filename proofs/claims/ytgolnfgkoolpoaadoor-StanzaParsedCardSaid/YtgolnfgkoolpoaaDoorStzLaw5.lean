/-
The walk of the law StanzaParsed.
-/
import Derived.Test.YtgolnfgkoolpoaaDoorStzAwake
import Derived.Test.YtgolnfgkoolpoaaDoorStzSameK
import Derived.Test.YtgolnfgkoolpoaaDoorStzSized
namespace Go.Proofs.YtgolnfgkoolpoaaDoor
open Go.RowKit
set_option linter.unusedSimpArgs false
set_option linter.unusedVariables false
namespace Stz
open Txt (tabs_below tabs_lt MaxLen)
set_option maxRecDepth 100000 in
set_option maxHeartbeats 4000000 in
theorem stanzaParsed_walk (a : Option Addr) (len cap : Nat) (zs : List Int) (w : World) (hr : Row w a len zs) (hT : Lib.Utf8Tabs 1 2 w) (hm : MaxLen w) :
    Calls Tryd.prog 9 #[.slice a len cap] w fun e w' => e = .returned (.bool true) ∧ Below w.heap.size w w' := by
  have hl := tabs_lt hT
  have hml := Lib.hid hm.lt
  have HT := Lib.hid hT
  have HMM := Lib.hid hm
  have HR := Lib.hid hr
  have c1 := parse_any a len cap zs w hr hT hm
  have c0 := awake_any w hT hm
  clear hT hm hr
  go_enter Tryd.func9, Tryd.ntmps9
  by_cases hlen : 20000 < len
  · have hlen' : (20000 : Int) < len := by omega
    go_wp2_with fail
    refine c0.mono ?_
    rintro e w1 ⟨rfl, b1⟩
    have B1 := Lib.hid b1
    clear c0 c1 b1
    go_wp2_with fail
    go_ret
    exact ⟨rfl, B1.out⟩
  have hlen' : ¬ (20000 : Int) < len := by omega
  go_wp2_with fail
  refine c1.mono ?_
  rintro e w1 ⟨v1, l, er, n, rfl, h1, _, t1, b1⟩
  have H1 := Lib.hid h1
  have T1 := Lib.hid t1
  have B1 := Lib.hid b1
  clear h1 t1 b1 c1 c0
  have nA : Below w1.heap.size w1 (w1.alloc (.cells #[.int .i64 er, .int .i64 n] 26)) := (Below.refl _ _).alloc (Nat.le_refl _) _
  have T2 := Lib.hid (T1.out.below nA)
  have B2 := Lib.hid (B1.out.trans (nA.mono B1.out.size))
  clear nA B1
  by_cases her : er = 0
  · have H1z : PR (strOfNums zs) l 0 n := by have := H1.out; rwa [her] at this
    have hpe := Lib.hid (pr_print H1z)
    have HZ := Lib.hid (pr_szd H1z)
    have hb0 : ((er : Int) != 0) = false := by rw [her]; rfl
    clear her H1 H1z T1
    go_wp2_with fail
    clear hb0
    obtain ⟨W, hW⟩ : ∃ W, w1.alloc (.cells #[.int .i64 er, .int .i64 n] 26) = W := ⟨_, rfl⟩
    rw [hW] at T2 B2 ⊢
    clear hW
    refine (print_any _ l W T2.out HZ.out (tabs_below HT.out B2.out hl)).mono ?_
    rintro e w2 ⟨u, rfl, hu, b2⟩
    obtain ⟨ua, uc, rfl, hun, huc, hur⟩ := id hu
    obtain ⟨L, hL⟩ : ∃ L, (print l).1.length = L := ⟨_, rfl⟩
    obtain ⟨G, hG⟩ : ∃ G, (print l).2 = G := ⟨_, rfl⟩
    rw [hL] at hu hur ⊢
    rw [hG]
    have HG := Lib.hid hG
    have HUR := Lib.hid hur
    have T3 := Lib.hid (T2.out.below b2)
    have B3 := Lib.hid (B2.out.trans (b2.mono B2.out.size))
    clear hu b2 hL hur hun huc T2 B2
    by_cases hG0 : G = 0
    · have hb1 : ((G : Int) != 0) = false := by subst hG0; rfl
      obtain ⟨p1, p2, p3⟩ := print_ok (l := l) (by rw [hG]; exact hG0)
      obtain ⟨m, hpr, hlk⟩ := print_back p1 p2
      rw [← p3] at hpr
      have HPR := Lib.hid hpr
      have HLK := Lib.hid hlk
      clear hG0 hG p1 p2 p3 hpr hlk hpe
      go_wp2_with fail
      clear hb1
      refine (parse_any ua L uc _ w2 HUR.out (tabs_below HT.out B3.out hl) (HMM.out.below B3.out hml.out)).mono ?_
      rintro e w3 ⟨v3, l3, er3, n3, rfl, h3, _, t3, b3⟩
      rw [nums_S] at h3
      obtain ⟨rfl, rfl, rfl⟩ := h3.uniq HPR.out
      have T4 := Lib.hid t3
      have T5 := Lib.hid (T3.out.below b3)
      have B4 := Lib.hid (B3.out.trans (b3.mono B3.out.size))
      clear h3 t3 b3 HUR B3 T3
      go_wp2_with fail
      have nA : Below w3.heap.size w3 (w3.alloc (.cells #[.int .i64 0, .int .i64 0] 26)) := (Below.refl _ _).alloc (Nat.le_refl _) _
      have iA := Blk.Is.new w3 26 #[.int .i64 0, .int .i64 0]
      have T6 := Lib.hid (T4.out.below nA)
      have T7 := Lib.hid (T5.out.below nA)
      have B5 := Lib.hid (B4.out.trans (nA.mono B4.out.size))
      obtain ⟨W2, hW⟩ : ∃ W, w3.alloc (.cells #[.int .i64 0, .int .i64 0] 26) = W := ⟨_, rfl⟩
      obtain ⟨z2, hz⟩ : ∃ z, w3.heap.size = z := ⟨_, rfl⟩
      rw [hW] at iA T6 T7 B5 ⊢
      rw [hz] at iA ⊢
      have c0 : W2.cell? ⟨z2, 0, none⟩ = some (.int .i64 0) := iA.at rfl
      clear nA iA hW hz T4 T5 B4
      go_wp2_with fail
      refine (sameStanzas_yes _ v3 l l3 false W2 T7.out T6.out HLK.out.symm (fun h => by cases h)).mono ?_
      rintro e w6 ⟨rfl, b6⟩
      have B6 := Lib.hid (B5.out.trans (b6.mono B5.out.size))
      clear b6 B5 c0 T6 T7
      go_wp2_with fail
      refine (awake_any w6 (tabs_below HT.out B6.out hl) (HMM.out.below B6.out hml.out)).mono ?_
      rintro e w7 ⟨rfl, b7⟩
      have B7 := Lib.hid (B6.out.trans (b7.mono B6.out.size))
      clear b7 B6
      go_wp2_with fail
      go_ret
      exact ⟨rfl, B7.out⟩
    · obtain rfl : G = 2 := by
        rcases hpe.out with h | h
        · exact absurd (hG.symm.trans h) hG0
        · exact hG.symm.trans h
      clear hG0 hG hpe
      go_wp2_with fail
      refine (awake_any w2 (tabs_below HT.out B3.out hl) (HMM.out.below B3.out hml.out)).mono ?_
      rintro e w4 ⟨rfl, b4⟩
      have B4 := Lib.hid (B3.out.trans (b4.mono B3.out.size))
      clear b4 B3
      go_wp2_with fail
      go_ret
      exact ⟨rfl, B4.out⟩
  · have hb1 : ((er : Int) != 0) = true := by
      rw [bne_iff_ne]
      omega
    have hn0 : (0 : Int) ≤ n := by omega
    obtain rfl := pr_err H1.out her
    obtain ⟨_, ta, tc, rfl, _, _⟩ := T2.out
    have e0 : ([] : List Sz).length = 0 := rfl
    rw [e0]
    clear her e0 T1 T2
    go_wp2_with fail
    refine (awake_any _ (tabs_below HT.out B2.out hl) (HMM.out.below B2.out hml.out)).mono ?_
    rintro e w4 ⟨rfl, b4⟩
    have B4 := Lib.hid (B2.out.trans (b4.mono B2.out.size))
    clear b4 B2
    go_wp2_with fail
    go_ret
    exact ⟨rfl, B4.out⟩
end Stz
end Go.Proofs.YtgolnfgkoolpoaaDoor

/-
The walk of the law StanzaJoins.
-/
import Derived.Test.YtgolnfgkoolpoaaDoorStzLight
import Derived.Test.YtgolnfgkoolpoaaDoorStzSameK
import Derived.Test.YtgolnfgkoolpoaaDoorStzJoin
namespace Go.Proofs.YtgolnfgkoolpoaaDoor
open Go.RowKit
set_option linter.unusedSimpArgs false
set_option linter.unusedVariables false
namespace Stz
open Txt (tabs_below tabs_lt MaxLen)
theorem wt_of2 {H : Type} {t t' : TypeId} {ts : List TypeId} {d d' : DataW H} {ds : List (DataW H)} (h : (DataW.weightsEach Tryd.prog (t' :: t :: ts) (d' :: d :: ds)).all (· ≤ reachBytes) = true) : Wt t d := fun n hn => by
  have := List.all_eq_true.1 h _ (DataW.weights_mem_each (j := 1) rfl rfl n hn)
  simpa using this
theorem light_len {l : List Sz} (h : lightB l = true) : l.length ≤ 30 := (light_cnt h).1
set_option maxRecDepth 100000 in
set_option maxHeartbeats 8000000 in
theorem stanzaJoins_walk (v1 v2 : Value) (l m : List Sz) (w : World) (h1 : Stzs w v1 l) (s1 : ∀ s ∈ l, ∀ f ∈ s.2, Szd f) (h2 : Stzs w v2 m) (s2 : ∀ s ∈ m, ∀ f ∈ s.2, Szd f) (hT : Lib.Utf8Tabs 1 2 w) (hm : MaxLen w) :
    Calls Tryd.prog 10 #[v1, v2] w fun e w' => e = .returned (.bool true) ∧ Below w.heap.size w w' := by
  have hl := tabs_lt hT
  have hml := Lib.hid hm.lt
  have fin := Lib.hid (fun w1 (hb : Below w.heap.size w w1) => awake_any w1 (tabs_below hT hb hl) (hm.below hb hml.out))
  have HT := Lib.hid hT
  have HMM := Lib.hid hm
  have H1 := Lib.hid h1
  have H2 := Lib.hid h2
  have HS1 := Lib.hid s1
  have HS2 := Lib.hid s2
  obtain ⟨-, a1, cap1, rfl, -, -⟩ := id h1
  obtain ⟨-, a2, cap2, rfl, -, -⟩ := id h2
  obtain ⟨N1, hN1⟩ : ∃ N, l.length = N := ⟨_, rfl⟩
  obtain ⟨N2, hN2⟩ : ∃ N, m.length = N := ⟨_, rfl⟩
  rw [hN1] at H1 ⊢
  rw [hN2] at H2 ⊢
  have HN1 := Lib.hid hN1
  have HN2 := Lib.hid hN2
  have cl := light_any _ l w H1.out
  clear hT hm h1 h2 s1 s2 hN1 hN2
  go_enter Tryd.func10, Tryd.ntmps10
  go_wp2_with fail
  refine cl.mono ?_
  rintro e w1 ⟨rfl, b1⟩
  have B1 := Lib.hid b1
  clear cl b1
  cases hlt1 : lightB l with
  | false =>
    clear hlt1
    go_wp2_with fail
    refine (fin.out _ B1.out).mono ?_
    rintro e w4 ⟨rfl, b4⟩
    have B4 := Lib.hid (B1.out.trans (b4.mono B1.out.size))
    clear b4 B1
    go_wp2_with fail
    go_ret
    exact ⟨rfl, B4.out⟩
  | true =>
  have hc1 : N1 ≤ 30 := by rw [← HN1.out]; exact light_len hlt1
  clear hlt1
  go_wp2_with fail
  refine (light_any _ m w1 (H2.out.below B1.out)).mono ?_
  rintro e w2 ⟨rfl, b2⟩
  have B2 := Lib.hid (B1.out.trans (b2.mono B1.out.size))
  clear b2 B1
  cases hlt2 : lightB m with
  | false =>
    clear hlt2
    go_wp2_with fail
    refine (fin.out _ B2.out).mono ?_
    rintro e w4 ⟨rfl, b4⟩
    have B4 := Lib.hid (B2.out.trans (b4.mono B2.out.size))
    clear b4 B2
    go_wp2_with fail
    go_ret
    exact ⟨rfl, B4.out⟩
  | true =>
  have hc2 : N2 ≤ 30 := by rw [← HN2.out]; exact light_len hlt2
  clear hlt2
  go_wp2_with fail
  refine (print_any _ l w2 (H1.out.below B2.out) HS1.out (tabs_below HT.out B2.out hl)).mono ?_
  rintro e w3 ⟨u1, rfl, hu1, b3⟩
  obtain ⟨G1, hG1⟩ : ∃ G, (print l).2 = G := ⟨_, rfl⟩
  obtain ⟨ua1, uc1, rfl, hun1, huc1, hur1⟩ := id hu1
  obtain ⟨L1, hL1⟩ : ∃ L, (print l).1.length = L := ⟨_, rfl⟩
  rw [hL1] at hu1 hur1 ⊢
  rw [hG1]
  have HG1 := Lib.hid hG1
  have HL1 := Lib.hid hL1
  have HR1 := Lib.hid hur1
  have HU1 := Lib.hid hun1
  have B3 := Lib.hid (B2.out.trans (b3.mono B2.out.size))
  clear b3 B2 hu1 hG1 hL1 hur1 hun1 huc1
  go_wp2_with fail
  refine (print_any _ m w3 (H2.out.below B3.out) HS2.out (tabs_below HT.out B3.out hl)).mono ?_
  rintro e w4 ⟨u2, rfl, hu2, b4⟩
  obtain ⟨G2, hG2⟩ : ∃ G, (print m).2 = G := ⟨_, rfl⟩
  obtain ⟨ua2, uc2, rfl, hun2, huc2, hur2⟩ := id hu2
  obtain ⟨L2, hL2⟩ : ∃ L, (print m).1.length = L := ⟨_, rfl⟩
  rw [hL2] at hu2 hur2 ⊢
  rw [hG2]
  have HG2 := Lib.hid hG2
  have HL2 := Lib.hid hL2
  have HR2 := Lib.hid hur2
  have HU2 := Lib.hid hun2
  have HR1' := Lib.hid (HR1.out.below b4)
  have B4 := Lib.hid (B3.out.trans (b4.mono B3.out.size))
  clear b4 B3 hu2 hG2 hL2 hur2 hun2 huc2 HR1
  by_cases hG10 : G1 = 0
  case neg =>
    have hb1 : ((G1 : Int) != 0) = true := by rw [bne_iff_ne]; omega
    clear hG10
    go_wp2_with fail
    clear hb1
    refine (fin.out _ B4.out).mono ?_
    rintro e w5 ⟨rfl, b5⟩
    have B5 := Lib.hid (B4.out.trans (b5.mono B4.out.size))
    clear b5 B4
    go_wp2_with fail
    go_ret
    exact ⟨rfl, B5.out⟩
  obtain rfl : G1 = 0 := hG10
  by_cases hG20 : G2 = 0
  case neg =>
    have hb2 : ((G2 : Int) != 0) = true := by rw [bne_iff_ne]; omega
    clear hG20
    go_wp2_with fail
    clear hb2
    refine (fin.out _ B4.out).mono ?_
    rintro e w5 ⟨rfl, b5⟩
    have B5 := Lib.hid (B4.out.trans (b5.mono B4.out.size))
    clear b5 B4
    go_wp2_with fail
    go_ret
    exact ⟨rfl, B5.out⟩
  obtain rfl : G2 = 0 := hG20
  obtain ⟨p1, p2, p3⟩ := print_ok HG1.out
  obtain ⟨q1, q2, q3⟩ := print_ok HG2.out
  have hs1 : L1 ≤ 65536 := by rw [← HL1.out, p3]; omega
  have hs2 : L2 ≤ 65536 := by rw [← HL2.out, q3]; omega
  by_cases hsum : 65536 ≤ L1 + L2
  · have hsum' : (65536 : Int) ≤ (L1 : Int) + L2 := by omega
    have hnn : ¬ (200 : Int) < (N1 : Int) + N2 := by omega
    clear p1 p2 p3 q1 q2 q3
    go_wp2_with fail
    refine (fin.out _ B4.out).mono ?_
    rintro e w5 ⟨rfl, b5⟩
    have B5 := Lib.hid (B4.out.trans (b5.mono B4.out.size))
    clear b5 B4
    go_wp2_with fail
    go_ret
    exact ⟨rfl, B5.out⟩
  have hsum' : ¬ (65536 : Int) ≤ (L1 : Int) + L2 := by omega
  have hnn : ¬ (200 : Int) < (N1 : Int) + N2 := by omega
  obtain ⟨mm, hpr, hlk⟩ := prints_join p1 q1 (by rw [HN1.out, HN2.out]; omega) (by rw [← p3, ← q3, HL1.out, HL2.out]; omega)
  rw [← p3, ← q3] at hpr
  have HPR := Lib.hid hpr
  have HLK := Lib.hid hlk
  clear p1 p2 p3 q1 q2 q3 hpr hlk HG1 HG2
  obtain ⟨X1, hX1⟩ : ∃ X, (print l).1 = X := ⟨_, rfl⟩
  obtain ⟨X2, hX2⟩ : ∃ X, (print m).1 = X := ⟨_, rfl⟩
  rw [hX1] at HPR HL1 HR1'
  rw [hX2] at HPR HL2 HR2
  clear hX1 hX2 hsum
  have hL1K := Lib.hid (show L1 ≤ 65536 by omega)
  have hL2K := Lib.hid (show L2 ≤ 65536 by omega)
  have HBY := Lib.hid (show nums X1 ++ [10] ++ nums X2 = nums (X1 ++ 10 :: X2) by rw [nums_app, List.append_assoc]; rfl)
  have HLL := Lib.hid (show (X1 ++ 10 :: X2).length = L1 + L2 + 1 by rw [List.length_append, List.length_cons, HL1.out, HL2.out]; omega)
  have nE : Below w4.heap.size w4 (w4.alloc (.cells #[] 5)) := (Below.refl _ _).alloc (Nat.le_refl _) _
  have ME := Lib.hid (mine_nil w4)
  have R1E := Lib.hid (HR1'.out.below nE)
  have sE : w4.heap.size ≤ (w4.alloc (.cells #[] 5)).heap.size := nE.size
  have NE := Lib.hid nE
  clear nE HR1'
  have hd1 : ¬ ((200 : Int) < (N1 : Int) + N2 ∨ (65536 : Int) ≤ (L1 : Int) + L2) := by omega
  clear hsum' hnn
  go_wp2_with (at_builtin; refine append_bytes rfl (.tmp 54) (.tmp 55) rfl w4.heap.size _ _ rfl ME.out ua1 L1 uc1 rfl _ R1E.out HU1.out ?_ sE ?_)
  · simp only [List.length_nil]; have := hL1K.out; omega
  clear hd1 hs1 hs2
  intro vA wA mA gA
  have bA : Below w4.heap.size w4 wA := Own.below_grown NE.out ME.out.1 gA sE
  have nB : Below wA.heap.size wA (wA.alloc (.cells #[.int .u8 10] 5)) := (Below.refl _ _).alloc (Nat.le_refl _) _
  have RB := Lib.hid (show Row (wA.alloc (.cells #[.int .u8 10] 5)) (some ⟨wA.heap.size, 0, none⟩) 1 [10] from Row.ofIs (Blk.Is.new wA 5 #[.int .u8 10]) 0 1 _ rfl (by decide) (by unfold Byte; decide) (fun j hj => by
    obtain rfl : j = 0 := by omega
    rfl))
  have MB := Lib.hid (mA.below nB)
  have BB := Lib.hid (bA.trans (nB.mono bA.size))
  have sB : w4.heap.size ≤ (wA.alloc (.cells #[.int .u8 10] 5)).heap.size := BB.out.size
  have hlA : (nums X1).length + 1 ≤ 140737488355328 := by rw [nums_len, HL1.out]; have := hL1K.out; omega
  obtain ⟨aA, cA, rfl, _, _⟩ := mA.row
  clear mA gA bA nB ME R1E NE sE HU1
  go_wp2_with (at_builtin; refine append_bytes rfl (.tmp 56) (.tmp 57) rfl w4.heap.size _ _ rfl MB.out (some ⟨wA.heap.size, 0, none⟩) 1 1 rfl _ RB.out (by intro h; cases h) hlA sB ?_)
  intro vC wC mC gC
  have bC : Below w4.heap.size w4 wC := Own.below_grown BB.out MB.out.1 gC sB
  obtain ⟨Y1, hY1⟩ : ∃ Y, nums X1 ++ [10] = Y := ⟨_, rfl⟩
  rw [hY1] at mC
  have HY1 := Lib.hid hY1
  clear hY1
  have MC := Lib.hid mC
  have BC := Lib.hid bC
  have R2C := Lib.hid (HR2.out.below bC)
  have sC : w4.heap.size ≤ wC.heap.size := bC.size
  have hlC : Y1.length + L2 ≤ 140737488355328 := by rw [← HY1.out, List.length_append, nums_len, HL1.out, List.length_singleton]; have := hL2K.out; have := hL1K.out; omega
  obtain ⟨aC, cC, rfl, _, _⟩ := mC.row
  clear mC gC bC MB BB sB RB hlA HR2
  go_wp2_with (at_builtin; refine append_bytes rfl (.tmp 58) (.tmp 59) rfl w4.heap.size _ _ rfl MC.out ua2 L2 uc2 rfl _ R2C.out HU2.out hlC sC ?_)
  intro vD wD mD gD
  have bD : Below w4.heap.size w4 wD := Own.below_grown BC.out MC.out.1 gD sC
  rw [← HY1.out, HBY.out] at mD
  obtain ⟨nD, aD, cD, rfl, _, hnD, hrD⟩ := mD.rows
  have BD := Lib.hid (B4.out.trans (bD.mono B4.out.size))
  have RD := Lib.hid hrD
  clear mD gD bD MC BC sC hlC R2C HU2 hnD hrD B4
  go_wp2_with fail
  refine (parse_any aD nD cD _ wD RD.out (tabs_below HT.out BD.out hl) (HMM.out.below BD.out hml.out)).mono ?_
  rintro e wP ⟨v3, l3, er, n, rfl, h3, _, t3, b3⟩
  rw [nums_S] at h3
  obtain ⟨rfl, rfl, rfl⟩ := h3.uniq HPR.out
  have T3 := Lib.hid t3
  have BP := Lib.hid (BD.out.trans (b3.mono BD.out.size))
  clear h3 t3 b3 BD RD HPR
  have nA : Below wP.heap.size wP (wP.alloc (.cells #[.int .i64 0, .int .i64 0] 26)) := (Below.refl _ _).alloc (Nat.le_refl _) _
  obtain ⟨xs1, c1, src1⟩ := szs_src H1.out
  obtain ⟨xs2, c2, src2⟩ := szs_src H2.out
  rw [HN1.out] at src1
  rw [HN2.out] at src2
  have SRC1 := Lib.hid (src1 _ (BP.out.trans (nA.mono BP.out.size)))
  have SRC2 := Lib.hid src2
  have C12 := Lib.hid (c1.app c2)
  have hN12 : N1 + N2 ≤ 70000 := by omega
  have hN1 : 0 + N1 ≤ 70000 := by omega
  have sA : wP.heap.size ≤ (wP.alloc (.cells #[.int .i64 0, .int .i64 0] 26)).heap.size := nA.size
  have NA := Lib.hid nA
  clear nA c1 c2 src1 src2 H1 H2 HS1 HS2 hc1 hc2
  go_wp2_with (at_builtin; refine append_szs_g (by rfl) (.const (.slice none 0 0)) (.tmp 69) rfl wP.heap.size (.slice none 0 0) 0 [] rfl (World.ownsRow_nil _ _ _ 2) _ N1 xs1 rfl SRC1.out hN1 sA ?_)
  intro vE wE oE gE
  have bE : Below wP.heap.size wP wE := Own.below_grown NA.out (World.ownsRow_nil _ wP.heap.size 37 2) gE sA
  have oE' : wE.ownsRow wP.heap.size 37 2 vE N1 xs1 := by simpa using oE
  have OE := Lib.hid oE'
  have SRC := Lib.hid (SRC2.out wE (BP.out.trans (bE.mono BP.out.size)))
  have sE2 : wP.heap.size ≤ wE.heap.size := bE.size
  have BE2 := Lib.hid bE
  obtain ⟨aE, cE, rfl, _⟩ := own_shape oE'
  clear oE oE' gE SRC1 SRC2 bE hN1 sA NA
  go_wp2_with (at_builtin; refine append_szs_g (by rfl) (.tmp 70) (.tmp 71) rfl wP.heap.size _ N1 xs1 rfl OE.out _ N2 xs2 rfl SRC.out hN12 sE2 ?_)
  intro vF wF oF gF
  have bF : Below wP.heap.size wP wF := Own.below_grown BE2.out OE.out gF sE2
  have HF := Lib.hid (show Stzs wF vF (l ++ m) from by
    refine szs_own (B := wP.heap.size) (xs := xs1 ++ xs2) ?_ (C12.out.below (BP.out.trans (bF.mono BP.out.size))) (by rw [List.length_append, HN1.out, HN2.out]; omega)
    rw [List.length_append, HN1.out, HN2.out]
    exact oF)
  have T5 := Lib.hid (T3.out.below bF)
  have BF := Lib.hid (BP.out.trans (bF.mono BP.out.size))
  clear oF gF bF OE SRC sE2 BE2 C12 hN12 T3 BP
  go_wp2_with fail
  refine (sameStanzas_yes v3 vF l3 (l ++ m) false wF T5.out HF.out HLK.out (fun h => by cases h)).mono ?_
  rintro e w6 ⟨rfl, b6⟩
  have B6 := Lib.hid (BF.out.trans (b6.mono BF.out.size))
  clear b6 BF T5 HF
  go_wp2_with fail
  refine (fin.out _ B6.out).mono ?_
  rintro e w7 ⟨rfl, b7⟩
  have B7 := Lib.hid (B6.out.trans (b7.mono B6.out.size))
  clear b7 B6
  go_wp2_with fail
  go_ret
  exact ⟨rfl, B7.out⟩
end Stz
end Go.Proofs.YtgolnfgkoolpoaaDoor

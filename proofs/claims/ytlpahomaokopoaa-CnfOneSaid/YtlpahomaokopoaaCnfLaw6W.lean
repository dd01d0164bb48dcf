/-
CnfMore: its walk.
-/
import Derived.Test.YtlpahomaokopoaaCnfLaw6
namespace Go.Proofs.Ytlpahomaokopoaa
open Go.RowKit
set_option linter.unusedSimpArgs false
set_option linter.unusedVariables false
namespace Cn
theorem lit_on {w : World} {b : Nat} {x : Int} (h : Blk.Is w b 45 #[.int .i64 x]) : Src Try.prog 1 22 (.slice (some ⟨b, 0, none⟩) 1 1) 1 (lcells [x]) w := Src.ofSlice _ Try.underlying22 ⟨b, 0, none⟩ 1 1 _ rfl (fun j u hj => by
  cases j with
  | zero => simp [lcells] at hj; subst hj; rw [Addr.add_mid]; exact h.at (i := 0) rfl
  | succ j => simp [lcells] at hj) (lcells_one _)
theorem lt_more {w w' : World} {B : Nat} {v v' : Value} {l : List Int} {x : Int} (h : Lt w B v l) (hx : I64 x) (ho : w'.ownsRow B 45 1 v' (l.length + 1) (lcells l ++ lcells [x])) : Lt w' B v' (l ++ [x]) := by
  refine ⟨fun z hz => ?_, ?_⟩
  · rcases List.mem_append.1 hz with h1 | h1
    · exact h.1 z h1
    · have : z = x := by simpa using h1
      rw [this]; exact hx
  · rw [List.length_append, List.length_singleton]
    unfold lcells at ho ⊢
    rw [List.map_append]
    exact ho
set_option maxRecDepth 100000 in
set_option maxHeartbeats 16000000 in
theorem more_walk (n0 : Int) (v cv mv : Value) (l : List (List Int)) (c : List Int) (m : List Bool) (w : World) (h : LitVs w v l) (hc : LitV w cv c) (hm : BoolV w mv m) :
    Calls Try.prog 9 #[.int .i64 n0, v, cv, mv] w fun e w' => e = .returned (.bool true) ∧ Below w.heap.size w w' := by
  obtain ⟨n1, hn1, hn2, hq3, hq4, hq5⟩ := mod_n n0 12 (by omega) (by omega)
  have hn3 : (IntKind.u64.wrap n0).tmod 12 + 1 = (n1 : Int) := hq3
  have hn4 : 0 ≤ (IntKind.u64.wrap n0).tmod 12 := hq4
  have hn5 : (IntKind.u64.wrap n0).tmod 12 < 12 := hq5
  clear hq3 hq4 hq5
  have cb := both_any n1 v l w h
  have hv1 : vars (n1 : Int) = n1 := by unfold vars; omega
  rw [hv1] at cb
  obtain ⟨a, cap, rfl⟩ := h.shape
  obtain ⟨ma, mcap, rfl⟩ := hm.shape
  have hlitc := hc
  obtain ⟨hz, xa, xc, rfl, hxc, hxc2, hxn, hxr⟩ := hc
  obtain ⟨N0, hN0⟩ : ∃ N, l.length = N := ⟨_, rfl⟩
  obtain ⟨M, hM⟩ : ∃ M, m.length = M := ⟨_, rfl⟩
  obtain ⟨C, hC⟩ : ∃ C, c.length = C := ⟨_, rfl⟩
  have HCL := Lib.hid hC
  rw [hN0] at cb
  rw [hN0, hM, hC]
  rw [hM] at hm
  rw [hC] at hxc hxr hlitc
  have HMM := Lib.hid hM
  have HM := Lib.hid hm
  have HC := Lib.hid hlitc
  have HXR := Lib.hid hxr
  have HZ := Lib.hid hz
  clear hN0 hM hC h hm hlitc hxr hxn hz
  go_enter Try.func9, Try.ntmps9
  go_wp2_with fail
  refine cb.mono ?_
  rintro e w1 ⟨p, q, v1, u1, L, rfl, two, k1⟩
  have CS := Lib.hid two.cs
  have K1 := Lib.hid k1
  obtain ⟨G, hG⟩ : ∃ G, holds m L = G := ⟨_, rfl⟩
  have HG := Lib.hid hG
  have ch := holds_any p v1 n1 L w.heap.size _ m w1 two.cs (HM.out.below k1)
  rw [hG] at ch
  clear cb two k1 hG
  go_wp2_with fail
  refine ch.mono ?_
  rintro e w2 ⟨rfl, k2⟩
  have CS2 := Lib.hid (CS.out.below k2)
  have K2 := Lib.hid (K1.out.trans (k2.mono K1.out.size))
  clear ch k2 CS hn3 hn4 hn5
  by_cases h20 : C ≤ 20
  · have g20 : ¬ ((C : Int) > 20) := by omega
    have hcl : c.length ≤ 20 := by rw [HCL.out]; exact h20
    have HCC := HC
    obtain ⟨c2, hc2⟩ : ∃ c2, c = c2 := ⟨_, rfl⟩
    rw [hc2] at HCC hcl
    clear hc2
    have ca := add_any CS2.out (.slice xa C xc) c2 (HCC.out.below K2.out) (by omega) K2.out.size
    obtain ⟨Ga, hGa⟩ : ∃ Ga, takes n1 L c2 = Ga := ⟨_, rfl⟩
    obtain ⟨L2, hL2⟩ : ∃ L2, adds n1 L c2 = L2 := ⟨_, rfl⟩
    rw [hGa, hL2] at ca
    have HL2 := Lib.hid hL2
    clear hGa hL2 h20
    go_wp2_with fail
    
    refine ca.mono ?_
    rintro e w3 ⟨rfl, v3, s3, g3, k3⟩
    have CS3 := Lib.hid s3
    have K3 := Lib.hid (K2.out.trans (k3.below (B := w.heap.size) (fun k hk => CS2.out.mineLow k hk) K2.out.size))
    obtain ⟨G3, hG3⟩ : ∃ G3, holds m L2 = G3 := ⟨_, rfl⟩
    have ch := holds_any p v3 n1 L2 w.heap.size _ m w3 s3 (HM.out.below K3.out)
    rw [hG3] at ch
    have hles : G3 = true → G = true := fun h => by
      rw [← HG.out]
      rw [← hG3, ← HL2.out] at h
      exact more_less h
    clear ca s3 g3 k3 CS2 hG3
    go_wp2_with fail
    refine ch.mono ?_
    rintro e w4 ⟨rfl, k4⟩
    have K4 := Lib.hid (K3.out.trans (k4.mono K3.out.size))
    clear ch k4 CS3
    have cn := new_any n1 w4
    rw [hv1] at cn
    cases G3 with
    | true =>
      obtain rfl : G = true := hles rfl
      clear hles
      go_wp2_with fail
      refine cn.mono ?_
      rintro e w5 ⟨rfl, hs5, st, k5⟩
      have ST := Lib.hid st
      have K5 := Lib.hid (K4.out.trans (k5.mono K4.out.size))
      obtain ⟨tp, htp⟩ : ∃ tp, w4.heap.size = tp := ⟨_, rfl⟩
      rw [htp] at ST ⊢
      have HTP := Lib.hid htp
      have hbase := K4.out.size
      have h45 : tp ≤ w5.heap.size := by have := k5.size; have := HTP.out; omega
      clear cn st k5 hs5 htp
      go_wp2_with fail
      go_loopg [13, 14, 15] n1 (fun gf s13 s14 s15 wx => ∃ (k : Nat) (a1 : Option Addr) (c1 : Nat) (a2 : Option Addr) (c2 : Nat), s13 = .slice a1 k c1 ∧ s14 = .slice a2 k c2 ∧ s15 = .int .i64 ((k : Int) + 1) ∧ Hid (Lt wx w5.heap.size (.slice a1 k c1) (ownL m k)) ∧ Hid (Lt wx w5.heap.size (.slice a2 k c2) (otherL m k)) ∧ Hid (Apart (.slice a1 k c1) (.slice a2 k c2)) ∧ Hid (Below w5.heap.size w5 wx) ∧ k ≤ n1 ∧ n1 ≤ k + gf)
      case atStart => exact ⟨0, none, 0, none, 0, rfl, rfl, by go_num, Lib.hid (Lt.nil _ _), Lib.hid (Lt.nil _ _), Lib.hid (Apart.nil _), Lib.hid (Below.refl _ _), by omega, by omega⟩
      case round =>
        obtain ⟨k, a1, c1, a2, c2, rfl, rfl, rfl, HO1, HO2, HAP, HB, hkn, hfu⟩ := hrel
        by_cases hlt : k < n1
        · obtain ⟨g', rfl⟩ : ∃ g', gk = g' + 1 := ⟨gk - 1, by omega⟩
          have hle : ((k : Int) + 1) ≤ (n1 : Int) := by omega
          by_cases hkM : k < M
          · have hkM1 : ((k : Int) + 1) ≤ (M : Int) := by omega
            have hkM2 : (k : Int) < (M : Int) := by omega
            have hk0 : (0 : Int) ≤ k := by omega
            obtain ⟨y, hy⟩ : ∃ y, m[k]? = some y := ⟨m[k]'(by rw [HMM.out]; exact hkM), List.getElem?_eq_getElem _⟩
            obtain ⟨am, cm, em, _, _, hmr⟩ := HM.out
            rw [HMM.out] at em hmr
            simp only [Value.slice.injEq, true_and] at em
            obtain ⟨rfl, rfl⟩ := em
            obtain ⟨bm, om, rfl, hmc⟩ := hmr (by omega)
            have cmm := cell_on (hmc k y hy) (K5.out.trans (HB.out.mono K5.out.size))
            have hgy : m.getD k false = y := by rw [List.getD_eq_getElem?_getD, hy]; rfl
            clear hmr hmc hy hkM
            cases y with
            | true =>
              have HX := Lib.hid (show ownL m (k + 1) = ownL m k ++ [(k : Int) + 1] by unfold ownL; rw [if_pos hgy]; cases k <;> rfl)
              clear hgy
              have HY := Lib.hid (show otherL m (k + 1) = otherL m k ++ [-((k : Int) + 1)] by
                have h1 : (ownL m (k + 1)).map (fun z => -z) = (ownL m k).map (fun z => -z) ++ [-((k : Int) + 1)] := by rw [HX.out, List.map_append]; rfl
                show (ownL m (k + 1)).map (fun z => -z) = (ownL m k).map (fun z => -z) ++ [-((k : Int) + 1)]
                rw [h1, show -((k : Int) + 1) = -((k : Int) + 1) by omega])
              have g2 := (Below.refl wr.heap.size wr).alloc (Nat.le_refl _) (.cells #[.int .i64 ((k : Int) + 1)] 45)
              have i2 := Blk.Is.new wr 45 #[.int .i64 ((k : Int) + 1)]
              obtain ⟨W2, hW2⟩ : ∃ W2, wr.alloc (.cells #[.int .i64 ((k : Int) + 1)] 45) = W2 := ⟨_, rfl⟩
              rw [hW2] at g2 i2
              have O1 := Lib.hid (HO1.out.below g2)
              have O2 := Lib.hid (HO2.out.below g2)
              have SRC := Lib.hid (lit_on i2)
              have BW := Lib.hid (HB.out.trans (g2.mono HB.out.size))
              have hsz := BW.out.size
              obtain ⟨i0, hi, hz0, hz1, hz2⟩ := info_parts infoLit
              have HI := Lib.hid hi
              have OW := O1.out.2
              rw [ownL_len] at OW
              have OWN := Lib.hid OW
              have hu := hW2
              clear g2 i2 hW2 hi OW HO1 HO2 HB
              go_wp2_with (at_builtin; refine wpList_append4 rfl (.tmp 67) (.tmp 69) 22 22 rfl w5.heap.size 45 i0 _ 1 8 Try.underlying22 HI.out hz0 hz1 hz2 rfl _ k _ rfl OWN.out _ 1 (lcells [(k : Int) + 1]) rfl SRC.out ?_ ?_ hsz ?_)
              · simp only [maxLen]; omega
              · omega
              intro v7 w7 o7 g7 q7
              have hch : Blk.Chg (fun j => (Value.slice a1 k c1).ownBlock = some j) W2 w7 := (Blk.Chg.refl _ _).grown g7 (fun g hg _ => hg)
              have h2 := O2.out.chg hch fun j hj hj2 => HAP.out j hj2 hj
              have h1 : Lt w7 w5.heap.size v7 (ownL m (k + 1)) := by
                rw [HX.out]
                exact lt_more O1.out (by unfold I64; omega) (by rw [ownL_len]; exact o7)
              have ap : Apart (.slice a2 k c2) v7 := HAP.out.symm.grow (w := W2) (fun j hj => q7 j hj) (fun j hj => (own_lt O2.out.2 hj).2)
              have bw : Below w5.heap.size w5 w7 := Own.below_grown BW.out O1.out.2 g7 hsz
              obtain ⟨a7, c7, rfl, _⟩ := own_shape o7
              have P1 := Lib.hid h1
              have P2 := Lib.hid h2
              have PA := Lib.hid ap
              have PB := Lib.hid bw
              clear o7 g7 q7 hch h1 h2 ap bw O1 O2 SRC BW OWN hsz HI hu HAP
              have g2 := (Below.refl w7.heap.size w7).alloc (Nat.le_refl _) (.cells #[.int .i64 (-((k : Int) + 1))] 45)
              have i2 := Blk.Is.new w7 45 #[.int .i64 (-((k : Int) + 1))]
              obtain ⟨W2, hW2⟩ : ∃ W2, w7.alloc (.cells #[.int .i64 (-((k : Int) + 1))] 45) = W2 := ⟨_, rfl⟩
              rw [hW2] at g2 i2
              have O1 := Lib.hid (P1.out.below g2)
              have O2 := Lib.hid (P2.out.below g2)
              have SRC := Lib.hid (lit_on i2)
              have BW := Lib.hid (PB.out.trans (g2.mono PB.out.size))
              have hsz := BW.out.size
              obtain ⟨i0, hi, hz0, hz1, hz2⟩ := info_parts infoLit
              have HI := Lib.hid hi
              have OW := O2.out.2
              rw [otherL_len] at OW
              have OWN := Lib.hid OW
              have hu := hW2
              clear g2 i2 hW2 hi OW P1 P2 PB
              go_wp2_with (at_builtin; refine wpList_append4 rfl (.tmp 71) (.tmp 74) 22 22 rfl w5.heap.size 45 i0 _ 1 8 Try.underlying22 HI.out hz0 hz1 hz2 rfl _ k _ rfl OWN.out _ 1 (lcells [-((k : Int) + 1)]) rfl SRC.out ?_ ?_ hsz ?_)
              · simp only [maxLen]; omega
              · omega
              intro v8 w8 o8 g8 q8
              have hch : Blk.Chg (fun j => (Value.slice a2 k c2).ownBlock = some j) W2 w8 := (Blk.Chg.refl _ _).grown g8 (fun g hg _ => hg)
              have h1 := O1.out.chg hch fun j hj hj2 => PA.out j hj2 hj
              have h2 : Lt w8 w5.heap.size v8 (otherL m (k + 1)) := by
                rw [HY.out]
                exact lt_more O2.out (by unfold I64; omega) (by rw [otherL_len]; exact o8)
              have ap : Apart (.slice a7 (k + 1) c7) v8 := PA.out.symm.grow (w := W2) (fun j hj => q8 j hj) (fun j hj => (own_lt O1.out.2 hj).2)
              have bw : Below w5.heap.size w5 w8 := Own.below_grown BW.out O2.out.2 g8 hsz
              obtain ⟨a8, c8, rfl, _⟩ := own_shape o8
              have P1 := Lib.hid h1
              have P2 := Lib.hid h2
              have PA2 := Lib.hid ap
              have PB := Lib.hid bw
              clear o8 g8 q8 hch h1 h2 ap bw O1 O2 SRC BW OWN hsz HI hu PA
              go_wp2_with fail
              go_roundg g'
              case measure => omega
              case rel => exact ⟨k + 1, a7, c7, a8, c8, rfl, rfl, by go_num, P1, P2, PA2, PB, by omega, by omega⟩
            | false =>
              have HX := Lib.hid (show ownL m (k + 1) = ownL m k ++ [-((k : Int) + 1)] by unfold ownL; rw [if_neg (by rw [hgy]; decide)]; cases k <;> rfl)
              clear hgy
              have HY := Lib.hid (show otherL m (k + 1) = otherL m k ++ [(k : Int) + 1] by
                have h1 : (ownL m (k + 1)).map (fun z => -z) = (ownL m k).map (fun z => -z) ++ [-(-((k : Int) + 1))] := by rw [HX.out, List.map_append]; rfl
                show (ownL m (k + 1)).map (fun z => -z) = (ownL m k).map (fun z => -z) ++ [(k : Int) + 1]
                rw [h1, show -(-((k : Int) + 1)) = (k : Int) + 1 by omega])
              have g2 := (Below.refl wr.heap.size wr).alloc (Nat.le_refl _) (.cells #[.int .i64 (-((k : Int) + 1))] 45)
              have i2 := Blk.Is.new wr 45 #[.int .i64 (-((k : Int) + 1))]
              obtain ⟨W2, hW2⟩ : ∃ W2, wr.alloc (.cells #[.int .i64 (-((k : Int) + 1))] 45) = W2 := ⟨_, rfl⟩
              rw [hW2] at g2 i2
              have O1 := Lib.hid (HO1.out.below g2)
              have O2 := Lib.hid (HO2.out.below g2)
              have SRC := Lib.hid (lit_on i2)
              have BW := Lib.hid (HB.out.trans (g2.mono HB.out.size))
              have hsz := BW.out.size
              obtain ⟨i0, hi, hz0, hz1, hz2⟩ := info_parts infoLit
              have HI := Lib.hid hi
              have OW := O1.out.2
              rw [ownL_len] at OW
              have OWN := Lib.hid OW
              have hu := hW2
              clear g2 i2 hW2 hi OW HO1 HO2 HB
              go_wp2_with (at_builtin; refine wpList_append4 rfl (.tmp 67) (.tmp 69) 22 22 rfl w5.heap.size 45 i0 _ 1 8 Try.underlying22 HI.out hz0 hz1 hz2 rfl _ k _ rfl OWN.out _ 1 (lcells [-((k : Int) + 1)]) rfl SRC.out ?_ ?_ hsz ?_)
              · simp only [maxLen]; omega
              · omega
              intro v7 w7 o7 g7 q7
              have hch : Blk.Chg (fun j => (Value.slice a1 k c1).ownBlock = some j) W2 w7 := (Blk.Chg.refl _ _).grown g7 (fun g hg _ => hg)
              have h2 := O2.out.chg hch fun j hj hj2 => HAP.out j hj2 hj
              have h1 : Lt w7 w5.heap.size v7 (ownL m (k + 1)) := by
                rw [HX.out]
                exact lt_more O1.out (by unfold I64; omega) (by rw [ownL_len]; exact o7)
              have ap : Apart (.slice a2 k c2) v7 := HAP.out.symm.grow (w := W2) (fun j hj => q7 j hj) (fun j hj => (own_lt O2.out.2 hj).2)
              have bw : Below w5.heap.size w5 w7 := Own.below_grown BW.out O1.out.2 g7 hsz
              obtain ⟨a7, c7, rfl, _⟩ := own_shape o7
              have P1 := Lib.hid h1
              have P2 := Lib.hid h2
              have PA := Lib.hid ap
              have PB := Lib.hid bw
              clear o7 g7 q7 hch h1 h2 ap bw O1 O2 SRC BW OWN hsz HI hu HAP
              have g2 := (Below.refl w7.heap.size w7).alloc (Nat.le_refl _) (.cells #[.int .i64 ((k : Int) + 1)] 45)
              have i2 := Blk.Is.new w7 45 #[.int .i64 ((k : Int) + 1)]
              obtain ⟨W2, hW2⟩ : ∃ W2, w7.alloc (.cells #[.int .i64 ((k : Int) + 1)] 45) = W2 := ⟨_, rfl⟩
              rw [hW2] at g2 i2
              have O1 := Lib.hid (P1.out.below g2)
              have O2 := Lib.hid (P2.out.below g2)
              have SRC := Lib.hid (lit_on i2)
              have BW := Lib.hid (PB.out.trans (g2.mono PB.out.size))
              have hsz := BW.out.size
              obtain ⟨i0, hi, hz0, hz1, hz2⟩ := info_parts infoLit
              have HI := Lib.hid hi
              have OW := O2.out.2
              rw [otherL_len] at OW
              have OWN := Lib.hid OW
              have hu := hW2
              clear g2 i2 hW2 hi OW P1 P2 PB
              go_wp2_with (at_builtin; refine wpList_append4 rfl (.tmp 71) (.tmp 74) 22 22 rfl w5.heap.size 45 i0 _ 1 8 Try.underlying22 HI.out hz0 hz1 hz2 rfl _ k _ rfl OWN.out _ 1 (lcells [(k : Int) + 1]) rfl SRC.out ?_ ?_ hsz ?_)
              · simp only [maxLen]; omega
              · omega
              intro v8 w8 o8 g8 q8
              have hch : Blk.Chg (fun j => (Value.slice a2 k c2).ownBlock = some j) W2 w8 := (Blk.Chg.refl _ _).grown g8 (fun g hg _ => hg)
              have h1 := O1.out.chg hch fun j hj hj2 => PA.out j hj2 hj
              have h2 : Lt w8 w5.heap.size v8 (otherL m (k + 1)) := by
                rw [HY.out]
                exact lt_more O2.out (by unfold I64; omega) (by rw [otherL_len]; exact o8)
              have ap : Apart (.slice a7 (k + 1) c7) v8 := PA.out.symm.grow (w := W2) (fun j hj => q8 j hj) (fun j hj => (own_lt O1.out.2 hj).2)
              have bw : Below w5.heap.size w5 w8 := Own.below_grown BW.out O2.out.2 g8 hsz
              obtain ⟨a8, c8, rfl, _⟩ := own_shape o8
              have P1 := Lib.hid h1
              have P2 := Lib.hid h2
              have PA2 := Lib.hid ap
              have PB := Lib.hid bw
              clear o8 g8 q8 hch h1 h2 ap bw O1 O2 SRC BW OWN hsz HI hu PA
              go_wp2_with fail
              go_roundg g'
              case measure => omega
              case rel => exact ⟨k + 1, a7, c7, a8, c8, rfl, rfl, by go_num, P1, P2, PA2, PB, by omega, by omega⟩
          · have hkM1 : ¬ (((k : Int) + 1) ≤ (M : Int)) := by omega
            have hgy : m.getD k false = false := by rw [List.getD_eq_getElem?_getD, List.getElem?_eq_none (by rw [HMM.out]; omega)]; rfl
            have HX := Lib.hid (show ownL m (k + 1) = ownL m k ++ [-((k : Int) + 1)] by unfold ownL; rw [if_neg (by rw [hgy]; decide)]; cases k <;> rfl)
            clear hgy hkM
            have HY := Lib.hid (show otherL m (k + 1) = otherL m k ++ [(k : Int) + 1] by
              have h1 : (ownL m (k + 1)).map (fun z => -z) = (ownL m k).map (fun z => -z) ++ [-(-((k : Int) + 1))] := by rw [HX.out, List.map_append]; rfl
              show (ownL m (k + 1)).map (fun z => -z) = (ownL m k).map (fun z => -z) ++ [(k : Int) + 1]
              rw [h1, show -(-((k : Int) + 1)) = (k : Int) + 1 by omega])
            have g2 := (Below.refl wr.heap.size wr).alloc (Nat.le_refl _) (.cells #[.int .i64 (-((k : Int) + 1))] 45)
            have i2 := Blk.Is.new wr 45 #[.int .i64 (-((k : Int) + 1))]
            obtain ⟨W2, hW2⟩ : ∃ W2, wr.alloc (.cells #[.int .i64 (-((k : Int) + 1))] 45) = W2 := ⟨_, rfl⟩
            rw [hW2] at g2 i2
            have O1 := Lib.hid (HO1.out.below g2)
            have O2 := Lib.hid (HO2.out.below g2)
            have SRC := Lib.hid (lit_on i2)
            have BW := Lib.hid (HB.out.trans (g2.mono HB.out.size))
            have hsz := BW.out.size
            obtain ⟨i0, hi, hz0, hz1, hz2⟩ := info_parts infoLit
            have HI := Lib.hid hi
            have OW := O1.out.2
            rw [ownL_len] at OW
            have OWN := Lib.hid OW
            have hu := hW2
            clear g2 i2 hW2 hi OW HO1 HO2 HB
            go_wp2_with (at_builtin; refine wpList_append4 rfl (.tmp 67) (.tmp 69) 22 22 rfl w5.heap.size 45 i0 _ 1 8 Try.underlying22 HI.out hz0 hz1 hz2 rfl _ k _ rfl OWN.out _ 1 (lcells [-((k : Int) + 1)]) rfl SRC.out ?_ ?_ hsz ?_)
            · simp only [maxLen]; omega
            · omega
            intro v7 w7 o7 g7 q7
            have hch : Blk.Chg (fun j => (Value.slice a1 k c1).ownBlock = some j) W2 w7 := (Blk.Chg.refl _ _).grown g7 (fun g hg _ => hg)
            have h2 := O2.out.chg hch fun j hj hj2 => HAP.out j hj2 hj
            have h1 : Lt w7 w5.heap.size v7 (ownL m (k + 1)) := by
              rw [HX.out]
              exact lt_more O1.out (by unfold I64; omega) (by rw [ownL_len]; exact o7)
            have ap : Apart (.slice a2 k c2) v7 := HAP.out.symm.grow (w := W2) (fun j hj => q7 j hj) (fun j hj => (own_lt O2.out.2 hj).2)
            have bw : Below w5.heap.size w5 w7 := Own.below_grown BW.out O1.out.2 g7 hsz
            obtain ⟨a7, c7, rfl, _⟩ := own_shape o7
            have P1 := Lib.hid h1
            have P2 := Lib.hid h2
            have PA := Lib.hid ap
            have PB := Lib.hid bw
            clear o7 g7 q7 hch h1 h2 ap bw O1 O2 SRC BW OWN hsz HI hu HAP
            have g2 := (Below.refl w7.heap.size w7).alloc (Nat.le_refl _) (.cells #[.int .i64 ((k : Int) + 1)] 45)
            have i2 := Blk.Is.new w7 45 #[.int .i64 ((k : Int) + 1)]
            obtain ⟨W2, hW2⟩ : ∃ W2, w7.alloc (.cells #[.int .i64 ((k : Int) + 1)] 45) = W2 := ⟨_, rfl⟩
            rw [hW2] at g2 i2
            have O1 := Lib.hid (P1.out.below g2)
            have O2 := Lib.hid (P2.out.below g2)
            have SRC := Lib.hid (lit_on i2)
            have BW := Lib.hid (PB.out.trans (g2.mono PB.out.size))
            have hsz := BW.out.size
            obtain ⟨i0, hi, hz0, hz1, hz2⟩ := info_parts infoLit
            have HI := Lib.hid hi
            have OW := O2.out.2
            rw [otherL_len] at OW
            have OWN := Lib.hid OW
            have hu := hW2
            clear g2 i2 hW2 hi OW P1 P2 PB
            go_wp2_with (at_builtin; refine wpList_append4 rfl (.tmp 71) (.tmp 74) 22 22 rfl w5.heap.size 45 i0 _ 1 8 Try.underlying22 HI.out hz0 hz1 hz2 rfl _ k _ rfl OWN.out _ 1 (lcells [(k : Int) + 1]) rfl SRC.out ?_ ?_ hsz ?_)
            · simp only [maxLen]; omega
            · omega
            intro v8 w8 o8 g8 q8
            have hch : Blk.Chg (fun j => (Value.slice a2 k c2).ownBlock = some j) W2 w8 := (Blk.Chg.refl _ _).grown g8 (fun g hg _ => hg)
            have h1 := O1.out.chg hch fun j hj hj2 => PA.out j hj2 hj
            have h2 : Lt w8 w5.heap.size v8 (otherL m (k + 1)) := by
              rw [HY.out]
              exact lt_more O2.out (by unfold I64; omega) (by rw [otherL_len]; exact o8)
            have ap : Apart (.slice a7 (k + 1) c7) v8 := PA.out.symm.grow (w := W2) (fun j hj => q8 j hj) (fun j hj => (own_lt O1.out.2 hj).2)
            have bw : Below w5.heap.size w5 w8 := Own.below_grown BW.out O2.out.2 g8 hsz
            obtain ⟨a8, c8, rfl, _⟩ := own_shape o8
            have P1 := Lib.hid h1
            have P2 := Lib.hid h2
            have PA2 := Lib.hid ap
            have PB := Lib.hid bw
            clear o8 g8 q8 hch h1 h2 ap bw O1 O2 SRC BW OWN hsz HI hu PA
            go_wp2_with fail
            go_roundg g'
            case measure => omega
            case rel => exact ⟨k + 1, a7, c7, a8, c8, rfl, rfl, by go_num, P1, P2, PA2, PB, by omega, by omega⟩
        · obtain rfl : k = n1 := by omega
          have hge : ¬ (((k : Int) + 1) ≤ (k : Int)) := by omega
          have ST2 := Lib.hid (ST.out.below (w' := wr) HB.out)
          have ca := add_any ST2.out (.slice a1 k c1) (ownL m k) HO1.out.lit (by rw [ownL_len]; omega) (by have := HB.out.size; have := HTP.out; have := K5.out.size; omega)
          have hm1 := more_own (m := m) (n := k) (by omega)
          have hm2 := more_other (m := m) (n := k) (by omega)
          rw [hm1.1] at ca
          obtain ⟨L5, hL5⟩ : ∃ L5, adds k [] (ownL m k) = L5 := ⟨_, rfl⟩
          rw [hL5] at ca hm1 hm2
          obtain ⟨L6, hL6⟩ : ∃ L6, adds k L5 (otherL m k) = L6 := ⟨_, rfl⟩
          rw [hL6] at hm2
          have HH := Lib.hid (And.intro hm1.2 hm2)
          have HL6 := Lib.hid hL6
          clear hm1 hm2 hL5 hL6
          go_wp2_with fail
          refine ca.mono ?_
          rintro e w6 ⟨rfl, v6, s6, g6, k6⟩
          have hw56 : w5.heap.size ≤ w6.heap.size := by have := HB.out.size; have := k6.size; omega
          have h26 := HO2.out.chg k6 fun j hj => by
            obtain ⟨cs, hcs⟩ := HO2.out.is hj
            exact ST2.out.mineLit (by decide) j cs hcs
          have B6 := Lib.hid (show Below w.heap.size w w6 from (K5.out.trans (HB.out.mono K5.out.size)).trans (k6.below (B := w.heap.size) (fun j hj => by have := ST2.out.mineLow j hj; have := HTP.out; omega) (by have := K5.out.size; have := HB.out.size; omega)))
          have ch := holds_any tp v6 k L5 tp _ m w6 s6 (HM.out.below B6.out)
          rw [HH.out.1] at ch
          have S6 := Lib.hid s6
          have O6 := Lib.hid h26
          clear ca s6 g6 k6 h26
          go_wp2_with fail
          refine ch.mono ?_
          rintro e w7 ⟨rfl, k7⟩
          have cb := add_any (S6.out.below k7) (.slice a2 k c2) (otherL m k) (O6.out.below k7).lit (by rw [otherL_len]; omega) (by have := k7.size; have := HTP.out; have := K5.out.size; omega)
          rw [HH.out.2.1, HL6.out] at cb
          have LOW := Lib.hid (S6.out.below k7).mineLow
          have B7 := Lib.hid (B6.out.trans (k7.mono B6.out.size))
          clear ch k7
          go_wp2_with fail
          refine cb.mono ?_
          rintro e w8 ⟨rfl, v8, s8, g8, k8⟩
          have B8 := Lib.hid (B7.out.trans (k8.below (B := w.heap.size) (fun j hj => by have := LOW.out j hj; have := HTP.out; omega) B7.out.size))
          have ch := holds_any tp v8 k L6 tp _ m w8 s8 (HM.out.below B8.out)
          rw [HH.out.2.2] at ch
          clear cb s8 g8 k8
          go_wp2_with fail
          refine ch.mono ?_
          rintro e w9 ⟨rfl, k9⟩
          have B9 := Lib.hid (B8.out.trans (k9.mono B8.out.size))
          have cw := awake_any w9
          clear ch k9
          go_wp2_with fail
          refine cw.mono ?_
          rintro e w10 ⟨rfl, k10⟩
          have B10 := Lib.hid (B9.out.trans (k10.mono B9.out.size))
          clear cw k10
          go_wp2_with fail
          go_ret
          exact ⟨rfl, B10.out⟩
    | false =>
      clear hles
      go_wp2_with fail
      refine cn.mono ?_
      rintro e w5 ⟨rfl, hs5, st, k5⟩
      have ST := Lib.hid st
      have K5 := Lib.hid (K4.out.trans (k5.mono K4.out.size))
      obtain ⟨tp, htp⟩ : ∃ tp, w4.heap.size = tp := ⟨_, rfl⟩
      rw [htp] at ST ⊢
      have HTP := Lib.hid htp
      have hbase := K4.out.size
      have h45 : tp ≤ w5.heap.size := by have := k5.size; have := HTP.out; omega
      clear cn st k5 hs5 htp
      go_wp2_with fail
      go_loopg [13, 14, 15] n1 (fun gf s13 s14 s15 wx => ∃ (k : Nat) (a1 : Option Addr) (c1 : Nat) (a2 : Option Addr) (c2 : Nat), s13 = .slice a1 k c1 ∧ s14 = .slice a2 k c2 ∧ s15 = .int .i64 ((k : Int) + 1) ∧ Hid (Lt wx w5.heap.size (.slice a1 k c1) (ownL m k)) ∧ Hid (Lt wx w5.heap.size (.slice a2 k c2) (otherL m k)) ∧ Hid (Apart (.slice a1 k c1) (.slice a2 k c2)) ∧ Hid (Below w5.heap.size w5 wx) ∧ k ≤ n1 ∧ n1 ≤ k + gf)
      case atStart => exact ⟨0, none, 0, none, 0, rfl, rfl, by go_num, Lib.hid (Lt.nil _ _), Lib.hid (Lt.nil _ _), Lib.hid (Apart.nil _), Lib.hid (Below.refl _ _), by omega, by omega⟩
      case round =>
        obtain ⟨k, a1, c1, a2, c2, rfl, rfl, rfl, HO1, HO2, HAP, HB, hkn, hfu⟩ := hrel
        by_cases hlt : k < n1
        · obtain ⟨g', rfl⟩ : ∃ g', gk = g' + 1 := ⟨gk - 1, by omega⟩
          have hle : ((k : Int) + 1) ≤ (n1 : Int) := by omega
          by_cases hkM : k < M
          · have hkM1 : ((k : Int) + 1) ≤ (M : Int) := by omega
            have hkM2 : (k : Int) < (M : Int) := by omega
            have hk0 : (0 : Int) ≤ k := by omega
            obtain ⟨y, hy⟩ : ∃ y, m[k]? = some y := ⟨m[k]'(by rw [HMM.out]; exact hkM), List.getElem?_eq_getElem _⟩
            obtain ⟨am, cm, em, _, _, hmr⟩ := HM.out
            rw [HMM.out] at em hmr
            simp only [Value.slice.injEq, true_and] at em
            obtain ⟨rfl, rfl⟩ := em
            obtain ⟨bm, om, rfl, hmc⟩ := hmr (by omega)
            have cmm := cell_on (hmc k y hy) (K5.out.trans (HB.out.mono K5.out.size))
            have hgy : m.getD k false = y := by rw [List.getD_eq_getElem?_getD, hy]; rfl
            clear hmr hmc hy hkM
            cases y with
            | true =>
              have HX := Lib.hid (show ownL m (k + 1) = ownL m k ++ [(k : Int) + 1] by unfold ownL; rw [if_pos hgy]; cases k <;> rfl)
              clear hgy
              have HY := Lib.hid (show otherL m (k + 1) = otherL m k ++ [-((k : Int) + 1)] by
                have h1 : (ownL m (k + 1)).map (fun z => -z) = (ownL m k).map (fun z => -z) ++ [-((k : Int) + 1)] := by rw [HX.out, List.map_append]; rfl
                show (ownL m (k + 1)).map (fun z => -z) = (ownL m k).map (fun z => -z) ++ [-((k : Int) + 1)]
                rw [h1, show -((k : Int) + 1) = -((k : Int) + 1) by omega])
              have g2 := (Below.refl wr.heap.size wr).alloc (Nat.le_refl _) (.cells #[.int .i64 ((k : Int) + 1)] 45)
              have i2 := Blk.Is.new wr 45 #[.int .i64 ((k : Int) + 1)]
              obtain ⟨W2, hW2⟩ : ∃ W2, wr.alloc (.cells #[.int .i64 ((k : Int) + 1)] 45) = W2 := ⟨_, rfl⟩
              rw [hW2] at g2 i2
              have O1 := Lib.hid (HO1.out.below g2)
              have O2 := Lib.hid (HO2.out.below g2)
              have SRC := Lib.hid (lit_on i2)
              have BW := Lib.hid (HB.out.trans (g2.mono HB.out.size))
              have hsz := BW.out.size
              obtain ⟨i0, hi, hz0, hz1, hz2⟩ := info_parts infoLit
              have HI := Lib.hid hi
              have OW := O1.out.2
              rw [ownL_len] at OW
              have OWN := Lib.hid OW
              have hu := hW2
              clear g2 i2 hW2 hi OW HO1 HO2 HB
              go_wp2_with (at_builtin; refine wpList_append4 rfl (.tmp 67) (.tmp 69) 22 22 rfl w5.heap.size 45 i0 _ 1 8 Try.underlying22 HI.out hz0 hz1 hz2 rfl _ k _ rfl OWN.out _ 1 (lcells [(k : Int) + 1]) rfl SRC.out ?_ ?_ hsz ?_)
              · simp only [maxLen]; omega
              · omega
              intro v7 w7 o7 g7 q7
              have hch : Blk.Chg (fun j => (Value.slice a1 k c1).ownBlock = some j) W2 w7 := (Blk.Chg.refl _ _).grown g7 (fun g hg _ => hg)
              have h2 := O2.out.chg hch fun j hj hj2 => HAP.out j hj2 hj
              have h1 : Lt w7 w5.heap.size v7 (ownL m (k + 1)) := by
                rw [HX.out]
                exact lt_more O1.out (by unfold I64; omega) (by rw [ownL_len]; exact o7)
              have ap : Apart (.slice a2 k c2) v7 := HAP.out.symm.grow (w := W2) (fun j hj => q7 j hj) (fun j hj => (own_lt O2.out.2 hj).2)
              have bw : Below w5.heap.size w5 w7 := Own.below_grown BW.out O1.out.2 g7 hsz
              obtain ⟨a7, c7, rfl, _⟩ := own_shape o7
              have P1 := Lib.hid h1
              have P2 := Lib.hid h2
              have PA := Lib.hid ap
              have PB := Lib.hid bw
              clear o7 g7 q7 hch h1 h2 ap bw O1 O2 SRC BW OWN hsz HI hu HAP
              have g2 := (Below.refl w7.heap.size w7).alloc (Nat.le_refl _) (.cells #[.int .i64 (-((k : Int) + 1))] 45)
              have i2 := Blk.Is.new w7 45 #[.int .i64 (-((k : Int) + 1))]
              obtain ⟨W2, hW2⟩ : ∃ W2, w7.alloc (.cells #[.int .i64 (-((k : Int) + 1))] 45) = W2 := ⟨_, rfl⟩
              rw [hW2] at g2 i2
              have O1 := Lib.hid (P1.out.below g2)
              have O2 := Lib.hid (P2.out.below g2)
              have SRC := Lib.hid (lit_on i2)
              have BW := Lib.hid (PB.out.trans (g2.mono PB.out.size))
              have hsz := BW.out.size
              obtain ⟨i0, hi, hz0, hz1, hz2⟩ := info_parts infoLit
              have HI := Lib.hid hi
              have OW := O2.out.2
              rw [otherL_len] at OW
              have OWN := Lib.hid OW
              have hu := hW2
              clear g2 i2 hW2 hi OW P1 P2 PB
              go_wp2_with (at_builtin; refine wpList_append4 rfl (.tmp 71) (.tmp 74) 22 22 rfl w5.heap.size 45 i0 _ 1 8 Try.underlying22 HI.out hz0 hz1 hz2 rfl _ k _ rfl OWN.out _ 1 (lcells [-((k : Int) + 1)]) rfl SRC.out ?_ ?_ hsz ?_)
              · simp only [maxLen]; omega
              · omega
              intro v8 w8 o8 g8 q8
              have hch : Blk.Chg (fun j => (Value.slice a2 k c2).ownBlock = some j) W2 w8 := (Blk.Chg.refl _ _).grown g8 (fun g hg _ => hg)
              have h1 := O1.out.chg hch fun j hj hj2 => PA.out j hj2 hj
              have h2 : Lt w8 w5.heap.size v8 (otherL m (k + 1)) := by
                rw [HY.out]
                exact lt_more O2.out (by unfold I64; omega) (by rw [otherL_len]; exact o8)
              have ap : Apart (.slice a7 (k + 1) c7) v8 := PA.out.symm.grow (w := W2) (fun j hj => q8 j hj) (fun j hj => (own_lt O1.out.2 hj).2)
              have bw : Below w5.heap.size w5 w8 := Own.below_grown BW.out O2.out.2 g8 hsz
              obtain ⟨a8, c8, rfl, _⟩ := own_shape o8
              have P1 := Lib.hid h1
              have P2 := Lib.hid h2
              have PA2 := Lib.hid ap
              have PB := Lib.hid bw
              clear o8 g8 q8 hch h1 h2 ap bw O1 O2 SRC BW OWN hsz HI hu PA
              go_wp2_with fail
              go_roundg g'
              case measure => omega
              case rel => exact ⟨k + 1, a7, c7, a8, c8, rfl, rfl, by go_num, P1, P2, PA2, PB, by omega, by omega⟩
            | false =>
              have HX := Lib.hid (show ownL m (k + 1) = ownL m k ++ [-((k : Int) + 1)] by unfold ownL; rw [if_neg (by rw [hgy]; decide)]; cases k <;> rfl)
              clear hgy
              have HY := Lib.hid (show otherL m (k + 1) = otherL m k ++ [(k : Int) + 1] by
                have h1 : (ownL m (k + 1)).map (fun z => -z) = (ownL m k).map (fun z => -z) ++ [-(-((k : Int) + 1))] := by rw [HX.out, List.map_append]; rfl
                show (ownL m (k + 1)).map (fun z => -z) = (ownL m k).map (fun z => -z) ++ [(k : Int) + 1]
                rw [h1, show -(-((k : Int) + 1)) = (k : Int) + 1 by omega])
              have g2 := (Below.refl wr.heap.size wr).alloc (Nat.le_refl _) (.cells #[.int .i64 (-((k : Int) + 1))] 45)
              have i2 := Blk.Is.new wr 45 #[.int .i64 (-((k : Int) + 1))]
              obtain ⟨W2, hW2⟩ : ∃ W2, wr.alloc (.cells #[.int .i64 (-((k : Int) + 1))] 45) = W2 := ⟨_, rfl⟩
              rw [hW2] at g2 i2
              have O1 := Lib.hid (HO1.out.below g2)
              have O2 := Lib.hid (HO2.out.below g2)
              have SRC := Lib.hid (lit_on i2)
              have BW := Lib.hid (HB.out.trans (g2.mono HB.out.size))
              have hsz := BW.out.size
              obtain ⟨i0, hi, hz0, hz1, hz2⟩ := info_parts infoLit
              have HI := Lib.hid hi
              have OW := O1.out.2
              rw [ownL_len] at OW
              have OWN := Lib.hid OW
              have hu := hW2
              clear g2 i2 hW2 hi OW HO1 HO2 HB
              go_wp2_with (at_builtin; refine wpList_append4 rfl (.tmp 67) (.tmp 69) 22 22 rfl w5.heap.size 45 i0 _ 1 8 Try.underlying22 HI.out hz0 hz1 hz2 rfl _ k _ rfl OWN.out _ 1 (lcells [-((k : Int) + 1)]) rfl SRC.out ?_ ?_ hsz ?_)
              · simp only [maxLen]; omega
              · omega
              intro v7 w7 o7 g7 q7
              have hch : Blk.Chg (fun j => (Value.slice a1 k c1).ownBlock = some j) W2 w7 := (Blk.Chg.refl _ _).grown g7 (fun g hg _ => hg)
              have h2 := O2.out.chg hch fun j hj hj2 => HAP.out j hj2 hj
              have h1 : Lt w7 w5.heap.size v7 (ownL m (k + 1)) := by
                rw [HX.out]
                exact lt_more O1.out (by unfold I64; omega) (by rw [ownL_len]; exact o7)
              have ap : Apart (.slice a2 k c2) v7 := HAP.out.symm.grow (w := W2) (fun j hj => q7 j hj) (fun j hj => (own_lt O2.out.2 hj).2)
              have bw : Below w5.heap.size w5 w7 := Own.below_grown BW.out O1.out.2 g7 hsz
              obtain ⟨a7, c7, rfl, _⟩ := own_shape o7
              have P1 := Lib.hid h1
              have P2 := Lib.hid h2
              have PA := Lib.hid ap
              have PB := Lib.hid bw
              clear o7 g7 q7 hch h1 h2 ap bw O1 O2 SRC BW OWN hsz HI hu HAP
              have g2 := (Below.refl w7.heap.size w7).alloc (Nat.le_refl _) (.cells #[.int .i64 ((k : Int) + 1)] 45)
              have i2 := Blk.Is.new w7 45 #[.int .i64 ((k : Int) + 1)]
              obtain ⟨W2, hW2⟩ : ∃ W2, w7.alloc (.cells #[.int .i64 ((k : Int) + 1)] 45) = W2 := ⟨_, rfl⟩
              rw [hW2] at g2 i2
              have O1 := Lib.hid (P1.out.below g2)
              have O2 := Lib.hid (P2.out.below g2)
              have SRC := Lib.hid (lit_on i2)
              have BW := Lib.hid (PB.out.trans (g2.mono PB.out.size))
              have hsz := BW.out.size
              obtain ⟨i0, hi, hz0, hz1, hz2⟩ := info_parts infoLit
              have HI := Lib.hid hi
              have OW := O2.out.2
              rw [otherL_len] at OW
              have OWN := Lib.hid OW
              have hu := hW2
              clear g2 i2 hW2 hi OW P1 P2 PB
              go_wp2_with (at_builtin; refine wpList_append4 rfl (.tmp 71) (.tmp 74) 22 22 rfl w5.heap.size 45 i0 _ 1 8 Try.underlying22 HI.out hz0 hz1 hz2 rfl _ k _ rfl OWN.out _ 1 (lcells [(k : Int) + 1]) rfl SRC.out ?_ ?_ hsz ?_)
              · simp only [maxLen]; omega
              · omega
              intro v8 w8 o8 g8 q8
              have hch : Blk.Chg (fun j => (Value.slice a2 k c2).ownBlock = some j) W2 w8 := (Blk.Chg.refl _ _).grown g8 (fun g hg _ => hg)
              have h1 := O1.out.chg hch fun j hj hj2 => PA.out j hj2 hj
              have h2 : Lt w8 w5.heap.size v8 (otherL m (k + 1)) := by
                rw [HY.out]
                exact lt_more O2.out (by unfold I64; omega) (by rw [otherL_len]; exact o8)
              have ap : Apart (.slice a7 (k + 1) c7) v8 := PA.out.symm.grow (w := W2) (fun j hj => q8 j hj) (fun j hj => (own_lt O1.out.2 hj).2)
              have bw : Below w5.heap.size w5 w8 := Own.below_grown BW.out O2.out.2 g8 hsz
              obtain ⟨a8, c8, rfl, _⟩ := own_shape o8
              have P1 := Lib.hid h1
              have P2 := Lib.hid h2
              have PA2 := Lib.hid ap
              have PB := Lib.hid bw
              clear o8 g8 q8 hch h1 h2 ap bw O1 O2 SRC BW OWN hsz HI hu PA
              go_wp2_with fail
              go_roundg g'
              case measure => omega
              case rel => exact ⟨k + 1, a7, c7, a8, c8, rfl, rfl, by go_num, P1, P2, PA2, PB, by omega, by omega⟩
          · have hkM1 : ¬ (((k : Int) + 1) ≤ (M : Int)) := by omega
            have hgy : m.getD k false = false := by rw [List.getD_eq_getElem?_getD, List.getElem?_eq_none (by rw [HMM.out]; omega)]; rfl
            have HX := Lib.hid (show ownL m (k + 1) = ownL m k ++ [-((k : Int) + 1)] by unfold ownL; rw [if_neg (by rw [hgy]; decide)]; cases k <;> rfl)
            clear hgy hkM
            have HY := Lib.hid (show otherL m (k + 1) = otherL m k ++ [(k : Int) + 1] by
              have h1 : (ownL m (k + 1)).map (fun z => -z) = (ownL m k).map (fun z => -z) ++ [-(-((k : Int) + 1))] := by rw [HX.out, List.map_append]; rfl
              show (ownL m (k + 1)).map (fun z => -z) = (ownL m k).map (fun z => -z) ++ [(k : Int) + 1]
              rw [h1, show -(-((k : Int) + 1)) = (k : Int) + 1 by omega])
            have g2 := (Below.refl wr.heap.size wr).alloc (Nat.le_refl _) (.cells #[.int .i64 (-((k : Int) + 1))] 45)
            have i2 := Blk.Is.new wr 45 #[.int .i64 (-((k : Int) + 1))]
            obtain ⟨W2, hW2⟩ : ∃ W2, wr.alloc (.cells #[.int .i64 (-((k : Int) + 1))] 45) = W2 := ⟨_, rfl⟩
            rw [hW2] at g2 i2
            have O1 := Lib.hid (HO1.out.below g2)
            have O2 := Lib.hid (HO2.out.below g2)
            have SRC := Lib.hid (lit_on i2)
            have BW := Lib.hid (HB.out.trans (g2.mono HB.out.size))
            have hsz := BW.out.size
            obtain ⟨i0, hi, hz0, hz1, hz2⟩ := info_parts infoLit
            have HI := Lib.hid hi
            have OW := O1.out.2
            rw [ownL_len] at OW
            have OWN := Lib.hid OW
            have hu := hW2
            clear g2 i2 hW2 hi OW HO1 HO2 HB
            go_wp2_with (at_builtin; refine wpList_append4 rfl (.tmp 67) (.tmp 69) 22 22 rfl w5.heap.size 45 i0 _ 1 8 Try.underlying22 HI.out hz0 hz1 hz2 rfl _ k _ rfl OWN.out _ 1 (lcells [-((k : Int) + 1)]) rfl SRC.out ?_ ?_ hsz ?_)
            · simp only [maxLen]; omega
            · omega
            intro v7 w7 o7 g7 q7
            have hch : Blk.Chg (fun j => (Value.slice a1 k c1).ownBlock = some j) W2 w7 := (Blk.Chg.refl _ _).grown g7 (fun g hg _ => hg)
            have h2 := O2.out.chg hch fun j hj hj2 => HAP.out j hj2 hj
            have h1 : Lt w7 w5.heap.size v7 (ownL m (k + 1)) := by
              rw [HX.out]
              exact lt_more O1.out (by unfold I64; omega) (by rw [ownL_len]; exact o7)
            have ap : Apart (.slice a2 k c2) v7 := HAP.out.symm.grow (w := W2) (fun j hj => q7 j hj) (fun j hj => (own_lt O2.out.2 hj).2)
            have bw : Below w5.heap.size w5 w7 := Own.below_grown BW.out O1.out.2 g7 hsz
            obtain ⟨a7, c7, rfl, _⟩ := own_shape o7
            have P1 := Lib.hid h1
            have P2 := Lib.hid h2
            have PA := Lib.hid ap
            have PB := Lib.hid bw
            clear o7 g7 q7 hch h1 h2 ap bw O1 O2 SRC BW OWN hsz HI hu HAP
            have g2 := (Below.refl w7.heap.size w7).alloc (Nat.le_refl _) (.cells #[.int .i64 ((k : Int) + 1)] 45)
            have i2 := Blk.Is.new w7 45 #[.int .i64 ((k : Int) + 1)]
            obtain ⟨W2, hW2⟩ : ∃ W2, w7.alloc (.cells #[.int .i64 ((k : Int) + 1)] 45) = W2 := ⟨_, rfl⟩
            rw [hW2] at g2 i2
            have O1 := Lib.hid (P1.out.below g2)
            have O2 := Lib.hid (P2.out.below g2)
            have SRC := Lib.hid (lit_on i2)
            have BW := Lib.hid (PB.out.trans (g2.mono PB.out.size))
            have hsz := BW.out.size
            obtain ⟨i0, hi, hz0, hz1, hz2⟩ := info_parts infoLit
            have HI := Lib.hid hi
            have OW := O2.out.2
            rw [otherL_len] at OW
            have OWN := Lib.hid OW
            have hu := hW2
            clear g2 i2 hW2 hi OW P1 P2 PB
            go_wp2_with (at_builtin; refine wpList_append4 rfl (.tmp 71) (.tmp 74) 22 22 rfl w5.heap.size 45 i0 _ 1 8 Try.underlying22 HI.out hz0 hz1 hz2 rfl _ k _ rfl OWN.out _ 1 (lcells [(k : Int) + 1]) rfl SRC.out ?_ ?_ hsz ?_)
            · simp only [maxLen]; omega
            · omega
            intro v8 w8 o8 g8 q8
            have hch : Blk.Chg (fun j => (Value.slice a2 k c2).ownBlock = some j) W2 w8 := (Blk.Chg.refl _ _).grown g8 (fun g hg _ => hg)
            have h1 := O1.out.chg hch fun j hj hj2 => PA.out j hj2 hj
            have h2 : Lt w8 w5.heap.size v8 (otherL m (k + 1)) := by
              rw [HY.out]
              exact lt_more O2.out (by unfold I64; omega) (by rw [otherL_len]; exact o8)
            have ap : Apart (.slice a7 (k + 1) c7) v8 := PA.out.symm.grow (w := W2) (fun j hj => q8 j hj) (fun j hj => (own_lt O1.out.2 hj).2)
            have bw : Below w5.heap.size w5 w8 := Own.below_grown BW.out O2.out.2 g8 hsz
            obtain ⟨a8, c8, rfl, _⟩ := own_shape o8
            have P1 := Lib.hid h1
            have P2 := Lib.hid h2
            have PA2 := Lib.hid ap
            have PB := Lib.hid bw
            clear o8 g8 q8 hch h1 h2 ap bw O1 O2 SRC BW OWN hsz HI hu PA
            go_wp2_with fail
            go_roundg g'
            case measure => omega
            case rel => exact ⟨k + 1, a7, c7, a8, c8, rfl, rfl, by go_num, P1, P2, PA2, PB, by omega, by omega⟩
        · obtain rfl : k = n1 := by omega
          have hge : ¬ (((k : Int) + 1) ≤ (k : Int)) := by omega
          have ST2 := Lib.hid (ST.out.below (w' := wr) HB.out)
          have ca := add_any ST2.out (.slice a1 k c1) (ownL m k) HO1.out.lit (by rw [ownL_len]; omega) (by have := HB.out.size; have := HTP.out; have := K5.out.size; omega)
          have hm1 := more_own (m := m) (n := k) (by omega)
          have hm2 := more_other (m := m) (n := k) (by omega)
          rw [hm1.1] at ca
          obtain ⟨L5, hL5⟩ : ∃ L5, adds k [] (ownL m k) = L5 := ⟨_, rfl⟩
          rw [hL5] at ca hm1 hm2
          obtain ⟨L6, hL6⟩ : ∃ L6, adds k L5 (otherL m k) = L6 := ⟨_, rfl⟩
          rw [hL6] at hm2
          have HH := Lib.hid (And.intro hm1.2 hm2)
          have HL6 := Lib.hid hL6
          clear hm1 hm2 hL5 hL6
          go_wp2_with fail
          refine ca.mono ?_
          rintro e w6 ⟨rfl, v6, s6, g6, k6⟩
          have hw56 : w5.heap.size ≤ w6.heap.size := by have := HB.out.size; have := k6.size; omega
          have h26 := HO2.out.chg k6 fun j hj => by
            obtain ⟨cs, hcs⟩ := HO2.out.is hj
            exact ST2.out.mineLit (by decide) j cs hcs
          have B6 := Lib.hid (show Below w.heap.size w w6 from (K5.out.trans (HB.out.mono K5.out.size)).trans (k6.below (B := w.heap.size) (fun j hj => by have := ST2.out.mineLow j hj; have := HTP.out; omega) (by have := K5.out.size; have := HB.out.size; omega)))
          have ch := holds_any tp v6 k L5 tp _ m w6 s6 (HM.out.below B6.out)
          rw [HH.out.1] at ch
          have S6 := Lib.hid s6
          have O6 := Lib.hid h26
          clear ca s6 g6 k6 h26
          go_wp2_with fail
          refine ch.mono ?_
          rintro e w7 ⟨rfl, k7⟩
          have cb := add_any (S6.out.below k7) (.slice a2 k c2) (otherL m k) (O6.out.below k7).lit (by rw [otherL_len]; omega) (by have := k7.size; have := HTP.out; have := K5.out.size; omega)
          rw [HH.out.2.1, HL6.out] at cb
          have LOW := Lib.hid (S6.out.below k7).mineLow
          have B7 := Lib.hid (B6.out.trans (k7.mono B6.out.size))
          clear ch k7
          go_wp2_with fail
          refine cb.mono ?_
          rintro e w8 ⟨rfl, v8, s8, g8, k8⟩
          have B8 := Lib.hid (B7.out.trans (k8.below (B := w.heap.size) (fun j hj => by have := LOW.out j hj; have := HTP.out; omega) B7.out.size))
          have ch := holds_any tp v8 k L6 tp _ m w8 s8 (HM.out.below B8.out)
          rw [HH.out.2.2] at ch
          clear cb s8 g8 k8
          go_wp2_with fail
          refine ch.mono ?_
          rintro e w9 ⟨rfl, k9⟩
          have B9 := Lib.hid (B8.out.trans (k9.mono B8.out.size))
          have cw := awake_any w9
          clear ch k9
          go_wp2_with fail
          refine cw.mono ?_
          rintro e w10 ⟨rfl, k10⟩
          have B10 := Lib.hid (B9.out.trans (k10.mono B9.out.size))
          clear cw k10
          go_wp2_with fail
          go_ret
          exact ⟨rfl, B10.out⟩
  · have g20 : (C : Int) > 20 := by omega
    have hx20 : (20 : Int) ≤ xc := by omega
    obtain ⟨b, off, rfl, hcell⟩ := HXR.out (by omega)
    have hlen : (c.take 20).length = 20 := by rw [List.length_take, HCL.out]; omega
    have HCC : Hid (LitV w (.slice (some ⟨b, off, none⟩) 20 xc) (c.take 20)) := Lib.hid ⟨fun z hz => HZ.out z (List.mem_of_mem_take hz), _, xc, by rw [hlen], by rw [hlen]; omega, hxc2, by simp, fun _ => ⟨b, off, rfl, fun i x hx => hcell i x (by
      rw [List.getElem?_take] at hx
      split at hx
      · exact hx
      · cases hx)⟩⟩
    have hcl : (c.take 20).length ≤ 20 := by rw [hlen]; omega
    obtain ⟨c2, hc2⟩ : ∃ c2, c.take 20 = c2 := ⟨_, rfl⟩
    rw [hc2] at HCC hcl
    clear hc2 hcell hlen
    have ca := add_any CS2.out (.slice (some ⟨b, off, none⟩) 20 xc) c2 (HCC.out.below K2.out) (by omega) K2.out.size
    obtain ⟨Ga, hGa⟩ : ∃ Ga, takes n1 L c2 = Ga := ⟨_, rfl⟩
    obtain ⟨L2, hL2⟩ : ∃ L2, adds n1 L c2 = L2 := ⟨_, rfl⟩
    rw [hGa, hL2] at ca
    have HL2 := Lib.hid hL2
    clear hGa hL2 h20
    go_wp2_with fail
    
    refine ca.mono ?_
    rintro e w3 ⟨rfl, v3, s3, g3, k3⟩
    have CS3 := Lib.hid s3
    have K3 := Lib.hid (K2.out.trans (k3.below (B := w.heap.size) (fun k hk => CS2.out.mineLow k hk) K2.out.size))
    obtain ⟨G3, hG3⟩ : ∃ G3, holds m L2 = G3 := ⟨_, rfl⟩
    have ch := holds_any p v3 n1 L2 w.heap.size _ m w3 s3 (HM.out.below K3.out)
    rw [hG3] at ch
    have hles : G3 = true → G = true := fun h => by
      rw [← HG.out]
      rw [← hG3, ← HL2.out] at h
      exact more_less h
    clear ca s3 g3 k3 CS2 hG3
    go_wp2_with fail
    refine ch.mono ?_
    rintro e w4 ⟨rfl, k4⟩
    have K4 := Lib.hid (K3.out.trans (k4.mono K3.out.size))
    clear ch k4 CS3
    have cn := new_any n1 w4
    rw [hv1] at cn
    cases G3 with
    | true =>
      obtain rfl : G = true := hles rfl
      clear hles
      go_wp2_with fail
      refine cn.mono ?_
      rintro e w5 ⟨rfl, hs5, st, k5⟩
      have ST := Lib.hid st
      have K5 := Lib.hid (K4.out.trans (k5.mono K4.out.size))
      obtain ⟨tp, htp⟩ : ∃ tp, w4.heap.size = tp := ⟨_, rfl⟩
      rw [htp] at ST ⊢
      have HTP := Lib.hid htp
      have hbase := K4.out.size
      have h45 : tp ≤ w5.heap.size := by have := k5.size; have := HTP.out; omega
      clear cn st k5 hs5 htp
      go_wp2_with fail
      go_loopg [13, 14, 15] n1 (fun gf s13 s14 s15 wx => ∃ (k : Nat) (a1 : Option Addr) (c1 : Nat) (a2 : Option Addr) (c2 : Nat), s13 = .slice a1 k c1 ∧ s14 = .slice a2 k c2 ∧ s15 = .int .i64 ((k : Int) + 1) ∧ Hid (Lt wx w5.heap.size (.slice a1 k c1) (ownL m k)) ∧ Hid (Lt wx w5.heap.size (.slice a2 k c2) (otherL m k)) ∧ Hid (Apart (.slice a1 k c1) (.slice a2 k c2)) ∧ Hid (Below w5.heap.size w5 wx) ∧ k ≤ n1 ∧ n1 ≤ k + gf)
      case atStart => exact ⟨0, none, 0, none, 0, rfl, rfl, by go_num, Lib.hid (Lt.nil _ _), Lib.hid (Lt.nil _ _), Lib.hid (Apart.nil _), Lib.hid (Below.refl _ _), by omega, by omega⟩
      case round =>
        obtain ⟨k, a1, c1, a2, c2, rfl, rfl, rfl, HO1, HO2, HAP, HB, hkn, hfu⟩ := hrel
        by_cases hlt : k < n1
        · obtain ⟨g', rfl⟩ : ∃ g', gk = g' + 1 := ⟨gk - 1, by omega⟩
          have hle : ((k : Int) + 1) ≤ (n1 : Int) := by omega
          by_cases hkM : k < M
          · have hkM1 : ((k : Int) + 1) ≤ (M : Int) := by omega
            have hkM2 : (k : Int) < (M : Int) := by omega
            have hk0 : (0 : Int) ≤ k := by omega
            obtain ⟨y, hy⟩ : ∃ y, m[k]? = some y := ⟨m[k]'(by rw [HMM.out]; exact hkM), List.getElem?_eq_getElem _⟩
            obtain ⟨am, cm, em, _, _, hmr⟩ := HM.out
            rw [HMM.out] at em hmr
            simp only [Value.slice.injEq, true_and] at em
            obtain ⟨rfl, rfl⟩ := em
            obtain ⟨bm, om, rfl, hmc⟩ := hmr (by omega)
            have cmm := cell_on (hmc k y hy) (K5.out.trans (HB.out.mono K5.out.size))
            have hgy : m.getD k false = y := by rw [List.getD_eq_getElem?_getD, hy]; rfl
            clear hmr hmc hy hkM
            cases y with
            | true =>
              have HX := Lib.hid (show ownL m (k + 1) = ownL m k ++ [(k : Int) + 1] by unfold ownL; rw [if_pos hgy]; cases k <;> rfl)
              clear hgy
              have HY := Lib.hid (show otherL m (k + 1) = otherL m k ++ [-((k : Int) + 1)] by
                have h1 : (ownL m (k + 1)).map (fun z => -z) = (ownL m k).map (fun z => -z) ++ [-((k : Int) + 1)] := by rw [HX.out, List.map_append]; rfl
                show (ownL m (k + 1)).map (fun z => -z) = (ownL m k).map (fun z => -z) ++ [-((k : Int) + 1)]
                rw [h1, show -((k : Int) + 1) = -((k : Int) + 1) by omega])
              have g2 := (Below.refl wr.heap.size wr).alloc (Nat.le_refl _) (.cells #[.int .i64 ((k : Int) + 1)] 45)
              have i2 := Blk.Is.new wr 45 #[.int .i64 ((k : Int) + 1)]
              obtain ⟨W2, hW2⟩ : ∃ W2, wr.alloc (.cells #[.int .i64 ((k : Int) + 1)] 45) = W2 := ⟨_, rfl⟩
              rw [hW2] at g2 i2
              have O1 := Lib.hid (HO1.out.below g2)
              have O2 := Lib.hid (HO2.out.below g2)
              have SRC := Lib.hid (lit_on i2)
              have BW := Lib.hid (HB.out.trans (g2.mono HB.out.size))
              have hsz := BW.out.size
              obtain ⟨i0, hi, hz0, hz1, hz2⟩ := info_parts infoLit
              have HI := Lib.hid hi
              have OW := O1.out.2
              rw [ownL_len] at OW
              have OWN := Lib.hid OW
              have hu := hW2
              clear g2 i2 hW2 hi OW HO1 HO2 HB
              go_wp2_with (at_builtin; refine wpList_append4 rfl (.tmp 67) (.tmp 69) 22 22 rfl w5.heap.size 45 i0 _ 1 8 Try.underlying22 HI.out hz0 hz1 hz2 rfl _ k _ rfl OWN.out _ 1 (lcells [(k : Int) + 1]) rfl SRC.out ?_ ?_ hsz ?_)
              · simp only [maxLen]; omega
              · omega
              intro v7 w7 o7 g7 q7
              have hch : Blk.Chg (fun j => (Value.slice a1 k c1).ownBlock = some j) W2 w7 := (Blk.Chg.refl _ _).grown g7 (fun g hg _ => hg)
              have h2 := O2.out.chg hch fun j hj hj2 => HAP.out j hj2 hj
              have h1 : Lt w7 w5.heap.size v7 (ownL m (k + 1)) := by
                rw [HX.out]
                exact lt_more O1.out (by unfold I64; omega) (by rw [ownL_len]; exact o7)
              have ap : Apart (.slice a2 k c2) v7 := HAP.out.symm.grow (w := W2) (fun j hj => q7 j hj) (fun j hj => (own_lt O2.out.2 hj).2)
              have bw : Below w5.heap.size w5 w7 := Own.below_grown BW.out O1.out.2 g7 hsz
              obtain ⟨a7, c7, rfl, _⟩ := own_shape o7
              have P1 := Lib.hid h1
              have P2 := Lib.hid h2
              have PA := Lib.hid ap
              have PB := Lib.hid bw
              clear o7 g7 q7 hch h1 h2 ap bw O1 O2 SRC BW OWN hsz HI hu HAP
              have g2 := (Below.refl w7.heap.size w7).alloc (Nat.le_refl _) (.cells #[.int .i64 (-((k : Int) + 1))] 45)
              have i2 := Blk.Is.new w7 45 #[.int .i64 (-((k : Int) + 1))]
              obtain ⟨W2, hW2⟩ : ∃ W2, w7.alloc (.cells #[.int .i64 (-((k : Int) + 1))] 45) = W2 := ⟨_, rfl⟩
              rw [hW2] at g2 i2
              have O1 := Lib.hid (P1.out.below g2)
              have O2 := Lib.hid (P2.out.below g2)
              have SRC := Lib.hid (lit_on i2)
              have BW := Lib.hid (PB.out.trans (g2.mono PB.out.size))
              have hsz := BW.out.size
              obtain ⟨i0, hi, hz0, hz1, hz2⟩ := info_parts infoLit
              have HI := Lib.hid hi
              have OW := O2.out.2
              rw [otherL_len] at OW
              have OWN := Lib.hid OW
              have hu := hW2
              clear g2 i2 hW2 hi OW P1 P2 PB
              go_wp2_with (at_builtin; refine wpList_append4 rfl (.tmp 71) (.tmp 74) 22 22 rfl w5.heap.size 45 i0 _ 1 8 Try.underlying22 HI.out hz0 hz1 hz2 rfl _ k _ rfl OWN.out _ 1 (lcells [-((k : Int) + 1)]) rfl SRC.out ?_ ?_ hsz ?_)
              · simp only [maxLen]; omega
              · omega
              intro v8 w8 o8 g8 q8
              have hch : Blk.Chg (fun j => (Value.slice a2 k c2).ownBlock = some j) W2 w8 := (Blk.Chg.refl _ _).grown g8 (fun g hg _ => hg)
              have h1 := O1.out.chg hch fun j hj hj2 => PA.out j hj2 hj
              have h2 : Lt w8 w5.heap.size v8 (otherL m (k + 1)) := by
                rw [HY.out]
                exact lt_more O2.out (by unfold I64; omega) (by rw [otherL_len]; exact o8)
              have ap : Apart (.slice a7 (k + 1) c7) v8 := PA.out.symm.grow (w := W2) (fun j hj => q8 j hj) (fun j hj => (own_lt O1.out.2 hj).2)
              have bw : Below w5.heap.size w5 w8 := Own.below_grown BW.out O2.out.2 g8 hsz
              obtain ⟨a8, c8, rfl, _⟩ := own_shape o8
              have P1 := Lib.hid h1
              have P2 := Lib.hid h2
              have PA2 := Lib.hid ap
              have PB := Lib.hid bw
              clear o8 g8 q8 hch h1 h2 ap bw O1 O2 SRC BW OWN hsz HI hu PA
              go_wp2_with fail
              go_roundg g'
              case measure => omega
              case rel => exact ⟨k + 1, a7, c7, a8, c8, rfl, rfl, by go_num, P1, P2, PA2, PB, by omega, by omega⟩
            | false =>
              have HX := Lib.hid (show ownL m (k + 1) = ownL m k ++ [-((k : Int) + 1)] by unfold ownL; rw [if_neg (by rw [hgy]; decide)]; cases k <;> rfl)
              clear hgy
              have HY := Lib.hid (show otherL m (k + 1) = otherL m k ++ [(k : Int) + 1] by
                have h1 : (ownL m (k + 1)).map (fun z => -z) = (ownL m k).map (fun z => -z) ++ [-(-((k : Int) + 1))] := by rw [HX.out, List.map_append]; rfl
                show (ownL m (k + 1)).map (fun z => -z) = (ownL m k).map (fun z => -z) ++ [(k : Int) + 1]
                rw [h1, show -(-((k : Int) + 1)) = (k : Int) + 1 by omega])
              have g2 := (Below.refl wr.heap.size wr).alloc (Nat.le_refl _) (.cells #[.int .i64 (-((k : Int) + 1))] 45)
              have i2 := Blk.Is.new wr 45 #[.int .i64 (-((k : Int) + 1))]
              obtain ⟨W2, hW2⟩ : ∃ W2, wr.alloc (.cells #[.int .i64 (-((k : Int) + 1))] 45) = W2 := ⟨_, rfl⟩
              rw [hW2] at g2 i2
              have O1 := Lib.hid (HO1.out.below g2)
              have O2 := Lib.hid (HO2.out.below g2)
              have SRC := Lib.hid (lit_on i2)
              have BW := Lib.hid (HB.out.trans (g2.mono HB.out.size))
              have hsz := BW.out.size
              obtain ⟨i0, hi, hz0, hz1, hz2⟩ := info_parts infoLit
              have HI := Lib.hid hi
              have OW := O1.out.2
              rw [ownL_len] at OW
              have OWN := Lib.hid OW
              have hu := hW2
              clear g2 i2 hW2 hi OW HO1 HO2 HB
              go_wp2_with (at_builtin; refine wpList_append4 rfl (.tmp 67) (.tmp 69) 22 22 rfl w5.heap.size 45 i0 _ 1 8 Try.underlying22 HI.out hz0 hz1 hz2 rfl _ k _ rfl OWN.out _ 1 (lcells [-((k : Int) + 1)]) rfl SRC.out ?_ ?_ hsz ?_)
              · simp only [maxLen]; omega
              · omega
              intro v7 w7 o7 g7 q7
              have hch : Blk.Chg (fun j => (Value.slice a1 k c1).ownBlock = some j) W2 w7 := (Blk.Chg.refl _ _).grown g7 (fun g hg _ => hg)
              have h2 := O2.out.chg hch fun j hj hj2 => HAP.out j hj2 hj
              have h1 : Lt w7 w5.heap.size v7 (ownL m (k + 1)) := by
                rw [HX.out]
                exact lt_more O1.out (by unfold I64; omega) (by rw [ownL_len]; exact o7)
              have ap : Apart (.slice a2 k c2) v7 := HAP.out.symm.grow (w := W2) (fun j hj => q7 j hj) (fun j hj => (own_lt O2.out.2 hj).2)
              have bw : Below w5.heap.size w5 w7 := Own.below_grown BW.out O1.out.2 g7 hsz
              obtain ⟨a7, c7, rfl, _⟩ := own_shape o7
              have P1 := Lib.hid h1
              have P2 := Lib.hid h2
              have PA := Lib.hid ap
              have PB := Lib.hid bw
              clear o7 g7 q7 hch h1 h2 ap bw O1 O2 SRC BW OWN hsz HI hu HAP
              have g2 := (Below.refl w7.heap.size w7).alloc (Nat.le_refl _) (.cells #[.int .i64 ((k : Int) + 1)] 45)
              have i2 := Blk.Is.new w7 45 #[.int .i64 ((k : Int) + 1)]
              obtain ⟨W2, hW2⟩ : ∃ W2, w7.alloc (.cells #[.int .i64 ((k : Int) + 1)] 45) = W2 := ⟨_, rfl⟩
              rw [hW2] at g2 i2
              have O1 := Lib.hid (P1.out.below g2)
              have O2 := Lib.hid (P2.out.below g2)
              have SRC := Lib.hid (lit_on i2)
              have BW := Lib.hid (PB.out.trans (g2.mono PB.out.size))
              have hsz := BW.out.size
              obtain ⟨i0, hi, hz0, hz1, hz2⟩ := info_parts infoLit
              have HI := Lib.hid hi
              have OW := O2.out.2
              rw [otherL_len] at OW
              have OWN := Lib.hid OW
              have hu := hW2
              clear g2 i2 hW2 hi OW P1 P2 PB
              go_wp2_with (at_builtin; refine wpList_append4 rfl (.tmp 71) (.tmp 74) 22 22 rfl w5.heap.size 45 i0 _ 1 8 Try.underlying22 HI.out hz0 hz1 hz2 rfl _ k _ rfl OWN.out _ 1 (lcells [(k : Int) + 1]) rfl SRC.out ?_ ?_ hsz ?_)
              · simp only [maxLen]; omega
              · omega
              intro v8 w8 o8 g8 q8
              have hch : Blk.Chg (fun j => (Value.slice a2 k c2).ownBlock = some j) W2 w8 := (Blk.Chg.refl _ _).grown g8 (fun g hg _ => hg)
              have h1 := O1.out.chg hch fun j hj hj2 => PA.out j hj2 hj
              have h2 : Lt w8 w5.heap.size v8 (otherL m (k + 1)) := by
                rw [HY.out]
                exact lt_more O2.out (by unfold I64; omega) (by rw [otherL_len]; exact o8)
              have ap : Apart (.slice a7 (k + 1) c7) v8 := PA.out.symm.grow (w := W2) (fun j hj => q8 j hj) (fun j hj => (own_lt O1.out.2 hj).2)
              have bw : Below w5.heap.size w5 w8 := Own.below_grown BW.out O2.out.2 g8 hsz
              obtain ⟨a8, c8, rfl, _⟩ := own_shape o8
              have P1 := Lib.hid h1
              have P2 := Lib.hid h2
              have PA2 := Lib.hid ap
              have PB := Lib.hid bw
              clear o8 g8 q8 hch h1 h2 ap bw O1 O2 SRC BW OWN hsz HI hu PA
              go_wp2_with fail
              go_roundg g'
              case measure => omega
              case rel => exact ⟨k + 1, a7, c7, a8, c8, rfl, rfl, by go_num, P1, P2, PA2, PB, by omega, by omega⟩
          · have hkM1 : ¬ (((k : Int) + 1) ≤ (M : Int)) := by omega
            have hgy : m.getD k false = false := by rw [List.getD_eq_getElem?_getD, List.getElem?_eq_none (by rw [HMM.out]; omega)]; rfl
            have HX := Lib.hid (show ownL m (k + 1) = ownL m k ++ [-((k : Int) + 1)] by unfold ownL; rw [if_neg (by rw [hgy]; decide)]; cases k <;> rfl)
            clear hgy hkM
            have HY := Lib.hid (show otherL m (k + 1) = otherL m k ++ [(k : Int) + 1] by
              have h1 : (ownL m (k + 1)).map (fun z => -z) = (ownL m k).map (fun z => -z) ++ [-(-((k : Int) + 1))] := by rw [HX.out, List.map_append]; rfl
              show (ownL m (k + 1)).map (fun z => -z) = (ownL m k).map (fun z => -z) ++ [(k : Int) + 1]
              rw [h1, show -(-((k : Int) + 1)) = (k : Int) + 1 by omega])
            have g2 := (Below.refl wr.heap.size wr).alloc (Nat.le_refl _) (.cells #[.int .i64 (-((k : Int) + 1))] 45)
            have i2 := Blk.Is.new wr 45 #[.int .i64 (-((k : Int) + 1))]
            obtain ⟨W2, hW2⟩ : ∃ W2, wr.alloc (.cells #[.int .i64 (-((k : Int) + 1))] 45) = W2 := ⟨_, rfl⟩
            rw [hW2] at g2 i2
            have O1 := Lib.hid (HO1.out.below g2)
            have O2 := Lib.hid (HO2.out.below g2)
            have SRC := Lib.hid (lit_on i2)
            have BW := Lib.hid (HB.out.trans (g2.mono HB.out.size))
            have hsz := BW.out.size
            obtain ⟨i0, hi, hz0, hz1, hz2⟩ := info_parts infoLit
            have HI := Lib.hid hi
            have OW := O1.out.2
            rw [ownL_len] at OW
            have OWN := Lib.hid OW
            have hu := hW2
            clear g2 i2 hW2 hi OW HO1 HO2 HB
            go_wp2_with (at_builtin; refine wpList_append4 rfl (.tmp 67) (.tmp 69) 22 22 rfl w5.heap.size 45 i0 _ 1 8 Try.underlying22 HI.out hz0 hz1 hz2 rfl _ k _ rfl OWN.out _ 1 (lcells [-((k : Int) + 1)]) rfl SRC.out ?_ ?_ hsz ?_)
            · simp only [maxLen]; omega
            · omega
            intro v7 w7 o7 g7 q7
            have hch : Blk.Chg (fun j => (Value.slice a1 k c1).ownBlock = some j) W2 w7 := (Blk.Chg.refl _ _).grown g7 (fun g hg _ => hg)
            have h2 := O2.out.chg hch fun j hj hj2 => HAP.out j hj2 hj
            have h1 : Lt w7 w5.heap.size v7 (ownL m (k + 1)) := by
              rw [HX.out]
              exact lt_more O1.out (by unfold I64; omega) (by rw [ownL_len]; exact o7)
            have ap : Apart (.slice a2 k c2) v7 := HAP.out.symm.grow (w := W2) (fun j hj => q7 j hj) (fun j hj => (own_lt O2.out.2 hj).2)
            have bw : Below w5.heap.size w5 w7 := Own.below_grown BW.out O1.out.2 g7 hsz
            obtain ⟨a7, c7, rfl, _⟩ := own_shape o7
            have P1 := Lib.hid h1
            have P2 := Lib.hid h2
            have PA := Lib.hid ap
            have PB := Lib.hid bw
            clear o7 g7 q7 hch h1 h2 ap bw O1 O2 SRC BW OWN hsz HI hu HAP
            have g2 := (Below.refl w7.heap.size w7).alloc (Nat.le_refl _) (.cells #[.int .i64 ((k : Int) + 1)] 45)
            have i2 := Blk.Is.new w7 45 #[.int .i64 ((k : Int) + 1)]
            obtain ⟨W2, hW2⟩ : ∃ W2, w7.alloc (.cells #[.int .i64 ((k : Int) + 1)] 45) = W2 := ⟨_, rfl⟩
            rw [hW2] at g2 i2
            have O1 := Lib.hid (P1.out.below g2)
            have O2 := Lib.hid (P2.out.below g2)
            have SRC := Lib.hid (lit_on i2)
            have BW := Lib.hid (PB.out.trans (g2.mono PB.out.size))
            have hsz := BW.out.size
            obtain ⟨i0, hi, hz0, hz1, hz2⟩ := info_parts infoLit
            have HI := Lib.hid hi
            have OW := O2.out.2
            rw [otherL_len] at OW
            have OWN := Lib.hid OW
            have hu := hW2
            clear g2 i2 hW2 hi OW P1 P2 PB
            go_wp2_with (at_builtin; refine wpList_append4 rfl (.tmp 71) (.tmp 74) 22 22 rfl w5.heap.size 45 i0 _ 1 8 Try.underlying22 HI.out hz0 hz1 hz2 rfl _ k _ rfl OWN.out _ 1 (lcells [(k : Int) + 1]) rfl SRC.out ?_ ?_ hsz ?_)
            · simp only [maxLen]; omega
            · omega
            intro v8 w8 o8 g8 q8
            have hch : Blk.Chg (fun j => (Value.slice a2 k c2).ownBlock = some j) W2 w8 := (Blk.Chg.refl _ _).grown g8 (fun g hg _ => hg)
            have h1 := O1.out.chg hch fun j hj hj2 => PA.out j hj2 hj
            have h2 : Lt w8 w5.heap.size v8 (otherL m (k + 1)) := by
              rw [HY.out]
              exact lt_more O2.out (by unfold I64; omega) (by rw [otherL_len]; exact o8)
            have ap : Apart (.slice a7 (k + 1) c7) v8 := PA.out.symm.grow (w := W2) (fun j hj => q8 j hj) (fun j hj => (own_lt O1.out.2 hj).2)
            have bw : Below w5.heap.size w5 w8 := Own.below_grown BW.out O2.out.2 g8 hsz
            obtain ⟨a8, c8, rfl, _⟩ := own_shape o8
            have P1 := Lib.hid h1
            have P2 := Lib.hid h2
            have PA2 := Lib.hid ap
            have PB := Lib.hid bw
            clear o8 g8 q8 hch h1 h2 ap bw O1 O2 SRC BW OWN hsz HI hu PA
            go_wp2_with fail
            go_roundg g'
            case measure => omega
            case rel => exact ⟨k + 1, a7, c7, a8, c8, rfl, rfl, by go_num, P1, P2, PA2, PB, by omega, by omega⟩
        · obtain rfl : k = n1 := by omega
          have hge : ¬ (((k : Int) + 1) ≤ (k : Int)) := by omega
          have ST2 := Lib.hid (ST.out.below (w' := wr) HB.out)
          have ca := add_any ST2.out (.slice a1 k c1) (ownL m k) HO1.out.lit (by rw [ownL_len]; omega) (by have := HB.out.size; have := HTP.out; have := K5.out.size; omega)
          have hm1 := more_own (m := m) (n := k) (by omega)
          have hm2 := more_other (m := m) (n := k) (by omega)
          rw [hm1.1] at ca
          obtain ⟨L5, hL5⟩ : ∃ L5, adds k [] (ownL m k) = L5 := ⟨_, rfl⟩
          rw [hL5] at ca hm1 hm2
          obtain ⟨L6, hL6⟩ : ∃ L6, adds k L5 (otherL m k) = L6 := ⟨_, rfl⟩
          rw [hL6] at hm2
          have HH := Lib.hid (And.intro hm1.2 hm2)
          have HL6 := Lib.hid hL6
          clear hm1 hm2 hL5 hL6
          go_wp2_with fail
          refine ca.mono ?_
          rintro e w6 ⟨rfl, v6, s6, g6, k6⟩
          have hw56 : w5.heap.size ≤ w6.heap.size := by have := HB.out.size; have := k6.size; omega
          have h26 := HO2.out.chg k6 fun j hj => by
            obtain ⟨cs, hcs⟩ := HO2.out.is hj
            exact ST2.out.mineLit (by decide) j cs hcs
          have B6 := Lib.hid (show Below w.heap.size w w6 from (K5.out.trans (HB.out.mono K5.out.size)).trans (k6.below (B := w.heap.size) (fun j hj => by have := ST2.out.mineLow j hj; have := HTP.out; omega) (by have := K5.out.size; have := HB.out.size; omega)))
          have ch := holds_any tp v6 k L5 tp _ m w6 s6 (HM.out.below B6.out)
          rw [HH.out.1] at ch
          have S6 := Lib.hid s6
          have O6 := Lib.hid h26
          clear ca s6 g6 k6 h26
          go_wp2_with fail
          refine ch.mono ?_
          rintro e w7 ⟨rfl, k7⟩
          have cb := add_any (S6.out.below k7) (.slice a2 k c2) (otherL m k) (O6.out.below k7).lit (by rw [otherL_len]; omega) (by have := k7.size; have := HTP.out; have := K5.out.size; omega)
          rw [HH.out.2.1, HL6.out] at cb
          have LOW := Lib.hid (S6.out.below k7).mineLow
          have B7 := Lib.hid (B6.out.trans (k7.mono B6.out.size))
          clear ch k7
          go_wp2_with fail
          refine cb.mono ?_
          rintro e w8 ⟨rfl, v8, s8, g8, k8⟩
          have B8 := Lib.hid (B7.out.trans (k8.below (B := w.heap.size) (fun j hj => by have := LOW.out j hj; have := HTP.out; omega) B7.out.size))
          have ch := holds_any tp v8 k L6 tp _ m w8 s8 (HM.out.below B8.out)
          rw [HH.out.2.2] at ch
          clear cb s8 g8 k8
          go_wp2_with fail
          refine ch.mono ?_
          rintro e w9 ⟨rfl, k9⟩
          have B9 := Lib.hid (B8.out.trans (k9.mono B8.out.size))
          have cw := awake_any w9
          clear ch k9
          go_wp2_with fail
          refine cw.mono ?_
          rintro e w10 ⟨rfl, k10⟩
          have B10 := Lib.hid (B9.out.trans (k10.mono B9.out.size))
          clear cw k10
          go_wp2_with fail
          go_ret
          exact ⟨rfl, B10.out⟩
    | false =>
      clear hles
      go_wp2_with fail
      refine cn.mono ?_
      rintro e w5 ⟨rfl, hs5, st, k5⟩
      have ST := Lib.hid st
      have K5 := Lib.hid (K4.out.trans (k5.mono K4.out.size))
      obtain ⟨tp, htp⟩ : ∃ tp, w4.heap.size = tp := ⟨_, rfl⟩
      rw [htp] at ST ⊢
      have HTP := Lib.hid htp
      have hbase := K4.out.size
      have h45 : tp ≤ w5.heap.size := by have := k5.size; have := HTP.out; omega
      clear cn st k5 hs5 htp
      go_wp2_with fail
      go_loopg [13, 14, 15] n1 (fun gf s13 s14 s15 wx => ∃ (k : Nat) (a1 : Option Addr) (c1 : Nat) (a2 : Option Addr) (c2 : Nat), s13 = .slice a1 k c1 ∧ s14 = .slice a2 k c2 ∧ s15 = .int .i64 ((k : Int) + 1) ∧ Hid (Lt wx w5.heap.size (.slice a1 k c1) (ownL m k)) ∧ Hid (Lt wx w5.heap.size (.slice a2 k c2) (otherL m k)) ∧ Hid (Apart (.slice a1 k c1) (.slice a2 k c2)) ∧ Hid (Below w5.heap.size w5 wx) ∧ k ≤ n1 ∧ n1 ≤ k + gf)
      case atStart => exact ⟨0, none, 0, none, 0, rfl, rfl, by go_num, Lib.hid (Lt.nil _ _), Lib.hid (Lt.nil _ _), Lib.hid (Apart.nil _), Lib.hid (Below.refl _ _), by omega, by omega⟩
      case round =>
        obtain ⟨k, a1, c1, a2, c2, rfl, rfl, rfl, HO1, HO2, HAP, HB, hkn, hfu⟩ := hrel
        by_cases hlt : k < n1
        · obtain ⟨g', rfl⟩ : ∃ g', gk = g' + 1 := ⟨gk - 1, by omega⟩
          have hle : ((k : Int) + 1) ≤ (n1 : Int) := by omega
          by_cases hkM : k < M
          · have hkM1 : ((k : Int) + 1) ≤ (M : Int) := by omega
            have hkM2 : (k : Int) < (M : Int) := by omega
            have hk0 : (0 : Int) ≤ k := by omega
            obtain ⟨y, hy⟩ : ∃ y, m[k]? = some y := ⟨m[k]'(by rw [HMM.out]; exact hkM), List.getElem?_eq_getElem _⟩
            obtain ⟨am, cm, em, _, _, hmr⟩ := HM.out
            rw [HMM.out] at em hmr
            simp only [Value.slice.injEq, true_and] at em
            obtain ⟨rfl, rfl⟩ := em
            obtain ⟨bm, om, rfl, hmc⟩ := hmr (by omega)
            have cmm := cell_on (hmc k y hy) (K5.out.trans (HB.out.mono K5.out.size))
            have hgy : m.getD k false = y := by rw [List.getD_eq_getElem?_getD, hy]; rfl
            clear hmr hmc hy hkM
            cases y with
            | true =>
              have HX := Lib.hid (show ownL m (k + 1) = ownL m k ++ [(k : Int) + 1] by unfold ownL; rw [if_pos hgy]; cases k <;> rfl)
              clear hgy
              have HY := Lib.hid (show otherL m (k + 1) = otherL m k ++ [-((k : Int) + 1)] by
                have h1 : (ownL m (k + 1)).map (fun z => -z) = (ownL m k).map (fun z => -z) ++ [-((k : Int) + 1)] := by rw [HX.out, List.map_append]; rfl
                show (ownL m (k + 1)).map (fun z => -z) = (ownL m k).map (fun z => -z) ++ [-((k : Int) + 1)]
                rw [h1, show -((k : Int) + 1) = -((k : Int) + 1) by omega])
              have g2 := (Below.refl wr.heap.size wr).alloc (Nat.le_refl _) (.cells #[.int .i64 ((k : Int) + 1)] 45)
              have i2 := Blk.Is.new wr 45 #[.int .i64 ((k : Int) + 1)]
              obtain ⟨W2, hW2⟩ : ∃ W2, wr.alloc (.cells #[.int .i64 ((k : Int) + 1)] 45) = W2 := ⟨_, rfl⟩
              rw [hW2] at g2 i2
              have O1 := Lib.hid (HO1.out.below g2)
              have O2 := Lib.hid (HO2.out.below g2)
              have SRC := Lib.hid (lit_on i2)
              have BW := Lib.hid (HB.out.trans (g2.mono HB.out.size))
              have hsz := BW.out.size
              obtain ⟨i0, hi, hz0, hz1, hz2⟩ := info_parts infoLit
              have HI := Lib.hid hi
              have OW := O1.out.2
              rw [ownL_len] at OW
              have OWN := Lib.hid OW
              have hu := hW2
              clear g2 i2 hW2 hi OW HO1 HO2 HB
              go_wp2_with (at_builtin; refine wpList_append4 rfl (.tmp 67) (.tmp 69) 22 22 rfl w5.heap.size 45 i0 _ 1 8 Try.underlying22 HI.out hz0 hz1 hz2 rfl _ k _ rfl OWN.out _ 1 (lcells [(k : Int) + 1]) rfl SRC.out ?_ ?_ hsz ?_)
              · simp only [maxLen]; omega
              · omega
              intro v7 w7 o7 g7 q7
              have hch : Blk.Chg (fun j => (Value.slice a1 k c1).ownBlock = some j) W2 w7 := (Blk.Chg.refl _ _).grown g7 (fun g hg _ => hg)
              have h2 := O2.out.chg hch fun j hj hj2 => HAP.out j hj2 hj
              have h1 : Lt w7 w5.heap.size v7 (ownL m (k + 1)) := by
                rw [HX.out]
                exact lt_more O1.out (by unfold I64; omega) (by rw [ownL_len]; exact o7)
              have ap : Apart (.slice a2 k c2) v7 := HAP.out.symm.grow (w := W2) (fun j hj => q7 j hj) (fun j hj => (own_lt O2.out.2 hj).2)
              have bw : Below w5.heap.size w5 w7 := Own.below_grown BW.out O1.out.2 g7 hsz
              obtain ⟨a7, c7, rfl, _⟩ := own_shape o7
              have P1 := Lib.hid h1
              have P2 := Lib.hid h2
              have PA := Lib.hid ap
              have PB := Lib.hid bw
              clear o7 g7 q7 hch h1 h2 ap bw O1 O2 SRC BW OWN hsz HI hu HAP
              have g2 := (Below.refl w7.heap.size w7).alloc (Nat.le_refl _) (.cells #[.int .i64 (-((k : Int) + 1))] 45)
              have i2 := Blk.Is.new w7 45 #[.int .i64 (-((k : Int) + 1))]
              obtain ⟨W2, hW2⟩ : ∃ W2, w7.alloc (.cells #[.int .i64 (-((k : Int) + 1))] 45) = W2 := ⟨_, rfl⟩
              rw [hW2] at g2 i2
              have O1 := Lib.hid (P1.out.below g2)
              have O2 := Lib.hid (P2.out.below g2)
              have SRC := Lib.hid (lit_on i2)
              have BW := Lib.hid (PB.out.trans (g2.mono PB.out.size))
              have hsz := BW.out.size
              obtain ⟨i0, hi, hz0, hz1, hz2⟩ := info_parts infoLit
              have HI := Lib.hid hi
              have OW := O2.out.2
              rw [otherL_len] at OW
              have OWN := Lib.hid OW
              have hu := hW2
              clear g2 i2 hW2 hi OW P1 P2 PB
              go_wp2_with (at_builtin; refine wpList_append4 rfl (.tmp 71) (.tmp 74) 22 22 rfl w5.heap.size 45 i0 _ 1 8 Try.underlying22 HI.out hz0 hz1 hz2 rfl _ k _ rfl OWN.out _ 1 (lcells [-((k : Int) + 1)]) rfl SRC.out ?_ ?_ hsz ?_)
              · simp only [maxLen]; omega
              · omega
              intro v8 w8 o8 g8 q8
              have hch : Blk.Chg (fun j => (Value.slice a2 k c2).ownBlock = some j) W2 w8 := (Blk.Chg.refl _ _).grown g8 (fun g hg _ => hg)
              have h1 := O1.out.chg hch fun j hj hj2 => PA.out j hj2 hj
              have h2 : Lt w8 w5.heap.size v8 (otherL m (k + 1)) := by
                rw [HY.out]
                exact lt_more O2.out (by unfold I64; omega) (by rw [otherL_len]; exact o8)
              have ap : Apart (.slice a7 (k + 1) c7) v8 := PA.out.symm.grow (w := W2) (fun j hj => q8 j hj) (fun j hj => (own_lt O1.out.2 hj).2)
              have bw : Below w5.heap.size w5 w8 := Own.below_grown BW.out O2.out.2 g8 hsz
              obtain ⟨a8, c8, rfl, _⟩ := own_shape o8
              have P1 := Lib.hid h1
              have P2 := Lib.hid h2
              have PA2 := Lib.hid ap
              have PB := Lib.hid bw
              clear o8 g8 q8 hch h1 h2 ap bw O1 O2 SRC BW OWN hsz HI hu PA
              go_wp2_with fail
              go_roundg g'
              case measure => omega
              case rel => exact ⟨k + 1, a7, c7, a8, c8, rfl, rfl, by go_num, P1, P2, PA2, PB, by omega, by omega⟩
            | false =>
              have HX := Lib.hid (show ownL m (k + 1) = ownL m k ++ [-((k : Int) + 1)] by unfold ownL; rw [if_neg (by rw [hgy]; decide)]; cases k <;> rfl)
              clear hgy
              have HY := Lib.hid (show otherL m (k + 1) = otherL m k ++ [(k : Int) + 1] by
                have h1 : (ownL m (k + 1)).map (fun z => -z) = (ownL m k).map (fun z => -z) ++ [-(-((k : Int) + 1))] := by rw [HX.out, List.map_append]; rfl
                show (ownL m (k + 1)).map (fun z => -z) = (ownL m k).map (fun z => -z) ++ [(k : Int) + 1]
                rw [h1, show -(-((k : Int) + 1)) = (k : Int) + 1 by omega])
              have g2 := (Below.refl wr.heap.size wr).alloc (Nat.le_refl _) (.cells #[.int .i64 (-((k : Int) + 1))] 45)
              have i2 := Blk.Is.new wr 45 #[.int .i64 (-((k : Int) + 1))]
              obtain ⟨W2, hW2⟩ : ∃ W2, wr.alloc (.cells #[.int .i64 (-((k : Int) + 1))] 45) = W2 := ⟨_, rfl⟩
              rw [hW2] at g2 i2
              have O1 := Lib.hid (HO1.out.below g2)
              have O2 := Lib.hid (HO2.out.below g2)
              have SRC := Lib.hid (lit_on i2)
              have BW := Lib.hid (HB.out.trans (g2.mono HB.out.size))
              have hsz := BW.out.size
              obtain ⟨i0, hi, hz0, hz1, hz2⟩ := info_parts infoLit
              have HI := Lib.hid hi
              have OW := O1.out.2
              rw [ownL_len] at OW
              have OWN := Lib.hid OW
              have hu := hW2
              clear g2 i2 hW2 hi OW HO1 HO2 HB
              go_wp2_with (at_builtin; refine wpList_append4 rfl (.tmp 67) (.tmp 69) 22 22 rfl w5.heap.size 45 i0 _ 1 8 Try.underlying22 HI.out hz0 hz1 hz2 rfl _ k _ rfl OWN.out _ 1 (lcells [-((k : Int) + 1)]) rfl SRC.out ?_ ?_ hsz ?_)
              · simp only [maxLen]; omega
              · omega
              intro v7 w7 o7 g7 q7
              have hch : Blk.Chg (fun j => (Value.slice a1 k c1).ownBlock = some j) W2 w7 := (Blk.Chg.refl _ _).grown g7 (fun g hg _ => hg)
              have h2 := O2.out.chg hch fun j hj hj2 => HAP.out j hj2 hj
              have h1 : Lt w7 w5.heap.size v7 (ownL m (k + 1)) := by
                rw [HX.out]
                exact lt_more O1.out (by unfold I64; omega) (by rw [ownL_len]; exact o7)
              have ap : Apart (.slice a2 k c2) v7 := HAP.out.symm.grow (w := W2) (fun j hj => q7 j hj) (fun j hj => (own_lt O2.out.2 hj).2)
              have bw : Below w5.heap.size w5 w7 := Own.below_grown BW.out O1.out.2 g7 hsz
              obtain ⟨a7, c7, rfl, _⟩ := own_shape o7
              have P1 := Lib.hid h1
              have P2 := Lib.hid h2
              have PA := Lib.hid ap
              have PB := Lib.hid bw
              clear o7 g7 q7 hch h1 h2 ap bw O1 O2 SRC BW OWN hsz HI hu HAP
              have g2 := (Below.refl w7.heap.size w7).alloc (Nat.le_refl _) (.cells #[.int .i64 ((k : Int) + 1)] 45)
              have i2 := Blk.Is.new w7 45 #[.int .i64 ((k : Int) + 1)]
              obtain ⟨W2, hW2⟩ : ∃ W2, w7.alloc (.cells #[.int .i64 ((k : Int) + 1)] 45) = W2 := ⟨_, rfl⟩
              rw [hW2] at g2 i2
              have O1 := Lib.hid (P1.out.below g2)
              have O2 := Lib.hid (P2.out.below g2)
              have SRC := Lib.hid (lit_on i2)
              have BW := Lib.hid (PB.out.trans (g2.mono PB.out.size))
              have hsz := BW.out.size
              obtain ⟨i0, hi, hz0, hz1, hz2⟩ := info_parts infoLit
              have HI := Lib.hid hi
              have OW := O2.out.2
              rw [otherL_len] at OW
              have OWN := Lib.hid OW
              have hu := hW2
              clear g2 i2 hW2 hi OW P1 P2 PB
              go_wp2_with (at_builtin; refine wpList_append4 rfl (.tmp 71) (.tmp 74) 22 22 rfl w5.heap.size 45 i0 _ 1 8 Try.underlying22 HI.out hz0 hz1 hz2 rfl _ k _ rfl OWN.out _ 1 (lcells [(k : Int) + 1]) rfl SRC.out ?_ ?_ hsz ?_)
              · simp only [maxLen]; omega
              · omega
              intro v8 w8 o8 g8 q8
              have hch : Blk.Chg (fun j => (Value.slice a2 k c2).ownBlock = some j) W2 w8 := (Blk.Chg.refl _ _).grown g8 (fun g hg _ => hg)
              have h1 := O1.out.chg hch fun j hj hj2 => PA.out j hj2 hj
              have h2 : Lt w8 w5.heap.size v8 (otherL m (k + 1)) := by
                rw [HY.out]
                exact lt_more O2.out (by unfold I64; omega) (by rw [otherL_len]; exact o8)
              have ap : Apart (.slice a7 (k + 1) c7) v8 := PA.out.symm.grow (w := W2) (fun j hj => q8 j hj) (fun j hj => (own_lt O1.out.2 hj).2)
              have bw : Below w5.heap.size w5 w8 := Own.below_grown BW.out O2.out.2 g8 hsz
              obtain ⟨a8, c8, rfl, _⟩ := own_shape o8
              have P1 := Lib.hid h1
              have P2 := Lib.hid h2
              have PA2 := Lib.hid ap
              have PB := Lib.hid bw
              clear o8 g8 q8 hch h1 h2 ap bw O1 O2 SRC BW OWN hsz HI hu PA
              go_wp2_with fail
              go_roundg g'
              case measure => omega
              case rel => exact ⟨k + 1, a7, c7, a8, c8, rfl, rfl, by go_num, P1, P2, PA2, PB, by omega, by omega⟩
          · have hkM1 : ¬ (((k : Int) + 1) ≤ (M : Int)) := by omega
            have hgy : m.getD k false = false := by rw [List.getD_eq_getElem?_getD, List.getElem?_eq_none (by rw [HMM.out]; omega)]; rfl
            have HX := Lib.hid (show ownL m (k + 1) = ownL m k ++ [-((k : Int) + 1)] by unfold ownL; rw [if_neg (by rw [hgy]; decide)]; cases k <;> rfl)
            clear hgy hkM
            have HY := Lib.hid (show otherL m (k + 1) = otherL m k ++ [(k : Int) + 1] by
              have h1 : (ownL m (k + 1)).map (fun z => -z) = (ownL m k).map (fun z => -z) ++ [-(-((k : Int) + 1))] := by rw [HX.out, List.map_append]; rfl
              show (ownL m (k + 1)).map (fun z => -z) = (ownL m k).map (fun z => -z) ++ [(k : Int) + 1]
              rw [h1, show -(-((k : Int) + 1)) = (k : Int) + 1 by omega])
            have g2 := (Below.refl wr.heap.size wr).alloc (Nat.le_refl _) (.cells #[.int .i64 (-((k : Int) + 1))] 45)
            have i2 := Blk.Is.new wr 45 #[.int .i64 (-((k : Int) + 1))]
            obtain ⟨W2, hW2⟩ : ∃ W2, wr.alloc (.cells #[.int .i64 (-((k : Int) + 1))] 45) = W2 := ⟨_, rfl⟩
            rw [hW2] at g2 i2
            have O1 := Lib.hid (HO1.out.below g2)
            have O2 := Lib.hid (HO2.out.below g2)
            have SRC := Lib.hid (lit_on i2)
            have BW := Lib.hid (HB.out.trans (g2.mono HB.out.size))
            have hsz := BW.out.size
            obtain ⟨i0, hi, hz0, hz1, hz2⟩ := info_parts infoLit
            have HI := Lib.hid hi
            have OW := O1.out.2
            rw [ownL_len] at OW
            have OWN := Lib.hid OW
            have hu := hW2
            clear g2 i2 hW2 hi OW HO1 HO2 HB
            go_wp2_with (at_builtin; refine wpList_append4 rfl (.tmp 67) (.tmp 69) 22 22 rfl w5.heap.size 45 i0 _ 1 8 Try.underlying22 HI.out hz0 hz1 hz2 rfl _ k _ rfl OWN.out _ 1 (lcells [-((k : Int) + 1)]) rfl SRC.out ?_ ?_ hsz ?_)
            · simp only [maxLen]; omega
            · omega
            intro v7 w7 o7 g7 q7
            have hch : Blk.Chg (fun j => (Value.slice a1 k c1).ownBlock = some j) W2 w7 := (Blk.Chg.refl _ _).grown g7 (fun g hg _ => hg)
            have h2 := O2.out.chg hch fun j hj hj2 => HAP.out j hj2 hj
            have h1 : Lt w7 w5.heap.size v7 (ownL m (k + 1)) := by
              rw [HX.out]
              exact lt_more O1.out (by unfold I64; omega) (by rw [ownL_len]; exact o7)
            have ap : Apart (.slice a2 k c2) v7 := HAP.out.symm.grow (w := W2) (fun j hj => q7 j hj) (fun j hj => (own_lt O2.out.2 hj).2)
            have bw : Below w5.heap.size w5 w7 := Own.below_grown BW.out O1.out.2 g7 hsz
            obtain ⟨a7, c7, rfl, _⟩ := own_shape o7
            have P1 := Lib.hid h1
            have P2 := Lib.hid h2
            have PA := Lib.hid ap
            have PB := Lib.hid bw
            clear o7 g7 q7 hch h1 h2 ap bw O1 O2 SRC BW OWN hsz HI hu HAP
            have g2 := (Below.refl w7.heap.size w7).alloc (Nat.le_refl _) (.cells #[.int .i64 ((k : Int) + 1)] 45)
            have i2 := Blk.Is.new w7 45 #[.int .i64 ((k : Int) + 1)]
            obtain ⟨W2, hW2⟩ : ∃ W2, w7.alloc (.cells #[.int .i64 ((k : Int) + 1)] 45) = W2 := ⟨_, rfl⟩
            rw [hW2] at g2 i2
            have O1 := Lib.hid (P1.out.below g2)
            have O2 := Lib.hid (P2.out.below g2)
            have SRC := Lib.hid (lit_on i2)
            have BW := Lib.hid (PB.out.trans (g2.mono PB.out.size))
            have hsz := BW.out.size
            obtain ⟨i0, hi, hz0, hz1, hz2⟩ := info_parts infoLit
            have HI := Lib.hid hi
            have OW := O2.out.2
            rw [otherL_len] at OW
            have OWN := Lib.hid OW
            have hu := hW2
            clear g2 i2 hW2 hi OW P1 P2 PB
            go_wp2_with (at_builtin; refine wpList_append4 rfl (.tmp 71) (.tmp 74) 22 22 rfl w5.heap.size 45 i0 _ 1 8 Try.underlying22 HI.out hz0 hz1 hz2 rfl _ k _ rfl OWN.out _ 1 (lcells [(k : Int) + 1]) rfl SRC.out ?_ ?_ hsz ?_)
            · simp only [maxLen]; omega
            · omega
            intro v8 w8 o8 g8 q8
            have hch : Blk.Chg (fun j => (Value.slice a2 k c2).ownBlock = some j) W2 w8 := (Blk.Chg.refl _ _).grown g8 (fun g hg _ => hg)
            have h1 := O1.out.chg hch fun j hj hj2 => PA.out j hj2 hj
            have h2 : Lt w8 w5.heap.size v8 (otherL m (k + 1)) := by
              rw [HY.out]
              exact lt_more O2.out (by unfold I64; omega) (by rw [otherL_len]; exact o8)
            have ap : Apart (.slice a7 (k + 1) c7) v8 := PA.out.symm.grow (w := W2) (fun j hj => q8 j hj) (fun j hj => (own_lt O1.out.2 hj).2)
            have bw : Below w5.heap.size w5 w8 := Own.below_grown BW.out O2.out.2 g8 hsz
            obtain ⟨a8, c8, rfl, _⟩ := own_shape o8
            have P1 := Lib.hid h1
            have P2 := Lib.hid h2
            have PA2 := Lib.hid ap
            have PB := Lib.hid bw
            clear o8 g8 q8 hch h1 h2 ap bw O1 O2 SRC BW OWN hsz HI hu PA
            go_wp2_with fail
            go_roundg g'
            case measure => omega
            case rel => exact ⟨k + 1, a7, c7, a8, c8, rfl, rfl, by go_num, P1, P2, PA2, PB, by omega, by omega⟩
        · obtain rfl : k = n1 := by omega
          have hge : ¬ (((k : Int) + 1) ≤ (k : Int)) := by omega
          have ST2 := Lib.hid (ST.out.below (w' := wr) HB.out)
          have ca := add_any ST2.out (.slice a1 k c1) (ownL m k) HO1.out.lit (by rw [ownL_len]; omega) (by have := HB.out.size; have := HTP.out; have := K5.out.size; omega)
          have hm1 := more_own (m := m) (n := k) (by omega)
          have hm2 := more_other (m := m) (n := k) (by omega)
          rw [hm1.1] at ca
          obtain ⟨L5, hL5⟩ : ∃ L5, adds k [] (ownL m k) = L5 := ⟨_, rfl⟩
          rw [hL5] at ca hm1 hm2
          obtain ⟨L6, hL6⟩ : ∃ L6, adds k L5 (otherL m k) = L6 := ⟨_, rfl⟩
          rw [hL6] at hm2
          have HH := Lib.hid (And.intro hm1.2 hm2)
          have HL6 := Lib.hid hL6
          clear hm1 hm2 hL5 hL6
          go_wp2_with fail
          refine ca.mono ?_
          rintro e w6 ⟨rfl, v6, s6, g6, k6⟩
          have hw56 : w5.heap.size ≤ w6.heap.size := by have := HB.out.size; have := k6.size; omega
          have h26 := HO2.out.chg k6 fun j hj => by
            obtain ⟨cs, hcs⟩ := HO2.out.is hj
            exact ST2.out.mineLit (by decide) j cs hcs
          have B6 := Lib.hid (show Below w.heap.size w w6 from (K5.out.trans (HB.out.mono K5.out.size)).trans (k6.below (B := w.heap.size) (fun j hj => by have := ST2.out.mineLow j hj; have := HTP.out; omega) (by have := K5.out.size; have := HB.out.size; omega)))
          have ch := holds_any tp v6 k L5 tp _ m w6 s6 (HM.out.below B6.out)
          rw [HH.out.1] at ch
          have S6 := Lib.hid s6
          have O6 := Lib.hid h26
          clear ca s6 g6 k6 h26
          go_wp2_with fail
          refine ch.mono ?_
          rintro e w7 ⟨rfl, k7⟩
          have cb := add_any (S6.out.below k7) (.slice a2 k c2) (otherL m k) (O6.out.below k7).lit (by rw [otherL_len]; omega) (by have := k7.size; have := HTP.out; have := K5.out.size; omega)
          rw [HH.out.2.1, HL6.out] at cb
          have LOW := Lib.hid (S6.out.below k7).mineLow
          have B7 := Lib.hid (B6.out.trans (k7.mono B6.out.size))
          clear ch k7
          go_wp2_with fail
          refine cb.mono ?_
          rintro e w8 ⟨rfl, v8, s8, g8, k8⟩
          have B8 := Lib.hid (B7.out.trans (k8.below (B := w.heap.size) (fun j hj => by have := LOW.out j hj; have := HTP.out; omega) B7.out.size))
          have ch := holds_any tp v8 k L6 tp _ m w8 s8 (HM.out.below B8.out)
          rw [HH.out.2.2] at ch
          clear cb s8 g8 k8
          go_wp2_with fail
          refine ch.mono ?_
          rintro e w9 ⟨rfl, k9⟩
          have B9 := Lib.hid (B8.out.trans (k9.mono B8.out.size))
          have cw := awake_any w9
          clear ch k9
          go_wp2_with fail
          refine cw.mono ?_
          rintro e w10 ⟨rfl, k10⟩
          have B10 := Lib.hid (B9.out.trans (k10.mono B9.out.size))
          clear cw k10
          go_wp2_with fail
          go_ret
          exact ⟨rfl, B10.out⟩
end Cn
end Go.Proofs.Ytlpahomaokopoaa

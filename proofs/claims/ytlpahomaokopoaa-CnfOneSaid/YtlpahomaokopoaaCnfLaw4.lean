/-
CnfAdds: any clauses, any groups of which at most one holds.
-/
import Derived.Test.YtlpahomaokopoaaCnfTwo
namespace Go.Proofs.Ytlpahomaokopoaa
open Go.RowKit
set_option linter.unusedSimpArgs false
set_option linter.unusedVariables false
namespace Cn
/-- What came in stays where what lies from B on is changed. -/
theorem lit_mine {w w' : World} {S : Nat → Prop} {B N cap : Nat} {a : Option Addr} {c : List Int} (h : LitV w (.slice a N cap) c) (hl : ∀ bb, Value.ownBlock (.slice a N cap) = some bb → 0 < N → bb < B) (k : Blk.Chg S w w') (hS : ∀ i, S i → B ≤ i) : LitV w' (.slice a N cap) c := by
  obtain ⟨h0, a', cap', e, h1, h2, h3, hr⟩ := h
  simp only [Value.slice.injEq] at e
  obtain ⟨rfl, rfl, rfl⟩ := e
  refine ⟨h0, a, cap, rfl, h1, h2, h3, fun hc => ?_⟩
  obtain ⟨b, off, rfl, hcell⟩ := hr hc
  refine ⟨b, off, rfl, fun i x hx => ?_⟩
  have hlt : b < B := hl b rfl hc
  rw [World.cell?_of_block (k.block b (lt_cell (hcell i x hx)) fun hs => by have := hS b hs; omega)]
  exact hcell i x hx
set_option maxRecDepth 100000 in
set_option maxHeartbeats 16000000 in
theorem adds_walk (n0 : Int) (v mv : Value) (l : List (List Int)) (m : List Bool) (w : World) (h : LitVs w v l) (hm : BoolV w mv m) :
    Calls Try.prog 4 #[.int .i64 n0, v, mv] w fun e w' => e = .returned (.bool true) ∧ Below w.heap.size w w' := by
  have H := Lib.hid h
  have HMV := Lib.hid hm
  obtain ⟨a, cap, rfl, hl9, hcl⟩ := h
  obtain ⟨ma, mcap, rfl, hmc, hmc2, hmr⟩ := hm
  obtain ⟨N, hN⟩ : ∃ N, l.length = N := ⟨_, rfl⟩
  obtain ⟨M, hM⟩ : ∃ M, m.length = M := ⟨_, rfl⟩
  have HN := Lib.hid hN
  have HMM := Lib.hid hM
  rw [hN] at hl9 hcl ⊢
  rw [hM] at hmc hmr ⊢
  have HCL := Lib.hid hcl
  have HMR := Lib.hid hmr
  have cn := new_any n0 w
  clear hN hM hcl hmr H HMV
  obtain ⟨n, hn⟩ : ∃ n, vars n0 = n := ⟨_, rfl⟩
  rw [hn] at cn
  have HNV := Lib.hid hn
  clear hn
  go_enter Try.func4, Try.ntmps4
  go_wp2_with fail
  refine cn.mono ?_
  rintro e w1 ⟨rfl, hs1, st, k1⟩
  have cq := qnew_any n0 w1
  rw [HNV.out] at cq
  have ST := Lib.hid st
  have K1 := Lib.hid k1
  clear cn st k1 hs1
  go_wp2_with fail
  refine cq.mono ?_
  rintro e w2 ⟨rfl, hs2, sq, k2⟩
  have htwo : Two w2 w.heap.size w.heap.size w1.heap.size (.slice none 0 0) (.slice none 0 0) n [] [] := ⟨ST.out.below k2, sq.mono K1.out.size, Apart.nil _⟩
  have K2 := Lib.hid (K1.out.trans (k2.mono K1.out.size))
  obtain ⟨p, hp⟩ : ∃ p, w.heap.size = p := ⟨_, rfl⟩
  obtain ⟨q, hq⟩ : ∃ q, w1.heap.size = q := ⟨_, rfl⟩
  have HP := Lib.hid hp
  rw [hp] at htwo K2 ⊢
  rw [hq] at htwo ⊢
  have c0 : w2.cell? ⟨q, 0, none⟩ = some (.int .i64 n) := htwo.qs.is.at (i := 0) rfl
  have cg := fun i => vars_any (htwo.cs.below (below_drewN w2 i))
  have CG := Lib.hid cg
  have TW := Lib.hid htwo
  have hnn : ((n : Int) != (n : Int)) = false := by simp
  clear cq sq k2 hs2 htwo cg hp hq
  go_upto_region 2 with fail
  go_quiet ((with_reducible exact Calls.quiet_of_same (CG.out _)))
  have TW3 := Lib.hid (TW.out.below (below_drewN w2 nq))
  have K3 := Lib.hid (K2.out.trans ((below_drewN w2 nq).mono (by have := K2.out.size; have := HP.out; omega)))
  generalize w2.drewN nq = w3 at *
  clear c0 CG TW K2 hnn
  go_wp2_with fail
  have HNA := Lib.hid HN.out
  go_loopg [32] N (fun gf s32 wx => ∃ (i : Nat) (v1 u1 : Value) (L : List (List Int)), s32 = .int .i64 i ∧ Hid (Two wx p p q v1 u1 n L L) ∧ Hid (Below p w wx) ∧ i ≤ N ∧ N ≤ i + gf)
  case atStart => exact ⟨0, _, _, [], rfl, TW3, K3, by omega, by omega⟩
  case round =>
    obtain ⟨i, v1, u1, L, rfl, HT, HB, hin, hfu⟩ := hrel
    by_cases hlt : i < N
    · obtain ⟨g', rfl⟩ : ∃ g', gk = g' + 1 := ⟨gk - 1, by omega⟩
      have hlt' : (i : Int) < (N : Int) := by omega
      have hi0 : (0 : Int) ≤ i := by omega
      obtain ⟨c, hcx⟩ : ∃ c, l[i]? = some c := ⟨l[i]'(by rw [HN.out]; exact hlt), List.getElem?_eq_getElem _⟩
      obtain ⟨b, off, rfl, hcell⟩ := HCL.out (by omega)
      obtain ⟨x, hx1, hx2⟩ := hcell i c hcx
      have hbw : Below w.heap.size w wr := by rw [HP.out]; exact HB.out
      have c1 := cell_on hx1 hbw
      have hlc := hx2.below hbw
      have LOWC := Lib.hid (show ∀ bb, x.ownBlock = some bb → 0 < c.length → bb < p from fun bb hb hl => by
        obtain ⟨_, xa, xc, e1, _, _, _, hr⟩ := hx2
        obtain ⟨b2, o2, e2, hc2⟩ := hr hl
        subst e1
        subst e2
        simp [Value.ownBlock] at hb
        subst hb
        have := lt_cell (hc2 0 c[0] (List.getElem?_eq_getElem hl))
        rw [HP.out] at this
        exact this)
      obtain ⟨xa, xc, rfl⟩ := hlc.shape
      obtain ⟨C, hC⟩ : ∃ C, c.length = C := ⟨_, rfl⟩
      have HCLN := Lib.hid hC
      have hc9 := hlc.len
      rw [hC] at c1 hlc hc9
      rw [hC] at LOWC
      have HLC := Lib.hid hlc
      clear hcell hcx hx1 hx2 hlc hC
      by_cases h40 : 40 ≤ i
      · have g40 : decide ((i : Int) ≥ 40) = true := by simp; omega
        clear h40 hbw
        go_wp2_with fail
        go_roundg g'
        case measure => omega
        case rel => exact ⟨i + 1, v1, u1, L, by go_num, HT, HB, by omega, by omega⟩
      · have g40 : decide ((i : Int) ≥ 40) = false := by simp; omega
        have hi40 : i < 40 := by omega
        clear h40
        by_cases h20 : 20 < C
        · have g20 : decide ((C : Int) > 20) = true := by simp; omega
          clear h20 hbw
          go_wp2_with fail
          go_roundg g'
          case measure => omega
          case rel => exact ⟨i + 1, v1, u1, L, by go_num, HT, HB, by omega, by omega⟩
        · have g20 : decide ((C : Int) > 20) = false := by simp; omega
          have hC20 : C ≤ 20 := by omega
          clear h20
          by_cases hiM : i < M
          · have giM : decide ((i : Int) < (M : Int)) = true := decide_eq_true (by omega)
            have giM2 : (i : Int) < (M : Int) := by omega
            obtain ⟨y, hy⟩ : ∃ y, m[i]? = some y := ⟨m[i]'(by rw [HMM.out]; exact hiM), List.getElem?_eq_getElem _⟩
            obtain ⟨b3, o3, rfl, hmc3⟩ := HMR.out (by omega)
            have c2 := cell_on (hmc3 i y hy) hbw
            clear hmc3 hy hiM hbw
            rename World => w4
            cases y with
            | true =>
              have ca := most_any HT.out.cs _ c HLC.out (by have := HCLN.out; omega) (by have := HB.out.size; have := HP.out; omega)
              obtain ⟨G, hG⟩ : ∃ G, (most n L c).2 = G := ⟨_, rfl⟩
              obtain ⟨L2, hL2⟩ : ∃ L2, (most n L c).1 = L2 := ⟨_, rfl⟩
              rw [hG, hL2] at ca
              have HGL := Lib.hid (And.intro hG hL2)
              clear hG hL2
              go_wp2_with fail
              refine ca.mono ?_
              rintro e w5 ⟨rfl, v2, went⟩
              have HT5 := Lib.hid (HT.out.left went)
              have HB5 := Lib.hid (HB.out.trans (HT.out.low1 went (by have := HB.out.size; have := HP.out; omega)))
              have HLC5 := Lib.hid (lit_mine HLC.out (LOWC.out) went.chg (fun k hk => HT.out.cs.mineLow k hk))
              clear ca went
              have cb := qmost_any HT5.out.qs _ c HLC5.out (by have := HCLN.out; omega) (by have := HB5.out.size; have := HP.out; omega)
              rw [HGL.out.1, HGL.out.2] at cb
              go_wp2_with fail
              refine cb.mono ?_
              rintro e w6 ⟨rfl, u2, went⟩
              have HT6 := Lib.hid (HT5.out.right went)
              have HB6 := Lib.hid (HB5.out.trans (HT5.out.low2 went (by have := HB5.out.size; have := HP.out; omega)))
              clear cb went HT HT5 HB5 HLC5 HLC c1 c2
              obtain ⟨N2, hN2⟩ : ∃ N2, L2.length = N2 := ⟨_, rfl⟩
              have cg := fun i => len_any (HT6.out.cs.below (below_drewN w6 i))
              obtain ⟨ua, uc, eu, _⟩ := HT6.out.qs.rows.shape
              have c8 : w6.cell? ⟨q, 1, none⟩ = some (.slice ua N2 uc) := by rw [← hN2, ← eu]; exact HT6.out.qs.is.at (i := 1) rfl
              have hll := HT6.out.cs.len
              rw [hN2] at cg hll
              have CG := Lib.hid cg
              have hgg : (G != G) = false := by simp
              have hnn : ((N2 : Int) != (N2 : Int)) = false := by simp
              clear cg hN2 eu
              go_upto_region 12 with fail
              go_quiet ((with_reducible exact Calls.quiet_of_same (CG.out _)))
              have TW7 := Lib.hid (HT6.out.below (below_drewN w6 nq))
              have K7 := Lib.hid (HB6.out.trans ((below_drewN w6 nq).mono (by have := HB6.out.size; have := HP.out; omega)))
              generalize w6.drewN nq = w7 at *
              clear c8 CG hgg hnn HT6 HB6
              go_wp2_with fail
              go_roundg g'
              case measure => omega
              case rel => exact ⟨i + 1, _, _, L2, by go_num, TW7, K7, by omega, by omega⟩
            | false =>
              have ca := add_any HT.out.cs _ c HLC.out (by have := HCLN.out; omega) (by have := HB.out.size; have := HP.out; omega)
              obtain ⟨G, hG⟩ : ∃ G, takes n L c = G := ⟨_, rfl⟩
              obtain ⟨L2, hL2⟩ : ∃ L2, adds n L c = L2 := ⟨_, rfl⟩
              rw [hG, hL2] at ca
              have HGL := Lib.hid (And.intro hG hL2)
              clear hG hL2
              go_wp2_with fail
              refine ca.mono ?_
              rintro e w5 ⟨rfl, v2, s9, g9, k9⟩
              have went : Went 55 w4 p p v1 n w5 v2 L2 := ⟨s9, g9, k9⟩
              have HT5 := Lib.hid (HT.out.left went)
              have HB5 := Lib.hid (HB.out.trans (HT.out.low1 went (by have := HB.out.size; have := HP.out; omega)))
              have HLC5 := Lib.hid (lit_mine HLC.out (LOWC.out) went.chg (fun k hk => HT.out.cs.mineLow k hk))
              clear ca went s9 g9 k9
              have cb := qadd_any HT5.out.qs _ c HLC5.out (by have := HCLN.out; omega) (by have := HB5.out.size; have := HP.out; omega)
              rw [HGL.out.1, HGL.out.2] at cb
              go_wp2_with fail
              refine cb.mono ?_
              rintro e w6 ⟨rfl, u2, s9, g9, k9⟩
              have went : Went 36 w5 p q u1 n w6 u2 L2 := ⟨s9, g9, k9⟩
              have HT6 := Lib.hid (HT5.out.right went)
              have HB6 := Lib.hid (HB5.out.trans (HT5.out.low2 went (by have := HB5.out.size; have := HP.out; omega)))
              clear cb went s9 g9 k9 HT HT5 HB5 HLC5 HLC c1 c2
              obtain ⟨N2, hN2⟩ : ∃ N2, L2.length = N2 := ⟨_, rfl⟩
              have cg := fun i => len_any (HT6.out.cs.below (below_drewN w6 i))
              obtain ⟨ua, uc, eu, _⟩ := HT6.out.qs.rows.shape
              have c8 : w6.cell? ⟨q, 1, none⟩ = some (.slice ua N2 uc) := by rw [← hN2, ← eu]; exact HT6.out.qs.is.at (i := 1) rfl
              have hll := HT6.out.cs.len
              rw [hN2] at cg hll
              have CG := Lib.hid cg
              have hgg : (G != G) = false := by simp
              have hnn : ((N2 : Int) != (N2 : Int)) = false := by simp
              clear cg hN2 eu
              go_upto_region 12 with fail
              go_quiet ((with_reducible exact Calls.quiet_of_same (CG.out _)))
              have TW7 := Lib.hid (HT6.out.below (below_drewN w6 nq))
              have K7 := Lib.hid (HB6.out.trans ((below_drewN w6 nq).mono (by have := HB6.out.size; have := HP.out; omega)))
              generalize w6.drewN nq = w7 at *
              clear c8 CG hgg hnn HT6 HB6
              go_wp2_with fail
              go_roundg g'
              case measure => omega
              case rel => exact ⟨i + 1, _, _, L2, by go_num, TW7, K7, by omega, by omega⟩
          · have giM : ¬ ((i : Int) < (M : Int)) := by omega
            clear hiM hbw
            rename World => w4
            have ca := add_any HT.out.cs _ c HLC.out (by have := HCLN.out; omega) (by have := HB.out.size; have := HP.out; omega)
            obtain ⟨G, hG⟩ : ∃ G, takes n L c = G := ⟨_, rfl⟩
            obtain ⟨L2, hL2⟩ : ∃ L2, adds n L c = L2 := ⟨_, rfl⟩
            rw [hG, hL2] at ca
            have HGL := Lib.hid (And.intro hG hL2)
            clear hG hL2
            go_wp2_with fail
            refine ca.mono ?_
            rintro e w5 ⟨rfl, v2, s9, g9, k9⟩
            have went : Went 55 w4 p p v1 n w5 v2 L2 := ⟨s9, g9, k9⟩
            have HT5 := Lib.hid (HT.out.left went)
            have HB5 := Lib.hid (HB.out.trans (HT.out.low1 went (by have := HB.out.size; have := HP.out; omega)))
            have HLC5 := Lib.hid (lit_mine HLC.out (LOWC.out) went.chg (fun k hk => HT.out.cs.mineLow k hk))
            clear ca went s9 g9 k9
            have cb := qadd_any HT5.out.qs _ c HLC5.out (by have := HCLN.out; omega) (by have := HB5.out.size; have := HP.out; omega)
            rw [HGL.out.1, HGL.out.2] at cb
            go_wp2_with fail
            refine cb.mono ?_
            rintro e w6 ⟨rfl, u2, s9, g9, k9⟩
            have went : Went 36 w5 p q u1 n w6 u2 L2 := ⟨s9, g9, k9⟩
            have HT6 := Lib.hid (HT5.out.right went)
            have HB6 := Lib.hid (HB5.out.trans (HT5.out.low2 went (by have := HB5.out.size; have := HP.out; omega)))
            clear cb went s9 g9 k9 HT HT5 HB5 HLC5 HLC c1
            obtain ⟨N2, hN2⟩ : ∃ N2, L2.length = N2 := ⟨_, rfl⟩
            have cg := fun i => len_any (HT6.out.cs.below (below_drewN w6 i))
            obtain ⟨ua, uc, eu, _⟩ := HT6.out.qs.rows.shape
            have c8 : w6.cell? ⟨q, 1, none⟩ = some (.slice ua N2 uc) := by rw [← hN2, ← eu]; exact HT6.out.qs.is.at (i := 1) rfl
            have hll := HT6.out.cs.len
            rw [hN2] at cg hll
            have CG := Lib.hid cg
            have hgg : (G != G) = false := by simp
            have hnn : ((N2 : Int) != (N2 : Int)) = false := by simp
            clear cg hN2 eu
            go_upto_region 12 with fail
            go_quiet ((with_reducible exact Calls.quiet_of_same (CG.out _)))
            have TW7 := Lib.hid (HT6.out.below (below_drewN w6 nq))
            have K7 := Lib.hid (HB6.out.trans ((below_drewN w6 nq).mono (by have := HB6.out.size; have := HP.out; omega)))
            generalize w6.drewN nq = w7 at *
            clear c8 CG hgg hnn HT6 HB6
            go_wp2_with fail
            go_roundg g'
            case measure => omega
            case rel => exact ⟨i + 1, _, _, L2, by go_num, TW7, K7, by omega, by omega⟩
    · obtain rfl : i = N := by omega
      have hge : ¬ (i : Int) < (i : Int) := by omega
      obtain ⟨N2, hN2⟩ : ∃ N2, L.length = N2 := ⟨_, rfl⟩
      have HN2 := Lib.hid hN2
      obtain ⟨ua, uc, eu, _⟩ := HT.out.qs.rows.shape
      rw [hN2] at eu
      subst eu
      have c8 : wr.cell? ⟨q, 1, none⟩ = some (.slice ua N2 uc) := HT.out.qs.is.at (i := 1) rfl
      have hll := HT.out.cs.len
      rw [hN2] at hll
      clear hN2
      go_wp2_with fail
      clear c8
      go_loopg [85] N2 (fun gf s85 wx => ∃ (j : Nat), s85 = .int .i64 j ∧ Hid (Two wx p p q v1 (.slice ua N2 uc) n L L) ∧ Hid (Below p w wx) ∧ j ≤ N2 ∧ N2 ≤ j + gf)
      case atStart => exact ⟨0, rfl, HT, HB, by omega, by omega⟩
      case round =>
        clear HT HB
        obtain ⟨j, rfl, HT, HB, hjn, hfu2⟩ := hrel
        by_cases hlj : j < N2
        · obtain ⟨g', rfl⟩ : ∃ g', gk = g' + 1 := ⟨gk - 1, by omega⟩
          have hlj' : (j : Int) < (N2 : Int) := by omega
          have hj0 : (0 : Int) ≤ j := by omega
          obtain ⟨c, hcx⟩ : ∃ c, L[j]? = some c := ⟨L[j]'(by rw [HN2.out]; exact hlj), List.getElem?_eq_getElem _⟩
          obtain ⟨g, gcap, x, e1, cx, hlx⟩ := HT.out.qs.rows.at hcx
          simp only [Value.slice.injEq] at e1
          obtain ⟨rfl, eN, rfl⟩ := e1
          clear eN
          have ca := at_any HT.out.cs j c hcx
          have HLX := Lib.hid hlx
          obtain ⟨xa, xc, rfl⟩ := hlx.lit.shape
          obtain ⟨C, hC⟩ : ∃ C, c.length = C := ⟨_, rfl⟩
          have HCC := Lib.hid hC
          rw [hC] at cx HLX
          clear hcx hlx hC
          go_wp2_with fail
          refine ca.mono ?_
          rintro e w5 ⟨x5, rfl, o5, k5⟩
          have cs := sameLits_any x5 _ c c w5 o5.lit (HLX.out.below k5).lit
          rw [decide_eq_true (rfl : c = c)] at cs
          obtain ⟨a5, c5, rfl⟩ := o5.lit.shape
          have HT5 := Lib.hid (HT.out.below k5)
          have HB5 := Lib.hid (HB.out.trans (k5.mono (by have := HB.out.size; have := HP.out; omega)))
          clear ca o5 k5 HLX HT HB cx
          go_wp2_with fail
          refine cs.mono ?_
          rintro e w6 ⟨rfl, k6⟩
          have HT6 := Lib.hid (HT5.out.below k6)
          have HB6 := Lib.hid (HB5.out.trans (k6.mono (by have := HB5.out.size; have := HP.out; omega)))
          clear cs k6 HT5 HB5
          go_wp2_with fail
          go_roundg g'
          case measure => omega
          case rel => exact ⟨j + 1, by go_num, HT6, HB6, by omega, by omega⟩
        · obtain rfl : j = N2 := by omega
          have hge2 : ¬ (j : Int) < (j : Int) := by omega
          have ca := at_none HT.out.cs (-1) (.inl (by omega))
          go_wp2_with fail
          refine ca.mono ?_
          rintro e w5 ⟨rfl, rfl⟩
          clear ca
          have c8 : w5.cell? ⟨q, 1, none⟩ = some (.slice ua j uc) := HT.out.qs.is.at (i := 1) rfl
          have cb := at_none HT.out.cs (j : Int) (.inr (by rw [HN2.out]; omega))
          go_wp2_with fail
          refine cb.mono ?_
          rintro e w6 ⟨rfl, rfl⟩
          clear cb c8
          have cw := awake_any w6
          go_wp2_with fail
          refine cw.mono ?_
          rintro e w7 ⟨rfl, k7⟩
          have K7 := Lib.hid (HB.out.trans (k7.mono (by have := HB.out.size; have := HP.out; omega)))
          clear cw k7
          go_wp2_with fail
          go_ret
          exact ⟨rfl, by rw [HP.out]; exact K7.out⟩
end Cn
end Go.Proofs.Ytlpahomaokopoaa

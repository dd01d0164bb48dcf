/-
both: clauses in both sets.
-/
import Derived.Test.YtlpahomaokopoaaCnfLaw4
namespace Go.Proofs.Ytlpahomaokopoaa
open Go.RowKit
set_option linter.unusedSimpArgs false
set_option linter.unusedVariables false
namespace Cn
set_option maxRecDepth 100000 in
set_option maxHeartbeats 16000000 in
theorem both_any (n0 : Int) (v : Value) (l : List (List Int)) (w : World) (h : LitVs w v l) :
    Calls Try.prog 23 #[.int .i64 n0, v] w fun e w' => ∃ (p q : Nat) (v1 u1 : Value) (L : List (List Int)), e = .returned (.tuple #[.pointer (some ⟨p, 0, none⟩), .pointer (some ⟨q, 0, none⟩)]) ∧ Two w' w.heap.size p q v1 u1 (vars n0) L L ∧ Below w.heap.size w w' := by
  obtain ⟨a, cap, rfl, hl9, hcl⟩ := h
  obtain ⟨N, hN⟩ : ∃ N, l.length = N := ⟨_, rfl⟩
  have HN := Lib.hid hN
  rw [hN] at hl9 hcl ⊢
  have HCL := Lib.hid hcl
  have cn := new_any n0 w
  clear hN hcl
  obtain ⟨n, hn⟩ : ∃ n, vars n0 = n := ⟨_, rfl⟩
  rw [hn] at cn ⊢
  have HNV := Lib.hid hn
  clear hn
  go_enter Try.func23, Try.ntmps23
  go_wp2_with fail
  refine cn.mono ?_
  rintro e w1 ⟨rfl, hs1, st, k1⟩
  have cq := qnew_any n0 w1
  rw [HNV.out] at cq
  have ST := Lib.hid st
  have K1 := Lib.hid k1
  clear cn st k1 hs1
  go_wp2_with fail
  refine cq.mono ?_
  rintro e w2 ⟨rfl, hs2, sq, k2⟩
  have htwo : Two w2 w.heap.size w.heap.size w1.heap.size (.slice none 0 0) (.slice none 0 0) n [] [] := ⟨ST.out.below k2, sq.mono K1.out.size, Apart.nil _⟩
  have K3 := Lib.hid (K1.out.trans (k2.mono K1.out.size))
  obtain ⟨p, hp⟩ : ∃ p, w.heap.size = p := ⟨_, rfl⟩
  obtain ⟨q, hq⟩ : ∃ q, w1.heap.size = q := ⟨_, rfl⟩
  have HP := Lib.hid hp
  rw [hp] at htwo K3 ⊢
  rw [hq] at htwo ⊢
  have TW3 := Lib.hid htwo
  clear cq sq k2 hs2 htwo hp hq
  go_wp2_with fail
  go_loopg [16] N (fun gf s16 wx => ∃ (i : Nat) (v1 u1 : Value) (L : List (List Int)), s16 = .int .i64 i ∧ Hid (Two wx p p q v1 u1 n L L) ∧ Hid (Below p w wx) ∧ i ≤ N ∧ N ≤ i + gf)
  case atStart => exact ⟨0, _, _, [], rfl, TW3, K3, by omega, by omega⟩
  case round =>
    obtain ⟨i, v1, u1, L, rfl, HT, HB, hin, hfu⟩ := hrel
    by_cases hlt : i < N
    · obtain ⟨g', rfl⟩ : ∃ g', gk = g' + 1 := ⟨gk - 1, by omega⟩
      have hlt' : (i : Int) < (N : Int) := by omega
      have hi0 : (0 : Int) ≤ i := by omega
      obtain ⟨c, hcx⟩ : ∃ c, l[i]? = some c := ⟨l[i]'(by rw [HN.out]; exact hlt), List.getElem?_eq_getElem _⟩
      obtain ⟨b, off, rfl, hcell⟩ := HCL.out (by omega)
      obtain ⟨x, hx1, hx2⟩ := hcell i c hcx
      have hbw : Below w.heap.size w wr := by rw [HP.out]; exact HB.out
      have c1 := cell_on hx1 hbw
      have hlc := hx2.below hbw
      have LOWC := Lib.hid (show ∀ bb, x.ownBlock = some bb → 0 < c.length → bb < p from fun bb hb hl => by
        obtain ⟨_, xa, xc, e1, _, _, _, hr⟩ := hx2
        obtain ⟨b2, o2, e2, hc2⟩ := hr hl
        subst e1
        subst e2
        simp [Value.ownBlock] at hb
        subst hb
        have := lt_cell (hc2 0 c[0] (List.getElem?_eq_getElem hl))
        rw [HP.out] at this
        exact this)
      obtain ⟨xa, xc, rfl⟩ := hlc.shape
      obtain ⟨C, hC⟩ : ∃ C, c.length = C := ⟨_, rfl⟩
      have HCLN := Lib.hid hC
      have hc9 := hlc.len
      rw [hC] at c1 hlc hc9
      rw [hC] at LOWC
      have HLC := Lib.hid hlc
      clear hcell hcx hx1 hx2 hlc hC hbw
      by_cases h60 : i < 60
      · have g60 : decide ((i : Int) < 60) = true := by simp; omega
        have g60' : (i : Int) < 60 := by omega
        clear h60
        by_cases h30 : C ≤ 30
        · have g30 : decide ((C : Int) ≤ 30) = true := by simp; omega
          rename World => w4
          have ca := add_any HT.out.cs _ c HLC.out (by have := HCLN.out; omega) (by have := HB.out.size; have := HP.out; omega)
          obtain ⟨G, hG⟩ : ∃ G, takes n L c = G := ⟨_, rfl⟩
          obtain ⟨L2, hL2⟩ : ∃ L2, adds n L c = L2 := ⟨_, rfl⟩
          rw [hG, hL2] at ca
          have HGL := Lib.hid (And.intro hG hL2)
          clear hG hL2
          go_wp2_with fail
          refine ca.mono ?_
          rintro e w5 ⟨rfl, v2, s9, g9, k9⟩
          have went : Went 55 w4 p p v1 n w5 v2 L2 := ⟨s9, g9, k9⟩
          have HT5 := Lib.hid (HT.out.left went)
          have HB5 := Lib.hid (HB.out.trans (HT.out.low1 went (by have := HB.out.size; have := HP.out; omega)))
          have HLC5 := Lib.hid (lit_mine HLC.out (LOWC.out) went.chg (fun k hk => HT.out.cs.mineLow k hk))
          clear ca went s9 g9 k9
          have cb := qadd_any HT5.out.qs _ c HLC5.out (by have := HCLN.out; omega) (by have := HB5.out.size; have := HP.out; omega)
          rw [HGL.out.1, HGL.out.2] at cb
          go_wp2_with fail
          refine cb.mono ?_
          rintro e w6 ⟨rfl, u2, s9, g9, k9⟩
          have went : Went 36 w5 p q u1 n w6 u2 L2 := ⟨s9, g9, k9⟩
          have HT6 := Lib.hid (HT5.out.right went)
          have HB6 := Lib.hid (HB5.out.trans (HT5.out.low2 went (by have := HB5.out.size; have := HP.out; omega)))
          clear cb went HT HT5 HB5 HLC5 HLC c1 s9 g9 k9
          go_wp2_with fail
          go_roundg g'
          case measure => omega
          case rel => exact ⟨i + 1, _, _, L2, by go_num, HT6, HB6, by omega, by omega⟩
        · have g30 : decide ((C : Int) ≤ 30) = false := by simp; omega
          clear h30
          go_wp2_with fail
          go_roundg g'
          case measure => omega
          case rel => exact ⟨i + 1, v1, u1, L, by go_num, HT, HB, by omega, by omega⟩
      · have g60 : ¬ ((i : Int) < 60) := by omega
        clear h60
        go_wp2_with fail
        go_roundg g'
        case measure => omega
        case rel => exact ⟨i + 1, v1, u1, L, by go_num, HT, HB, by omega, by omega⟩
    · obtain rfl : i = N := by omega
      have hge : ¬ (i : Int) < (i : Int) := by omega
      go_wp2_with fail
      go_ret2
      exact ⟨p, q, rfl, ⟨v1, u1, L, by rw [HP.out]; exact HT.out⟩, by rw [HP.out]; exact HB.out⟩
end Cn
end Go.Proofs.Ytlpahomaokopoaa

/-
The reference's AtMost.
-/
import Derived.Test.YtlpahomaokopoaaCnfAtM
namespace Go.Proofs.Ytlpahomaokopoaa
open Go.RowKit
set_option linter.unusedSimpArgs false
set_option linter.unusedVariables false
namespace Cn
set_option maxRecDepth 100000 in
set_option maxHeartbeats 16000000 in
theorem qmost_any {B p : Nat} {v : Value} {n : Nat} {L : List (List Int)} {w : World} (h : QSet w B p v n L) (cv : Value) (l : List Int) (hc : LitV w cv l) (hl : l.length ≤ 1000) (hB : B ≤ w.heap.size) :
    Calls Try.prog 18 #[.pointer (some ⟨p, 0, none⟩), cv] w fun e w' => e = .returned (.bool (most n L l).2) ∧ ∃ v', Went 36 w B p v n w' v' (most n L l).1 := by
  obtain ⟨hz, ca, cc, rfl, _, _, _, hr⟩ := hc
  have HZ := Lib.hid hz
  have HR0 := Lib.hid hr
  obtain ⟨C, hC⟩ : ∃ C, l.length = C := ⟨_, rfl⟩
  have HCL := Lib.hid hC
  rw [hC] at HR0 hl ⊢
  have HS := Lib.hid h
  have hv200 := h.vars
  obtain ⟨Rm, hRm⟩ : ∃ Rm, most n L l = Rm := ⟨_, rfl⟩
  have HRM := Lib.hid hRm
  rw [hRm]
  have HNO := Lib.hid (show takes n L l = false → Rm = (L, false) from fun h => by rw [← hRm]; unfold most; rw [if_neg (by rw [h]; decide)])
  have HYES := Lib.hid (show takes n L l = true → addAll n (pairs (firsts [] l)) L = Rm from fun h => by rw [← hRm]; unfold most; rw [if_pos h])
  clear hRm hC h hz hr
  go_enter Try.func18, Try.ntmps18
  go_wp2_with fail
  go_loopg [5, 17] C (fun gf s5 s17 wx => ∃ (k m : Nat) (ra : Option Addr) (rc : Nat), s5 = .slice ra m rc ∧ s17 = .int .i64 k ∧ Hid (Lt wx w.heap.size (.slice ra m rc) (firsts [] (l.take k))) ∧ Hid ((firsts [] (l.take k)).length = m) ∧ Hid (∀ j x, j < k → l[j]? = some x → may n x = true) ∧ Hid (Below w.heap.size w wx) ∧ m ≤ k ∧ k ≤ C ∧ C ≤ k + gf)
  case atStart => exact ⟨0, 0, none, 0, rfl, rfl, Lib.hid (Lt.nil _ _), Lib.hid rfl, Lib.hid (fun j x hj => absurd hj (by omega)), Lib.hid (Below.refl _ _), by omega, by omega, by omega⟩
  case round =>
    obtain ⟨k, m, ra, rc, rfl, rfl, HO, HML, HE, HB, hmk, hkn, hfu⟩ := hrel
    by_cases hlk : k < C
    · obtain ⟨g', rfl⟩ : ∃ g', gk = g' + 1 := ⟨gk - 1, by omega⟩
      have hlk' : (k : Int) < (C : Int) := by omega
      have hk0 : (0 : Int) ≤ k := by omega
      obtain ⟨x, hx⟩ : ∃ x, l[k]? = some x := ⟨l[k]'(by rw [HCL.out]; exact hlk), List.getElem?_eq_getElem _⟩
      obtain ⟨b, off, rfl, hcell⟩ := HR0.out (by omega)
      have c1 := cell_on (hcell k x hx) HB.out
      have HX := Lib.hid hx
      have cm := qmay_any (HS.out.below HB.out) x (HZ.out x (List.mem_of_getElem? hx))
      have htk : l.take (k + 1) = l.take k ++ [x] := by rw [List.take_add_one, hx]; rfl
      have HTK := Lib.hid htk
      obtain ⟨Gm, hGm⟩ : ∃ Gm, may n x = Gm := ⟨_, rfl⟩
      have HGM := Lib.hid hGm
      rw [hGm] at cm
      clear hcell hx hGm htk
      cases Gm with
      | false =>
        have hg := HNO.out (takes_no (List.mem_of_getElem? HX.out) HGM.out)
        subst hg
        go_wp2_with fail
        refine cm.mono ?_
        rintro e w' ⟨rfl, k1⟩
        have K1 := Lib.hid (HB.out.trans (k1.mono HB.out.size))
        clear k1
        go_wp2_with fail
        go_ret
        exact ⟨rfl, _, (Went.refl HS.out).below K1.out⟩
      | true =>
        have HE2 : Hid (∀ j x, j < k + 1 → l[j]? = some x → may n x = true) := Lib.hid (fun j z hj hz => by
          by_cases e : j = k
          · subst e
            rw [HX.out] at hz
            obtain rfl := Option.some.inj hz
            exact HGM.out
          · exact HE.out j z (by omega) hz)
        go_wp2_with fail
        refine cm.mono ?_
        rintro e w2 ⟨rfl, k1⟩
        have HB2 := Lib.hid (HB.out.trans (k1.mono HB.out.size))
        have HO2 := Lib.hid (HO.out.below k1)
        clear k1 c1 cm HO HB HE
        go_wp2_with fail
        rename World => wo
        obtain ⟨F, hF⟩ : ∃ F, firsts [] (l.take k) = F := ⟨_, rfl⟩
        have HFF := Lib.hid hF
        rw [hF] at HO2 HML
        clear hF
        go_loopg [8, 27] m (fun gf s8 s27 wx => ∃ (j : Nat) (b : Bool), s8 = .bool b ∧ s27 = .int .i64 j ∧ wx = wo ∧ Hid (b = decide (x ∈ F.take j)) ∧ j ≤ m ∧ m ≤ j + gf)
        case atStart => exact ⟨0, false, rfl, rfl, rfl, Lib.hid (by simp), by omega, by omega⟩
        case round =>
          obtain ⟨j, bq, rfl, rfl, rfl, HBJ, hjn, hfu2⟩ := hrel
          by_cases hlj : j < m
          · obtain ⟨gk', rfl⟩ : ∃ gk', gk = gk' + 1 := ⟨gk - 1, by omega⟩
            have hlj' : (j : Int) < (m : Int) := by omega
            have hj0 : (0 : Int) ≤ j := by omega
            obtain ⟨y, hy⟩ : ∃ y, F[j]? = some y := ⟨F[j]'(by rw [HML.out]; exact hlj), List.getElem?_eq_getElem _⟩
            have ho1 := HO2.out.2
            rw [HML.out] at ho1
            obtain ⟨R, c9, e1, _⟩ := own_slice ho1 (by omega)
            simp only [Value.slice.injEq, true_and] at e1
            obtain ⟨rfl, rfl⟩ := e1
            have c3 := own_cell ho1 (lcells_get hy)
            have HB3 : Hid ((bq || (x == y)) = decide (x ∈ F.take (j + 1))) := Lib.hid (by
              rw [List.take_add_one, hy, HBJ.out]
              by_cases h1 : x ∈ F.take j
              · simp [h1]
              · by_cases h2 : x = y <;> simp [h1, h2])
            obtain ⟨Q, hQ⟩ : ∃ Q, (x == y) = Q := ⟨_, rfl⟩
            rw [hQ] at HB3
            clear ho1 hy
            cases bq with
            | true =>
              clear hQ
              go_wp2_with fail
              go_roundg gk'
              case measure => omega
              case rel => exact ⟨j + 1, true, rfl, by go_num, rfl, HB3, by omega, by omega⟩
            | false =>
              go_wp2_with fail
              go_roundg gk'
              case measure => omega
              case rel => exact ⟨j + 1, Q, by rfl, by go_num, rfl, HB3, by omega, by omega⟩
          · obtain rfl : j = m := by omega
            have hge : ¬ (j : Int) < (j : Int) := by omega
            have hbq : bq = decide (x ∈ F) := by rw [HBJ.out, ← HML.out, List.take_length]
            have HBQ := Lib.hid hbq
            clear hbq HBJ
            cases bq with
            | true =>
              have hin : x ∈ F := of_decide_eq_true HBQ.out.symm
              have hfi : firsts [] (l.take (k + 1)) = F := by rw [HTK.out, firsts_snoc, HFF.out, if_pos hin]
              have HO3 : Hid (Lt wr w.heap.size (.slice ra j rc) (firsts [] (l.take (k + 1)))) := Lib.hid (by rw [hfi]; exact HO2.out)
              have HML3 : Hid ((firsts [] (l.take (k + 1))).length = j) := Lib.hid (by rw [hfi]; exact HML.out)
              clear hin hfi HO2 HML
              go_wp2_with fail
              go_roundg g'
              case measure => omega
              case rel => exact ⟨k + 1, j, ra, rc, rfl, by go_num, HO3, HML3, HE2, HB2, by omega, by omega, by omega⟩
            | false =>
              have hin : x ∉ F := of_decide_eq_false HBQ.out.symm
              have hfi : firsts [] (l.take (k + 1)) = F ++ [x] := by rw [HTK.out, firsts_snoc, HFF.out, if_neg hin]
              have g2 := (Below.refl wr.heap.size wr).alloc (Nat.le_refl _) (.cells #[.int .i64 x] 45)
              have i2 := Blk.Is.new wr 45 #[.int .i64 x]
              obtain ⟨W2, hW2⟩ : ∃ W2, wr.alloc (.cells #[.int .i64 x] 45) = W2 := ⟨_, rfl⟩
              rw [hW2] at g2 i2
              have hown := (HO2.out.below g2).2
              rw [HML.out] at hown
              have OWN := Lib.hid hown
              have SRC := Lib.hid (show Src Try.prog 1 22 (.slice (some ⟨wr.heap.size, 0, none⟩) 1 1) 1 (lcells [x]) W2 from Src.ofSlice _ Try.underlying22 ⟨wr.heap.size, 0, none⟩ 1 1 _ rfl (fun j u hj => by
                cases j with
                | zero => simp [lcells] at hj; subst hj; rw [Addr.add_mid]; exact i2.at (i := 0) rfl
                | succ j => simp [lcells] at hj) (lcells_one _))
              have hbw : Below w.heap.size w W2 := HB2.out.trans (g2.mono HB2.out.size)
              have hsz := hbw.size
              have HBW := Lib.hid hbw
              have HZO := Lib.hid HO2.out.1
              have HFI := Lib.hid hfi
              obtain ⟨i0, hi, hz0, hz1, hz2⟩ := info_parts infoLit
              have HI := Lib.hid hi
              have hu := hW2
              clear g2 i2 hW2 hown hbw hi HO2 hin hfi
              go_wp2_with (at_builtin; refine Own.wpList_append_src rfl (.tmp 40) (.tmp 42) 22 22 rfl w.heap.size 45 i0 _ 1 8 Try.underlying22 HI.out hz0 hz1 hz2 rfl _ j _ rfl OWN.out _ 1 (lcells [x]) rfl SRC.out ?_ ?_ hsz ?_)
              · simp only [maxLen]; omega
              · omega
              intro v9 w9 o9 g9
              have hb9 : Below w.heap.size w w9 := Own.below_grown HBW.out OWN.out g9 hsz
              have ho9 : Lt w9 w.heap.size v9 (firsts [] (l.take (k + 1))) := by
                rw [HFI.out]
                refine ⟨fun z hz => ?_, ?_⟩
                · rcases List.mem_append.1 hz with h1 | h1
                  · exact HZO.out z h1
                  · have : z = x := by simpa using h1
                    subst this
                    exact HZ.out z (List.mem_of_getElem? HX.out)
                · rw [List.length_append, HML.out, List.length_singleton]
                  unfold lcells at o9 ⊢
                  rw [List.map_append]
                  exact o9
              have HML3 : Hid ((firsts [] (l.take (k + 1))).length = j + 1) := Lib.hid (by rw [HFI.out, List.length_append, HML.out]; rfl)
              obtain ⟨a9, c9, rfl, _⟩ := own_shape o9
              have HO3 := Lib.hid ho9
              have HB3 := Lib.hid hb9
              clear o9 g9 hb9 ho9 OWN SRC HBW hu
              go_wp2_with fail
              go_roundg g'
              case measure => omega
              case rel => exact ⟨k + 1, j + 1, a9, c9, rfl, by go_num, HO3, HML3, HE2, HB3, by omega, by omega, by omega⟩
    · obtain rfl : k = C := by omega
      have hge : ¬ (k : Int) < (k : Int) := by omega
      have e0 : l.take k = l := by rw [← HCL.out, List.take_length]
      rw [e0] at HO HML
      have hmays : mays n l = true := by
        unfold mays
        rw [List.all_eq_true]
        intro x hx
        obtain ⟨j, hj, rfl⟩ := List.mem_iff_getElem.1 hx
        exact HE.out j _ (by rw [← HCL.out]; exact hj) (List.getElem?_eq_getElem hj)
      have HMA : Hid (∀ x ∈ l, x ≠ 0 ∧ x.natAbs ≤ n) := Lib.hid (mays_iff.1 hmays)
      have hs1 := HS.out.below HB.out
      have c1 : wr.cell? ⟨p, 1, none⟩ = some v := hs1.is.at (i := 1) rfl
      obtain ⟨va, vc, ev, _⟩ := HS.out.rows.shape
      obtain ⟨N, hN⟩ : ∃ N, L.length = N := ⟨_, rfl⟩
      have HN := Lib.hid hN
      have hlenN := HS.out.len
      rw [ev, hN] at c1
      rw [hN] at hlenN
      have HEV := Lib.hid ev
      clear ev
      have hT : takes n L l = decide (N < 5000) := by unfold takes; rw [hN, hmays, Bool.and_true]
      have HT := Lib.hid hT
      have HS1 := Lib.hid hs1
      clear hmays hN hT HE hs1
      by_cases hr : N < 5000
      · have g1 : decide ((N : Int) ≥ 5000) = false := by simp; omega
        have HR := Lib.hid (HYES.out (by rw [HT.out]; simp [hr]))
        have HW0 := Lib.hid ((Went.refl HS.out).below HB.out)
        obtain ⟨U, hU⟩ : ∃ U, firsts [] l = U := ⟨_, rfl⟩
        have hUm : ∀ x ∈ U, x ≠ 0 ∧ x.natAbs ≤ n := fun x hx => by
          rw [← hU] at hx
          rcases mem_firsts.1 hx with h1 | h1
          · simp at h1
          · exact HMA.out x h1
        rw [hU] at HO HML HR
        have HUM := Lib.hid hUm
        clear hU hUm
        go_wp2_with fail
        rename World => w2
        have HUL := HML
        have OU := HO
        obtain ⟨_, _, e9, hc9, hm9, _⟩ := own_shape OU.out.2
        rw [HUL.out] at e9 hc9
        simp only [Value.slice.injEq, true_and] at e9
        obtain ⟨e8, e7⟩ := e9
        subst e7
        clear e8
        unfold maxLen at hm9
        have hUl : m ≤ 1000 := by omega
        clear c1
        go_loopg [53] m (fun gf si wx => ∃ (i : Nat) (v' : Value) (L' : List (List Int)), si = .int .i64 i ∧ Hid (Went 36 w B p v n wx v' L') ∧ Hid (Lt wx w.heap.size (.slice ra m rc) U) ∧ Hid (addAll n (pairs (U.drop i)) L' = Rm) ∧ i ≤ m ∧ m ≤ i + gf)
        case atStart => exact ⟨0, _, L, rfl, HW0, OU, by rw [List.drop_zero]; exact HR, by omega, by omega⟩
        case round =>
          obtain ⟨i, v', L', rfl, HW, HU, HA, hin, hfu⟩ := hrel
          by_cases hlt : i < m
          · obtain ⟨g', rfl⟩ : ∃ g', gk = g' + 1 := ⟨gk - 1, by omega⟩
            have hlt' : (i : Int) < (m : Int) := by omega
            have hi0 : (0 : Int) ≤ i := by omega
            obtain ⟨x, hx⟩ : ∃ x, U[i]? = some x := ⟨U[i]'(by rw [HUL.out]; exact hlt), List.getElem?_eq_getElem _⟩
            have ho1 := HU.out.2
            rw [HUL.out] at ho1
            obtain ⟨R, c9, e1, _⟩ := own_slice ho1 (by omega)
            simp only [Value.slice.injEq, true_and] at e1
            obtain ⟨rfl, rfl⟩ := e1
            have c1 := own_cell ho1 (lcells_get hx)
            have hxm := HUM.out x (List.mem_of_getElem? hx)
            have HA1 := Lib.hid (show addAll n (denials x (U.drop (i + 1)) ++ pairs (U.drop (i + 1))) L' = Rm by rw [← drop_pairs hx]; exact HA.out)
            have hxn : wrap64 (-x) = -x := IntWalk.wrap64_in _ ⟨by omega, by omega⟩
            have HXM := Lib.hid hxm
            clear ho1 hx hxm HA
            by_cases hcap : rc = i + 1
            · have hM : m - (i + 1) = 0 := by omega
              have HAN := Lib.hid (show addAll n (pairs (U.drop (i + 1))) L' = Rm by
                have := HA1.out
                rw [den_none (by have := HUL.out; omega)] at this
                exact this)
              go_wp2_with fail
              clear c1
              rename World => wo
              go_loopg [63] 0 (fun gf sj wx => sj = .int .i64 0 ∧ wx = wo)
              case atStart => exact ⟨rfl, rfl⟩
              case round =>
                obtain ⟨rfl, rfl⟩ := hrel
                go_wp2_with fail
                go_roundg g'
                case measure => omega
                case rel => exact ⟨i + 1, v', L', by go_num, HW, HU, HAN, by omega, by omega⟩
            · go_wp2_with fail
              clear c1
              obtain ⟨K, hK⟩ : ∃ K, m - (i + 1) = K := ⟨_, rfl⟩
              rw [hK]
              have hK9 : K ≤ 1000 := by omega
              have HKM := Lib.hid hK
              clear hK
              rename World => wo
              go_loopg [63] K (fun gf sj wx => ∃ (j : Nat) (v' : Value) (L' : List (List Int)), sj = .int .i64 j ∧ Hid (Went 36 w B p v n wx v' L') ∧ Hid (Lt wx w.heap.size (.slice (some ⟨R, 0, none⟩) m rc) U) ∧ Hid (addAll n (denials x (U.drop (i + 1 + j)) ++ pairs (U.drop (i + 1))) L' = Rm) ∧ j ≤ K ∧ K ≤ j + gf)
              case atStart => exact ⟨0, v', L', rfl, HW, HU, HA1, by omega, by omega⟩
              case round =>
                clear HW HU HA1
                obtain ⟨j, v', L', rfl, HW, HU, HA, hjn, hfu2⟩ := hrel
                by_cases hlj : j < K
                · obtain ⟨gk', rfl⟩ : ∃ gk', gk = gk' + 1 := ⟨gk - 1, by omega⟩
                  have hlj' : (j : Int) < (K : Int) := by omega
                  have hj0 : (0 : Int) ≤ j := by omega
                  have hju : i + 1 + j < U.length := by have := HUL.out; have := HKM.out; omega
                  obtain ⟨y, hy⟩ : ∃ y, U[i + 1 + j]? = some y := ⟨U[i + 1 + j], List.getElem?_eq_getElem _⟩
                  have c2 : wr.cell? ⟨R, i + 1 + j, none⟩ = some (.int .i64 y) := by
                    have := HU.out.2
                    rw [HUL.out] at this
                    exact own_cell this (lcells_get hy)
                  have hym := HUM.out y (List.mem_of_getElem? hy)
                  have hyn : wrap64 (-y) = -y := IntWalk.wrap64_in _ ⟨by omega, by omega⟩
                  have hxm := HXM.out
                  have hb0 := (Below.refl wr.heap.size wr).alloc (Nat.le_refl _) (.cells #[.int .i64 (-x), .int .i64 (-y)] 45)
                  have i0 := Blk.Is.new wr 45 #[.int .i64 (-x), .int .i64 (-y)]
                  obtain ⟨W, hW⟩ : ∃ W, wr.alloc (.cells #[.int .i64 (-x), .int .i64 (-y)] 45) = W := ⟨_, rfl⟩
                  rw [hW] at hb0 i0
                  have hw1 := HW.out.below hb0
                  have hu1 := HU.out.below hb0
                  have ca := qadd_any hw1.set (.slice (some ⟨wr.heap.size, 0, none⟩) 2 2) [-x, -y] (lit_new (l := [-x, -y]) i0 (by intro z hz; simp at hz; unfold I64; omega) (by simp)) (by simp) (by have := hw1.chg.size; omega)
                  have hu := hW
                  have HA2 := Lib.hid (show addAll n ([-x, -y] :: (denials x (U.drop (i + 1 + j + 1)) ++ pairs (U.drop (i + 1)))) L' = Rm by
                    have := HA.out
                    rw [drop_den hy] at this
                    exact this)
                  obtain ⟨Ga, hGa⟩ : ∃ Ga, takes n L' [-x, -y] = Ga := ⟨_, rfl⟩
                  have HGA := Lib.hid hGa
                  rw [hGa] at ca
                  have HW1 := Lib.hid hw1
                  have HU1 := Lib.hid hu1
                  clear hy hju hym hxm hb0 i0 hW hw1 hu1 hGa HA HW HU
                  cases Ga with
                  | true =>
                    go_wp2_with fail
                    refine ca.mono ?_
                    rintro e w9 ⟨rfl, v9, s9, g9, k9⟩
                    have HWN := Lib.hid (HW1.out.more ⟨s9, g9, k9⟩)
                    have HUN := Lib.hid (HU1.out.chg k9 fun k hk => by
                      obtain ⟨cs, hcs⟩ := HU1.out.is hk
                      exact HW1.out.set.mineLit (by decide) k cs hcs)
                    have HAN := Lib.hid (show addAll n (denials x (U.drop (i + 1 + (j + 1))) ++ pairs (U.drop (i + 1))) (adds n L' [-x, -y]) = Rm by
                      rw [← HA2.out, addAll_yes HGA.out]
                      rfl)
                    clear s9 g9 k9 HW1 HU1 HA2 HGA hu c2 hyn
                    go_wp2_with fail
                    go_roundg gk'
                    case measure => omega
                    case rel => exact ⟨j + 1, v9, _, by go_num, HWN, HUN, HAN, by omega, by omega⟩
                  | false =>
                    have hfin : Rm = (adds n L' [-x, -y], false) := by rw [← HA2.out, addAll_no HGA.out]
                    subst hfin
                    go_wp2_with fail
                    refine ca.mono ?_
                    rintro e w9 ⟨rfl, v9, s9, g9, k9⟩
                    have HWN := Lib.hid (HW1.out.more ⟨s9, g9, k9⟩)
                    clear s9 g9 k9 HW1 HU1 HA2 HGA hu c2 hyn
                    go_wp2_with fail
                    go_ret
                    exact ⟨rfl, _, HWN.out⟩
                · obtain rfl : j = K := by omega
                  have hge : ¬ (j : Int) < (j : Int) := by omega
                  have HAN := Lib.hid (show addAll n (pairs (U.drop (i + 1))) L' = Rm by
                    have := HA.out
                    rw [den_none (by have := HUL.out; have := HKM.out; omega)] at this
                    exact this)
                  clear HA
                  go_wp2_with fail
                  go_roundg g'
                  case measure => omega
                  case rel => exact ⟨i + 1, v', L', by go_num, HW, HU, HAN, by omega, by omega⟩
          · obtain rfl : i = m := by omega
            have hge : ¬ (i : Int) < (i : Int) := by omega
            have hfin : Rm = (L', true) := by
              rw [← HA.out, pairs_none (by rw [HUL.out]; exact Nat.le_refl _)]
              rfl
            subst hfin
            go_wp2_with fail
            go_ret
            exact ⟨rfl, _, HW.out⟩
      · have g1 : decide ((N : Int) ≥ 5000) = true := by simp; omega
        have hg := HNO.out (by rw [HT.out]; simp [hr])
        subst hg
        go_wp2_with fail
        go_ret
        exact ⟨rfl, _, (Went.refl HS.out).below HB.out⟩
end Cn
end Go.Proofs.Ytlpahomaokopoaa

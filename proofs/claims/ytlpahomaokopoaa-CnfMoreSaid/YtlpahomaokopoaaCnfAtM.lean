/-
AtMost of a set.
-/
import Derived.Test.YtlpahomaokopoaaCnfMost
namespace Go.Proofs.Ytlpahomaokopoaa
open Go.RowKit
set_option linter.unusedSimpArgs false
set_option linter.unusedVariables false
namespace Cn
theorem chg_more {S T : Nat → Prop} {w wx w2 : World} (h : Blk.Chg S w wx) (k : Blk.Chg T wx w2) (hs : ∀ i, i < w.heap.size → T i → S i) : Blk.Chg S w w2 :=
  ⟨k.os.trans h.os, k.tape.trans h.tape, k.output.trans h.output, Nat.le_trans h.size k.size, fun i hi hn => (k.block i (Nat.lt_of_lt_of_le hi h.size) fun ht => hn (hs i hi ht)).trans (h.block i hi hn)⟩
theorem mine_grow {w : World} {p : Nat} {v v' : Value} (g : Grow w v v') : ∀ i, i < w.heap.size → Mine p v' i → Mine p v i := by
  rintro i hi (rfl | h)
  · exact .inl rfl
  · rcases g i h with h1 | h1
    · exact .inr h1
    · omega
theorem chg_below {S : Nat → Prop} {w wx w2 : World} (h : Blk.Chg S w wx) (k : Below wx.heap.size wx w2) : Blk.Chg S w w2 := h.trans (Blk.Chg.ofBelow' k)
/-- What AtMost may change, what it leaves. -/
structure Went (T : TypeId) (w : World) (B p : Nat) (v : Value) (n : Nat) (w' : World) (v' : Value) (L' : List (List Int)) : Prop where
  set : SetP T w' B p v' n L'
  grow : Grow w v v'
  chg : Blk.Chg (Mine p v) w w'
theorem Went.below {T : TypeId} {w : World} {B p : Nat} {v : Value} {n : Nat} {w' w2 : World} {v' : Value} {L' : List (List Int)} (h : Went T w B p v n w' v' L') (k : Below w'.heap.size w' w2) : Went T w B p v n w2 v' L' := ⟨h.set.below k, h.grow, chg_below h.chg k⟩
theorem Went.more {T : TypeId} {w : World} {B p : Nat} {v : Value} {n : Nat} {w' w2 : World} {v' v2 : Value} {L' L2 : List (List Int)} (h : Went T w B p v n w' v' L') (k : Went T w' B p v' n w2 v2 L2) : Went T w B p v n w2 v2 L2 :=
  ⟨k.set, h.grow.trans k.grow h.chg.size, chg_more h.chg k.chg (mine_grow h.grow)⟩
theorem Went.refl {T : TypeId} {w : World} {B p : Nat} {v : Value} {n : Nat} {L : List (List Int)} (h : SetP T w B p v n L) : Went T w B p v n w v L := ⟨h, Grow.refl _ _, Blk.Chg.refl _ _⟩
theorem Went.low {T : TypeId} {w : World} {B p : Nat} {v : Value} {n : Nat} {w' : World} {v' : Value} {L L' : List (List Int)} (h : Went T w B p v n w' v' L') (h0 : SetP T w B p v n L) (hB : B ≤ w.heap.size) : Below B w w' := h.chg.below h0.mineLow hB
theorem drop_pairs {U : List Int} {i : Nat} {x : Int} (h : U[i]? = some x) : pairs (U.drop i) = denials x (U.drop (i + 1)) ++ pairs (U.drop (i + 1)) := by
  obtain ⟨hi, rfl⟩ := List.getElem?_eq_some_iff.1 h
  rw [List.drop_eq_getElem_cons hi]
  rfl
theorem drop_den {U : List Int} {i : Nat} {x y : Int} (h : U[i]? = some y) : denials x (U.drop i) = [-x, -y] :: denials x (U.drop (i + 1)) := by
  obtain ⟨hi, rfl⟩ := List.getElem?_eq_some_iff.1 h
  rw [List.drop_eq_getElem_cons hi]
  rfl
theorem den_none {U : List Int} {i : Nat} {x : Int} (h : U.length ≤ i) : denials x (U.drop i) = [] := by
  rw [List.drop_eq_nil_of_le h]; rfl
theorem pairs_none {U : List Int} {i : Nat} (h : U.length ≤ i) : pairs (U.drop i) = [] := by
  rw [List.drop_eq_nil_of_le h]; rfl
set_option maxRecDepth 100000 in
set_option maxHeartbeats 16000000 in
theorem most_any {B p : Nat} {v : Value} {n : Nat} {L : List (List Int)} {w : World} (h : CSet w B p v n L) (cv : Value) (l : List Int) (hc : LitV w cv l) (hl : l.length ≤ 1000) (hB : B ≤ w.heap.size) :
    Calls Try.prog 17 #[.pointer (some ⟨p, 0, none⟩), cv] w fun e w' => e = .returned (.bool (most n L l).2) ∧ ∃ v', Went 55 w B p v n w' v' (most n L l).1 := by
  have ct := takes_any p v n L B cv l w h hc
  have hlz := hc.1
  obtain ⟨ca, cc, rfl⟩ := hc.shape
  obtain ⟨C, hC⟩ : ∃ C, l.length = C := ⟨_, rfl⟩
  have HCL := Lib.hid hC
  rw [hC] at ct hc hl ⊢
  have HC := Lib.hid hc
  have HS := Lib.hid h
  have HLZ := Lib.hid hlz
  obtain ⟨G, hG⟩ : ∃ G, takes n L l = G := ⟨_, rfl⟩
  have HG := Lib.hid hG
  rw [hG] at ct
  clear hG hC hc h hlz
  cases G with
  | false =>
    have HM := Lib.hid (show most n L l = (L, false) by unfold most; rw [if_neg (by rw [HG.out]; decide)])
    rw [HM.out]
    go_enter Try.func17, Try.ntmps17
    go_wp2_with fail
    refine ct.mono ?_
    rintro e w1 ⟨rfl, k1⟩
    have K1 := Lib.hid k1
    clear k1 ct
    go_wp2_with fail
    go_ret
    exact ⟨rfl, _, (Went.refl HS.out).below K1.out⟩
  | true =>
    obtain ⟨Rf, hR⟩ : ∃ Rf, addAll n (pairs (firsts [] l)) L = Rf := ⟨_, rfl⟩
    have HR := Lib.hid hR
    have HM := Lib.hid (show most n L l = Rf by unfold most; rw [if_pos HG.out]; exact hR)
    rw [HM.out]
    have hmays : ∀ x ∈ l, x ≠ 0 ∧ x.natAbs ≤ n := by
      have := HG.out
      unfold takes at this
      rw [Bool.and_eq_true] at this
      exact mays_iff.1 this.2
    have HMA := Lib.hid hmays
    clear hR hmays
    go_enter Try.func17, Try.ntmps17
    go_wp2_with fail
    refine ct.mono ?_
    rintro e w1 ⟨rfl, k1⟩
    have cu := unlike_any (HS.out.below k1) (.slice ca C cc) l (HC.out.below k1) HMA.out (by rw [HCL.out]; exact hl)
    have W1 := Lib.hid ((Went.refl HS.out).below k1)
    clear k1 ct
    go_wp2_with fail
    refine cu.mono ?_
    rintro e w2 ⟨vu, rfl, ou, ku⟩
    have HW0 := Lib.hid (W1.out.below ku)
    clear cu ku W1
    obtain ⟨U, hU⟩ : ∃ U, firsts [] l = U := ⟨_, rfl⟩
    have hUl : U.length ≤ 1000 := by
      have := firsts_len (l := l) (u := [])
      rw [hU, HCL.out] at this
      simp at this
      omega
    have hUm : ∀ x ∈ U, x ≠ 0 ∧ x.natAbs ≤ n := fun x hx => by
      rw [← hU] at hx
      rcases mem_firsts.1 hx with h1 | h1
      · simp at h1
      · exact HMA.out x h1
    rw [hU] at ou HR
    have HUM := Lib.hid hUm
    obtain ⟨ua, uc, e9, hc9, hm9, _⟩ := own_shape ou.2
    unfold maxLen at hm9
    subst e9
    obtain ⟨M, hM⟩ : ∃ M, U.length = M := ⟨_, rfl⟩
    have HUL := Lib.hid hM
    rw [hM] at hUl hc9 ou ⊢
    have OU := Lib.hid ou
    clear hU hUm hM ou
    have hv200 := HS.out.vars
    go_wp2_with fail
    go_loopg [19] M (fun gf si wx => ∃ (i : Nat) (v' : Value) (L' : List (List Int)), si = .int .i64 i ∧ Hid (Went 55 w B p v n wx v' L') ∧ Hid (Lt wx w1.heap.size (.slice ua M uc) U) ∧ Hid (addAll n (pairs (U.drop i)) L' = Rf) ∧ i ≤ M ∧ M ≤ i + gf)
    case atStart => exact ⟨0, v, L, rfl, HW0, OU, by rw [List.drop_zero]; exact HR, by omega, by omega⟩
    case round =>
      obtain ⟨i, v', L', rfl, HW, HU, HA, hin, hfu⟩ := hrel
      by_cases hlt : i < M
      · obtain ⟨g', rfl⟩ : ∃ g', gk = g' + 1 := ⟨gk - 1, by omega⟩
        have hlt' : (i : Int) < (M : Int) := by omega
        have hi0 : (0 : Int) ≤ i := by omega
        obtain ⟨x, hx⟩ : ∃ x, U[i]? = some x := ⟨U[i]'(by rw [HUL.out]; exact hlt), List.getElem?_eq_getElem _⟩
        have ho1 := HU.out.2
        rw [HUL.out] at ho1
        obtain ⟨R, c9, e1, _⟩ := own_slice ho1 (by omega)
        simp only [Value.slice.injEq, true_and] at e1
        obtain ⟨rfl, rfl⟩ := e1
        have c1 := own_cell ho1 (lcells_get hx)
        have hxm := HUM.out x (List.mem_of_getElem? hx)
        have HA1 := Lib.hid (show addAll n (denials x (U.drop (i + 1)) ++ pairs (U.drop (i + 1))) L' = Rf by rw [← drop_pairs hx]; exact HA.out)
        have hxn : wrap64 (-x) = -x := IntWalk.wrap64_in _ ⟨by omega, by omega⟩
        have HXM := Lib.hid hxm
        clear ho1 hx hxm HA
        by_cases hcap : uc = i + 1
        · have hM : M - (i + 1) = 0 := by omega
          have HAN := Lib.hid (show addAll n (pairs (U.drop (i + 1))) L' = Rf by
            have := HA1.out
            rw [den_none (by have := HUL.out; omega)] at this
            exact this)
          go_wp2_with fail
          clear c1
          rename World => wo
          go_loopg [29] 0 (fun gf sj wx => sj = .int .i64 0 ∧ wx = wo)
          case atStart => exact ⟨rfl, rfl⟩
          case round =>
            obtain ⟨rfl, rfl⟩ := hrel
            go_wp2_with fail
            go_roundg g'
            case measure => omega
            case rel => exact ⟨i + 1, v', L', by go_num, HW, HU, HAN, by omega, by omega⟩
        · go_wp2_with fail
          clear c1
          obtain ⟨K, hK⟩ : ∃ K, M - (i + 1) = K := ⟨_, rfl⟩
          rw [hK]
          have hK9 : K ≤ 1000 := by omega
          have HKM := Lib.hid hK
          clear hK
          rename World => wo
          go_loopg [29] K (fun gf sj wx => ∃ (j : Nat) (v' : Value) (L' : List (List Int)), sj = .int .i64 j ∧ Hid (Went 55 w B p v n wx v' L') ∧ Hid (Lt wx w1.heap.size (.slice (some ⟨R, 0, none⟩) M uc) U) ∧ Hid (addAll n (denials x (U.drop (i + 1 + j)) ++ pairs (U.drop (i + 1))) L' = Rf) ∧ j ≤ K ∧ K ≤ j + gf)
          case atStart => exact ⟨0, v', L', rfl, HW, HU, HA1, by omega, by omega⟩
          case round =>
            clear HW HU HA1
            obtain ⟨j, v', L', rfl, HW, HU, HA, hjn, hfu2⟩ := hrel
            by_cases hlj : j < K
            · obtain ⟨gk', rfl⟩ : ∃ gk', gk = gk' + 1 := ⟨gk - 1, by omega⟩
              have hlj' : (j : Int) < (K : Int) := by omega
              have hj0 : (0 : Int) ≤ j := by omega
              have hju : i + 1 + j < U.length := by have := HUL.out; have := HKM.out; omega
              obtain ⟨y, hy⟩ : ∃ y, U[i + 1 + j]? = some y := ⟨U[i + 1 + j], List.getElem?_eq_getElem _⟩
              have c2 : wr.cell? ⟨R, i + 1 + j, none⟩ = some (.int .i64 y) := by
                have := HU.out.2
                rw [HUL.out] at this
                exact own_cell this (lcells_get hy)
              have hym := HUM.out y (List.mem_of_getElem? hy)
              have hyn : wrap64 (-y) = -y := IntWalk.wrap64_in _ ⟨by omega, by omega⟩
              have hxm := HXM.out
              have hb0 := (Below.refl wr.heap.size wr).alloc (Nat.le_refl _) (.cells #[.int .i64 (-x), .int .i64 (-y)] 45)
              have i0 := Blk.Is.new wr 45 #[.int .i64 (-x), .int .i64 (-y)]
              obtain ⟨W, hW⟩ : ∃ W, wr.alloc (.cells #[.int .i64 (-x), .int .i64 (-y)] 45) = W := ⟨_, rfl⟩
              rw [hW] at hb0 i0
              have hw1 := HW.out.below hb0
              have hu1 := HU.out.below hb0
              have ca := add_any hw1.set (.slice (some ⟨wr.heap.size, 0, none⟩) 2 2) [-x, -y] (lit_new (l := [-x, -y]) i0 (by intro z hz; simp at hz; unfold I64; omega) (by simp)) (by simp) (by have := hw1.chg.size; omega)
              have hu := hW
              have HA2 := Lib.hid (show addAll n ([-x, -y] :: (denials x (U.drop (i + 1 + j + 1)) ++ pairs (U.drop (i + 1)))) L' = Rf by
                have := HA.out
                rw [drop_den hy] at this
                exact this)
              obtain ⟨Ga, hGa⟩ : ∃ Ga, takes n L' [-x, -y] = Ga := ⟨_, rfl⟩
              have HGA := Lib.hid hGa
              rw [hGa] at ca
              have HW1 := Lib.hid hw1
              have HU1 := Lib.hid hu1
              clear hy hju hym hxm hb0 i0 hW hw1 hu1 hGa HA HW HU
              cases Ga with
              | true =>
                go_wp2_with fail
                refine ca.mono ?_
                rintro e w9 ⟨rfl, v9, s9, g9, k9⟩
                have HWN := Lib.hid (HW1.out.more ⟨s9, g9, k9⟩)
                have HUN := Lib.hid (HU1.out.chg k9 fun k hk => by
                  obtain ⟨cs, hcs⟩ := HU1.out.is hk
                  exact HW1.out.set.mineLit (by decide) k cs hcs)
                have HAN := Lib.hid (show addAll n (denials x (U.drop (i + 1 + (j + 1))) ++ pairs (U.drop (i + 1))) (adds n L' [-x, -y]) = Rf by
                  rw [← HA2.out, addAll_yes HGA.out]
                  rfl)
                clear s9 g9 k9 HW1 HU1 HA2 HGA hu c2 hyn
                go_wp2_with fail
                go_roundg gk'
                case measure => omega
                case rel => exact ⟨j + 1, v9, _, by go_num, HWN, HUN, HAN, by omega, by omega⟩
              | false =>
                have hfin : Rf = (adds n L' [-x, -y], false) := by rw [← HA2.out, addAll_no HGA.out]
                subst hfin
                go_wp2_with fail
                refine ca.mono ?_
                rintro e w9 ⟨rfl, v9, s9, g9, k9⟩
                have HWN := Lib.hid (HW1.out.more ⟨s9, g9, k9⟩)
                clear s9 g9 k9 HW1 HU1 HA2 HGA hu c2 hyn
                go_wp2_with fail
                go_ret
                exact ⟨rfl, _, HWN.out⟩
            · obtain rfl : j = K := by omega
              have hge : ¬ (j : Int) < (j : Int) := by omega
              have HAN := Lib.hid (show addAll n (pairs (U.drop (i + 1))) L' = Rf by
                have := HA.out
                rw [den_none (by have := HUL.out; have := HKM.out; omega)] at this
                exact this)
              clear HA
              go_wp2_with fail
              go_roundg g'
              case measure => omega
              case rel => exact ⟨i + 1, v', L', by go_num, HW, HU, HAN, by omega, by omega⟩
      · obtain rfl : i = M := by omega
        have hge : ¬ (i : Int) < (i : Int) := by omega
        have hfin : Rf = (L', true) := by
          rw [← HA.out, pairs_none (by rw [HUL.out]; exact Nat.le_refl _)]
          rfl
        subst hfin
        go_wp2_with fail
        go_ret
        exact ⟨rfl, _, HW.out⟩
end Cn
end Go.Proofs.Ytlpahomaokopoaa

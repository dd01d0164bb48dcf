/-
The reference's Add, Holds.
-/
import Derived.Test.YtlpahomaokopoaaCnfQSet
namespace Go.Proofs.Ytlpahomaokopoaa
open Go.RowKit
set_option linter.unusedSimpArgs false
set_option linter.unusedVariables false
namespace Cn
theorem takes_no {n : Nat} {L : List (List Int)} {c : List Int} {x : Int} (hx : x ∈ c) (h : may n x = false) : takes n L c = false := by
  have : mays n c = false := by
    unfold mays
    rw [List.all_eq_false]
    exact ⟨x, hx, by rw [h]; decide⟩
  unfold takes
  rw [this, Bool.and_false]
set_option maxRecDepth 100000 in
set_option maxHeartbeats 16000000 in
theorem qadd_any {B p : Nat} {v : Value} {n : Nat} {L : List (List Int)} {w : World} (h : QSet w B p v n L) (cv : Value) (c : List Int) (hc : LitV w cv c) (hl : c.length ≤ 1000) (hB : B ≤ w.heap.size) :
    Calls Try.prog 20 #[.pointer (some ⟨p, 0, none⟩), cv] w fun e w' => e = .returned (.bool (takes n L c)) ∧ ∃ v', QSet w' B p v' n (adds n L c) ∧ Grow w v v' ∧ Blk.Chg (Mine p v) w w' := by
  obtain ⟨G, hG⟩ : ∃ G, takes n L c = G := ⟨_, rfl⟩
  have HG := Lib.hid hG
  rw [hG]
  have HC := Lib.hid h
  have HCV := Lib.hid hc
  obtain ⟨hz, ca, cc, rfl, _, _, _, hr⟩ := hc
  have HZ := Lib.hid hz
  have HR := Lib.hid hr
  obtain ⟨C, hC⟩ : ∃ C, c.length = C := ⟨_, rfl⟩
  rw [hC] at hl HR HCV ⊢
  have HCL := Lib.hid hC
  obtain ⟨va, vc, rfl, hvc, hvm⟩ := h.rows.shape
  obtain ⟨N, hN⟩ : ∃ N, L.length = N := ⟨_, rfl⟩
  have HN := Lib.hid hN
  have hlenN := h.len
  rw [hN] at HC hvc hlenN ⊢
  have HNO := Lib.hid (fun (h : G = false) => (show adds n L c = L by unfold adds; rw [if_neg (by rw [HG.out, h]; decide)]))
  clear hG h hC hN hz hr
  go_enter Try.func20, Try.ntmps20
  go_wp2_with fail
  go_loopg [11] C (fun gf s11 wx => ∃ k : Nat, s11 = .int .i64 k ∧ Hid (Below w.heap.size w wx) ∧ Hid (∀ j x, j < k → c[j]? = some x → may n x = true) ∧ k ≤ C ∧ C ≤ k + gf)
  case atStart => exact ⟨0, rfl, Below.refl _ _, Lib.hid (fun j x hj => absurd hj (by omega)), by omega, by omega⟩
  case round =>
    obtain ⟨k, rfl, HB, HE, hkn, hfu⟩ := hrel
    by_cases hlk : k < C
    · obtain ⟨g', rfl⟩ : ∃ g', gk = g' + 1 := ⟨gk - 1, by omega⟩
      have hlk' : (k : Int) < (C : Int) := by omega
      have hk0 : (0 : Int) ≤ k := by omega
      obtain ⟨x, hx⟩ : ∃ x, c[k]? = some x := ⟨c[k]'(by rw [HCL.out]; exact hlk), List.getElem?_eq_getElem _⟩
      obtain ⟨b, off, rfl, hcell⟩ := HR.out (by omega)
      have c1 := cell_on (hcell k x hx) HB.out
      have HX := Lib.hid hx
      have cm := qmay_any (HC.out.below HB.out) x (HZ.out x (List.mem_of_getElem? hx))
      obtain ⟨Gm, hGm⟩ : ∃ Gm, may n x = Gm := ⟨_, rfl⟩
      have HGM := Lib.hid hGm
      rw [hGm] at cm
      clear hcell hx hGm
      cases Gm with
      | false =>
        have hg : G = false := by rw [← HG.out]; exact takes_no (List.mem_of_getElem? HX.out) HGM.out
        subst hg
        go_wp2_with fail
        refine cm.mono ?_
        rintro e w' ⟨rfl, k1⟩
        have K1 := Lib.hid (HB.out.trans (k1.mono HB.out.size))
        clear k1
        go_wp2_with fail
        go_ret
        exact ⟨rfl, _, by rw [HNO.out trivial]; exact HC.out.below K1.out, Grow.refl _ _, Blk.Chg.ofBelow' K1.out⟩
      | true =>
        go_wp2_with fail
        refine cm.mono ?_
        rintro e w' ⟨rfl, k1⟩
        have HB2 := Lib.hid (HB.out.trans (k1.mono HB.out.size))
        have HE2 : Hid (∀ j x, j < k + 1 → c[j]? = some x → may n x = true) := Lib.hid (fun j z hj hz => by
          by_cases e : j = k
          · subst e
            rw [HX.out] at hz
            obtain rfl := Option.some.inj hz
            exact HGM.out
          · exact HE.out j z (by omega) hz)
        clear k1 c1
        go_wp2_with fail
        go_roundg g'
        case measure => omega
        case rel => exact ⟨k + 1, by go_num, HB2, HE2, by omega, by omega⟩
    · obtain rfl : k = C := by omega
      have hge : ¬ (k : Int) < (k : Int) := by omega
      have hmays : mays n c = true := by
        unfold mays
        rw [List.all_eq_true]
        intro x hx
        obtain ⟨j, hj, rfl⟩ := List.mem_iff_getElem.1 hx
        exact HE.out j _ (by rw [← HCL.out]; exact hj) (List.getElem?_eq_getElem hj)
      have hG2 : decide (N < 5000) = G := by rw [← HG.out]; unfold takes; rw [HN.out, hmays, Bool.and_true]
      have hs1 := HC.out.below HB.out
      have c1 : wr.cell? ⟨p, 1, none⟩ = some (.slice va N vc) := hs1.is.at (i := 1) rfl
      clear hmays HE
      by_cases hr : N < 5000
      · have g1 : decide ((N : Int) ≥ 5000) = false := by simp; omega
        have hg : G = true := by rw [← hG2]; simp [hr]
        subst hg
        have cy := qtidy_any _ c wr (HCV.out.below HB.out) (by rw [HCL.out]; omega)
        have HS1 := Lib.hid hs1
        clear hG2 hs1
        go_wp2_with fail
        refine cy.mono ?_
        rintro e w2 ⟨v2, rfl, o2, k2⟩
        have hs2 := HS1.out.below k2
        have HB2 := Lib.hid (HB.out.trans (k2.mono HB.out.size))
        clear cy k2 HS1 c1
        obtain ⟨Gb, hGb⟩ : ∃ Gb, bad c = Gb := ⟨_, rfl⟩
        have HGB := Lib.hid hGb
        rw [hGb]
        obtain ⟨ta, tc, rfl⟩ := o2.lit.shape
        cases Gb with
        | true =>
          have HA := Lib.hid (show adds n L c = L by unfold adds addL; rw [if_pos HG.out, if_pos HGB.out])
          have HF := Lib.hid hs2
          clear hs2 o2 hGb
          go_wp2_with fail
          go_ret
          exact ⟨rfl, _, by rw [HA.out]; exact HF.out, Grow.refl _ _, Blk.Chg.ofBelow' HB2.out⟩
        | false =>
          have hA : adds n L c = L ++ [tid c] := by unfold adds addL; rw [if_pos HG.out, if_neg (by rw [HGB.out]; decide)]
          have HLEN := Lib.hid (show (L ++ [tid c]).length ≤ 5000 by rw [← hA]; exact adds_len HC.out.len)
          have HOK := Lib.hid (show Okay n (L ++ [tid c]) by rw [← hA]; exact okay_adds HC.out.okay)
          have HSM := Lib.hid (show Small (L ++ [tid c]) by rw [← hA]; exact small_adds HC.out.small (by rw [HCL.out]; exact hl))
          have HA := Lib.hid hA
          rw [tidy_no HGB.out] at o2
          have hT : (tidy c).length = (tid c).length := by rw [tidy_no HGB.out]
          obtain ⟨M, hM⟩ : ∃ M, (tidy c).length = M := ⟨_, rfl⟩
          rw [← hT, hM] at o2
          rw [hM]
          clear hA hT hM hGb
          have hc1 : w2.cell? ⟨p, 1, none⟩ = some (.slice va N vc) := hs2.is.at (i := 1) rfl
          -- the new block
          have g2 := (Below.refl w2.heap.size w2).alloc (Nat.le_refl _) (.cells #[.slice ta M tc] 22)
          have i2 := Blk.Is.new w2 22 #[.slice ta M tc]
          have HS2 := Lib.hid (is_on hs2.is g2)
          have hR2 := hs2.rows.below g2
          have B2 := Lib.hid (HB2.out.trans (g2.mono HB2.out.size))
          have T2 := Lib.hid ((o2.mono (B' := B) (by have := HB.out.size; omega)).below g2)
          obtain ⟨hs, own, hL⟩ := hR2
          rw [HN.out] at own
          have HL := Lib.hid hL
          have hlen : hs.length = N := by rw [own.1, Nat.mul_one]
          have hBn : B ≤ (w2.alloc (.cells #[.slice ta M tc] 22)).heap.size := by have := B2.out.size; omega
          have SRC := Lib.hid (show Src Try.prog 1 28 (.slice (some ⟨w2.heap.size, 0, none⟩) 1 1) 1 [.slice ta M tc] (w2.alloc (.cells #[.slice ta M tc] 22)) from Src.ofSlice _ Try.underlying28 ⟨w2.heap.size, 0, none⟩ 1 1 [.slice ta M tc] rfl (fun j u hj => by
            cases j with
            | zero => simp at hj; subst hj; rw [Addr.add_mid]; exact i2.at (i := 0) rfl
            | succ j => simp at hj) (fun u hu => by simp at hu; rw [hu]; rfl))
          obtain ⟨i0, hi, hz0, hz1, hz2⟩ := info_parts infoLits
          have HI := Lib.hid hi
          have OWN := Lib.hid own
          clear hs2 o2 hL i2 g2 own hi
          go_wp2_with (at_builtin; refine wpList_append4 rfl (.tmp 36) (.tmp 38) 28 28 rfl B 22 i0 _ 1 24 Try.underlying28 HI.out hz0 hz1 hz2 rfl _ N hs rfl OWN.out _ 1 [.slice ta M tc] rfl SRC.out ?_ ?_ hBn ?_)
          · simp only [maxLen]; omega
          · omega
          intro v' w9 h2 h3 h4
          generalize w2.alloc (.cells #[.slice ta M tc] 22) = u2 at *
          have hch : Blk.Chg (fun j => Value.ownBlock (.slice va N vc) = some j) u2 w9 := (Blk.Chg.refl _ _).grown h3 (fun g hg _ => hg)
          have hnp : Value.ownBlock (.slice va N vc) ≠ some p := fun hg => by
            obtain ⟨ds, hd⟩ := own_is OWN.out hg
            exact (HS2.out.ne hd (by decide)) rfl
          have s9 := hch.is HS2.out hnp
          have hch9 : Blk.Chg (Cn.Mine p (.slice va N vc)) w (w9.setCell ⟨p, 1, none⟩ v') := ((Blk.Chg.ofBelow' B2.out).trans (hch.mono fun k _ hk => .inr hk)).setAt (.inl rfl)
          have hlt : ∀ (x : Value) l, Lt u2 B x l → Lt (w9.setCell ⟨p, 1, none⟩ v') B x l := fun x l hx => by
            refine (hx.chg hch fun k hk hk2 => ?_).chg (S := fun k => k = p) ((Blk.Chg.refl _ _).setAt rfl) fun k hk hk2 => ?_
            · obtain ⟨cs, hcs⟩ := hx.is hk
              obtain ⟨ds, hd⟩ := own_is OWN.out hk2
              exact (hcs.ne hd (by decide)) rfl
            · obtain ⟨cs, hcs⟩ := hx.is hk
              subst hk2
              exact (HS2.out.ne hcs (by decide)) rfl
          have h9 : Rows2 (w9.setCell ⟨p, 1, none⟩ v') B v' (L ++ [tid c]) := by
            refine ⟨hs ++ [.slice ta M tc], ?_, fun i x hx => ?_⟩
            · have := (Blk.Chg.refl (fun k => k = p) w9).setAt (b := p) (o := 1) (u := v') rfl
              rw [List.length_append, HN.out, List.length_singleton]
              refine this.owns h2 fun k hk hk2 => ?_
              subst hk2
              obtain ⟨ds, hd⟩ := own_is h2 hk
              exact (s9.ne hd (by decide)) rfl
            · by_cases hi' : i < N
              · rw [List.getElem?_append_left (by omega)] at hx
                have := hlt _ _ (HL.out i x hx)
                rwa [List.getD_eq_getElem?_getD, List.getElem?_append_left (by rw [HN.out]; exact hi'), ← List.getD_eq_getElem?_getD]
              · have hle := (List.getElem?_eq_some_iff.1 hx).1
                simp only [List.length_append, List.length_singleton] at hle
                obtain rfl : i = N := by omega
                rw [List.getElem?_append_right (by omega), hlen, Nat.sub_self] at hx
                simp at hx
                subst hx
                have := hlt _ _ T2.out
                rw [List.getD_eq_getElem?_getD, List.getElem?_append_right (by rw [HN.out]; exact Nat.le_refl _), HN.out, Nat.sub_self]
                exact this
          have hg9 : Grow w (.slice va N vc) v' := fun k hk => by
            by_cases hkw : w.heap.size ≤ k
            · exact .inr hkw
            · left
              by_cases he : Value.ownBlock (.slice va N vc) = some k
              · exact he
              · exfalso
                rcases h4 k hk with h | h
                · exact he h
                · have := B2.out.size; have := HB2.out.size; omega
          have H9 := Lib.hid (And.intro h9 (And.intro hg9 hch9))
          have I9 := Lib.hid (s9.set 1 v')
          have c9' : w9.cell? ⟨p, 1, none⟩ = some (.slice va N vc) := s9.at (i := 1) rfl
          have f9 := s9.free 1
          obtain ⟨a9, c9, e9, _⟩ := own_shape h2
          subst e9
          clear h2 h3 h4 hch hnp s9 hch9 hlt h9 hg9 B2 T2 HL HS2 SRC OWN hBn hc1
          go_wp2_with fail
          clear c9' f9
          generalize w9.setCell ⟨p, 1, none⟩ (.slice a9 (N + 1) c9) = w10 at *
          try go_wp2_with fail
          go_ret
          exact ⟨rfl, _, by rw [HA.out]; exact ⟨I9.out, HC.out.low, H9.out.1, HC.out.vars, HLEN.out, HOK.out, HSM.out⟩, H9.out.2.1, H9.out.2.2⟩
      · have g1 : decide ((N : Int) ≥ 5000) = true := by simp; omega
        have hg : G = false := by rw [← hG2]; simp [hr]
        subst hg
        clear hG2 hs1
        go_wp2_with fail
        go_ret
        exact ⟨rfl, _, by rw [HNO.out trivial]; exact HC.out.below HB.out, Grow.refl _ _, Blk.Chg.ofBelow' HB.out⟩
set_option maxHeartbeats 8000000 in
theorem qholds_any {B p : Nat} {v : Value} {n : Nat} {L : List (List Int)} {w : World} (h : QSet w B p v n L) (mv : Value) (m : List Bool) (hm : BoolV w mv m) :
    Calls Try.prog 26 #[.pointer (some ⟨p, 0, none⟩), mv] w fun e w' => e = .returned (.bool (holds m L)) ∧ w' = w := by
  have c1 : w.cell? ⟨p, 1, none⟩ = some v := h.is.at (i := 1) rfl
  obtain ⟨ma, mcap, rfl⟩ := hm.shape
  obtain ⟨M, hM⟩ : ∃ M, m.length = M := ⟨_, rfl⟩
  rw [hM] at hm ⊢
  obtain ⟨va, vcap, rfl, _, hvm⟩ := h.rows.shape
  obtain ⟨N, hN⟩ : ∃ N, L.length = N := ⟨_, rfl⟩
  have HN := Lib.hid hN
  have hlen := h.len
  rw [hN] at c1 hlen h
  have HM := Lib.hid hm
  have HS := Lib.hid h
  have HOK := Lib.hid h.okay
  have hn2 := h.vars
  obtain ⟨G, hG⟩ : ∃ G, holds m L = G := ⟨_, rfl⟩
  have HG := Lib.hid hG
  rw [hG]
  clear hG hN h hm hM
  go_enter Try.func26, Try.ntmps26
  go_wp2_with fail
  clear c1
  go_loopg [15] N (fun gf s15 wx => ∃ k : Nat, s15 = .int .i64 k ∧ wx = w ∧ Hid (holds m (L.take k) = true) ∧ k ≤ N ∧ N ≤ k + gf)
  case atStart => exact ⟨0, rfl, rfl, by rw [List.take_zero]; exact Lib.hid rfl, by omega, by omega⟩
  case round =>
    obtain ⟨k, rfl, rfl, HA, hkn, hfu⟩ := hrel
    by_cases hlk : k < N
    · obtain ⟨g', rfl⟩ : ∃ g', gk = g' + 1 := ⟨gk - 1, by omega⟩
      have hlk' : (k : Int) < (N : Int) := by omega
      have hk0 : (0 : Int) ≤ k := by omega
      have hkl : k < L.length := by rw [HN.out]; exact hlk
      obtain ⟨c, hcx⟩ : ∃ c, L[k]? = some c := ⟨L[k], List.getElem?_eq_getElem _⟩
      obtain ⟨g, gcap, u, e1, c2, hlu⟩ := HS.out.rows.at hcx
      simp only [Value.slice.injEq] at e1
      obtain ⟨rfl, eN, rfl⟩ := e1
      clear eN
      have HOKC := Lib.hid (show ∀ x ∈ c, x ≠ 0 ∧ x.natAbs ≤ 200 from fun x hx => by
        have := HOK.out c (List.mem_of_getElem? hcx) x hx
        omega)
      have hlv := hlu.lit
      have hcl9 := hlv.len
      obtain ⟨_, ca, ccap, rfl, _, _, _, hr⟩ := hlv
      have HR := Lib.hid hr
      obtain ⟨cl, hcl⟩ : ∃ cl, c.length = cl := ⟨_, rfl⟩
      have HCL := Lib.hid hcl
      rw [hcl] at c2 HR hcl9
      have HCX := Lib.hid hcx
      obtain ⟨Gc, hGc⟩ : ∃ Gc, holdsC m c = Gc := ⟨_, rfl⟩
      have HGC := Lib.hid hGc
      clear hlu hr hcl hcx hkl hGc
      rename World => wo
      go_wp2_with fail
      clear c2
      go_loopg [7, 21] cl (fun gf s7 s21 wx => ∃ (j : Nat) (b : Bool), s7 = .bool b ∧ s21 = .int .i64 j ∧ wx = wo ∧ Hid (b = (c.take j).any (so m)) ∧ j ≤ cl ∧ cl ≤ j + gf)
      case atStart => exact ⟨0, false, rfl, rfl, rfl, by rw [List.take_zero]; exact Lib.hid rfl, by omega, by omega⟩
      case round =>
        obtain ⟨j, b, rfl, rfl, rfl, HBJ, hjn, hfu2⟩ := hrel
        by_cases hlj : j < cl
        · obtain ⟨gk', rfl⟩ : ∃ gk', gk = gk' + 1 := ⟨gk - 1, by omega⟩
          have hlj' : (j : Int) < (cl : Int) := by omega
          have hj0 : (0 : Int) ≤ j := by omega
          obtain ⟨x, hx⟩ : ∃ x, c[j]? = some x := ⟨c[j]'(by rw [HCL.out]; exact hlj), List.getElem?_eq_getElem _⟩
          obtain ⟨b1, off, rfl, hcell⟩ := HR.out (by omega)
          have c3 := hcell j x hx
          have hk := HOKC.out x (List.mem_of_getElem? hx)
          have cs := qso_any (.slice ma M mcap) m x wr HM.out hk.1 hk.2
          obtain ⟨s, hs⟩ : ∃ s, so m x = s := ⟨_, rfl⟩
          rw [hs] at cs
          have HB2 : Hid ((b || s) = (c.take (j + 1)).any (so m)) := Lib.hid (by
            rw [List.take_add_one, hx, List.any_append, ← HBJ.out, ← hs]
            simp)
          clear hcell hx hk hs
          cases b with
          | true =>
            go_wp2_with fail
            go_roundg gk'
            case measure => omega
            case rel => exact ⟨j + 1, true, rfl, by go_num, rfl, HB2, by omega, by omega⟩
          | false =>
            go_wp2_with fail
            refine cs.mono ?_
            rintro e w9 ⟨rfl, rfl⟩
            go_wp2_with fail
            go_roundg gk'
            case measure => omega
            case rel => exact ⟨j + 1, s, rfl, by go_num, rfl, HB2, by omega, by omega⟩
        · obtain rfl : j = cl := by omega
          have hge : ¬ (j : Int) < (j : Int) := by omega
          have hb : b = Gc := by
            rw [HBJ.out, ← HGC.out, ← HCL.out, List.take_length]
            rfl
          subst hb
          cases b with
          | false =>
            have hg : G = false := by
              rw [← HG.out]
              unfold holds
              rw [List.all_eq_false]
              exact ⟨c, List.mem_of_getElem? HCX.out, by rw [HGC.out]; decide⟩
            subst hg
            go_wp2_with fail
            go_ret
            exact ⟨rfl, rfl⟩
          | true =>
            have HA2 : Hid (holds m (L.take (k + 1)) = true) := by
              refine Lib.hid ?_
              have := HA.out
              unfold holds at this ⊢
              rw [List.take_add_one, List.all_append, this, HCX.out]
              simp [HGC.out]
            go_wp2_with fail
            go_roundg g'
            case measure => omega
            case rel => exact ⟨k + 1, by go_num, rfl, HA2, by omega, by omega⟩
    · obtain rfl : k = N := by omega
      have hge : ¬ (k : Int) < (k : Int) := by omega
      have hg : G = true := by
        rw [← HG.out, ← HA.out, ← HN.out, List.take_length]
      subst hg
      go_wp2_with fail
      go_ret
      exact ⟨rfl, rfl⟩
end Cn
end Go.Proofs.Ytlpahomaokopoaa

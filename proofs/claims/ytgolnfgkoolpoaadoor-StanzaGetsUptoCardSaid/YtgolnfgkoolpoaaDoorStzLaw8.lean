/-
The walk of the law StanzaGets.
-/
import Derived.Test.YtgolnfgkoolpoaaDoorStzYFold
import Derived.Test.YtgolnfgkoolpoaaDoorStzLight
import Derived.Test.YtgolnfgkoolpoaaDoorStzBulk
import Derived.Deep.RegionHeld3
namespace Go.Proofs.YtgolnfgkoolpoaaDoor
open Go.RowKit
set_option linter.unusedSimpArgs false
set_option linter.unusedVariables false
namespace Stz
open Txt (tabs_below tabs_lt MaxLen trimL)
theorem Flds.shape {w : World} {v : Value} {fs : List Fld} (h : Flds w v fs) : ∃ a cap, v = .slice a fs.length cap ∧ fs.length ≤ cap := by
  obtain ⟨_, a, cap, h, h2, _⟩ := h
  exact ⟨a, cap, h, h2⟩
/-- One stanza alone. -/
theorem szs_one {w : World} {z : Nat} {line : Int} {fv : Value} {fs : List Fld} (h : Blk.Is w z 37 #[.int .i64 line, fv]) (hF : Flds w fv fs) : Stzs w (.slice (some ⟨z, 0, none⟩) 1 1) [(line, fs)] :=
  ⟨by simp, _, _, rfl, by simp, fun _ => ⟨z, 0, rfl, fun i hi => by
    obtain rfl : i = 0 := by simpa using hi
    exact ⟨h.at rfl, fv, h.at rfl, hF⟩⟩⟩
theorem get_none {fs : List Fld} {nm : Bs} : GetR (fs.take 0) nm [] false := .inl ⟨rfl, rfl, fun i hi => absurd hi (by simp)⟩
theorem take_fld {fs : List Fld} {q i : Nat} (h : i < q) : (fs.take q).getD i ([], []) = fs.getD i ([], []) := by simp [List.getD, h]
theorem get_keep {fs : List Fld} {nm t : Bs} {q : Nat} (hq : q < fs.length) (h : GetR (fs.take q) nm t true) : GetR (fs.take (q + 1)) nm t true := by
  rcases h with ⟨h, _⟩ | ⟨i, h1, _, h2, h3, h4⟩
  · cases h
  · rw [List.length_take] at h1
    refine .inr ⟨i, by rw [List.length_take]; omega, rfl, ?_, ?_, fun j hj => ?_⟩
    · rw [take_fld (by omega)] at h2 ⊢; exact h2
    · rw [take_fld (by omega)] at h3 ⊢; exact h3
    · have := h4 j hj
      rw [take_fld (by omega)] at this ⊢; exact this
theorem get_no {fs : List Fld} {nm t : Bs} {q : Nat} (hq : q < fs.length) (h : GetR (fs.take q) nm t false) (hs : sameB (fs.getD q ([], [])).1 nm = false) : GetR (fs.take (q + 1)) nm t false := by
  rcases h with ⟨_, h2, h3⟩ | ⟨i, h1, h2, _⟩
  · refine .inl ⟨rfl, h2, fun i hi => ?_⟩
    rw [List.length_take] at hi
    rw [take_fld (by omega)]
    by_cases e : i = q
    · rw [e]; exact hs
    · have := h3 i (by rw [List.length_take]; omega)
      rwa [take_fld (by omega)] at this
  · cases h2
theorem get_yes {fs : List Fld} {nm t : Bs} {q : Nat} (hq : q < fs.length) (h : GetR (fs.take q) nm t false) (hs : sameB (fs.getD q ([], [])).1 nm = true) : GetR (fs.take (q + 1)) nm (foldL (fs.getD q ([], [])).2) true := by
  rcases h with ⟨_, h2, h3⟩ | ⟨i, h1, h2, _⟩
  · refine .inr ⟨q, by rw [List.length_take]; omega, rfl, by rw [take_fld (by omega)], by rw [take_fld (by omega)]; exact hs, fun j hj => ?_⟩
    rw [take_fld (by omega)]
    have := h3 j (by rw [List.length_take]; omega)
    rwa [take_fld (by omega)] at this
  · cases h2
theorem eq_self (x : ByteArray) : (x.toList == x.toList) = true := by simp
set_option maxRecDepth 100000 in
set_option maxHeartbeats 8000000 in
theorem stanzaGets_walk (line : Int) (fv : Value) (fs : List Fld) (s1 s2 : ByteArray) (w : World) (hF : Flds w fv fs) (hB : ∀ f ∈ fs, Fb f) (h1 : s1.size ≤ 1048576) (h2 : s2.size ≤ 1048576) (hT : Lib.Utf8Tabs 1 2 w) (hm : MaxLen w) :
    Calls Tryd.prog 5 #[.agg #[.int .i64 line, fv], .string s1, .string s2] w fun e w' => e = .returned (.bool true) ∧ Below w.heap.size w w' := by
  have hl := tabs_lt hT
  have hml := Lib.hid hm.lt
  have fin := Lib.hid (fun w1 (hb : Below w.heap.size w w1) => awake_any w1 (tabs_below hT hb hl) (hm.below hb hml.out))
  have HT := Lib.hid hT
  obtain ⟨nm, rfl⟩ : ∃ nm, s1 = S nm := ⟨_, (S_self s1).symm⟩
  obtain ⟨a, cap, rfl, hcap⟩ := hF.shape
  obtain ⟨N, hN⟩ : ∃ N, fs.length = N := ⟨_, rfl⟩
  rw [hN] at hF hcap ⊢
  have HN := Lib.hid hN
  have HF := Lib.hid hF
  have HB := Lib.hid hB
  have iA := Blk.Is.new w 37 #[.int .i64 line, .slice a N cap]
  obtain ⟨W, hW⟩ : ∃ W, w.alloc (.cells #[.int .i64 line, .slice a N cap] 37) = W := ⟨_, rfl⟩
  have bA : Below w.heap.size w W := by rw [← hW]; exact (Below.refl _ _).alloc (Nat.le_refl _) _
  obtain ⟨z, hz⟩ : ∃ z, w.heap.size = z := ⟨_, rfl⟩
  rw [hW, hz] at iA
  have bB : Below W.heap.size W (W.alloc (.cells #[.int .i64 line, .slice a N cap] 37)) := (Below.refl _ _).alloc (Nat.le_refl _) _
  have iB := Blk.Is.new W 37 #[.int .i64 line, .slice a N cap]
  have cl := light_any _ _ (W.alloc (.cells #[.int .i64 line, .slice a N cap] 37)) (szs_one iB ((hF.below bA).below bB))
  have x0 : W.cell? ⟨z, 0, none⟩ = some (.int .i64 line) := iA.at rfl
  have x1 : W.cell? ⟨z, 1, none⟩ = some (.slice a N cap) := iA.at rfl
  have CL := Lib.hid cl
  have IA := Lib.hid iA
  have BB := Lib.hid (bA.trans (bB.mono bA.size))
  have BBW := Lib.hid bB
  clear hT hm hF hB hN iA bA iB bB cl
  go_enter Tryd.func5, Tryd.ntmps5
  -- BODY
  go_wp2_with fail
  clear hW hz x0 x1
  refine CL.out.mono ?_
  rintro e w1 ⟨rfl, b1⟩
  have B1 := Lib.hid (BB.out.trans (b1.mono BB.out.size))
  have i1 : Blk.Is w1 z 37 #[.int .i64 line, .slice a N cap] := ((BBW.out.trans (b1.mono BBW.out.size)).block _ IA.out.lt).trans IA.out
  clear b1 CL BB BBW IA
  cases hlt : lightB [(line, fs)] with
  | false =>
    clear hlt i1
    go_wp2_with fail
    refine (fin.out _ B1.out).mono ?_
    rintro e w4 ⟨rfl, b4⟩
    have B4 := Lib.hid (B1.out.trans (b4.mono B1.out.size))
    clear b4 B1
    go_wp2_with fail
    go_ret
    exact ⟨rfl, B4.out⟩
  | true =>
  obtain ⟨hN60, hM60⟩ := (light_cnt hlt).2 (line, fs) (.head _)
  have HM60 := Lib.hid hM60
  have hN60' : N ≤ 60 := by rw [← HN.out]; exact hN60
  clear hlt hN60 hM60
  have HFO := Lib.hid (show ∀ f ∈ fs, f.2.length ≤ 1000000 ∧ (∀ x ∈ f.2, x.length ≤ 9223372036854775807) ∧ (foldL f.2).length ≤ 140737488355328 from fun f hf => by
    obtain ⟨_, _, k3⟩ := HB.out f hf
    have k4 : f.2.length ≤ 60 := HM60.out f hf
    refine ⟨by omega, fun x hx => by have := k3 x hx; omega, ?_⟩
    have h5 := fold_len f.2 k3 f.2.length (Nat.le_refl _)
    rw [List.take_length] at h5
    have h6 : (1048576 + 1) * f.2.length ≤ (1048576 + 1) * 60 := Nat.mul_le_mul_left _ k4
    omega)
  have cg := get_any line (.slice a N cap) fs nm w1 (HF.out.below B1.out) (fun f hf => by have := (HB.out f hf).1; omega) HFO.out (tabs_below HT.out B1.out hl)
  have y0 : w1.cell? ⟨z, 0, none⟩ = some (.int .i64 line) := i1.at rfl
  have y1 : w1.cell? ⟨z, 1, none⟩ = some (.slice a N cap) := i1.at rfl
  have I1 := Lib.hid i1
  have CG := Lib.hid cg
  clear cg i1
  go_wp2_with fail
  clear y0 y1
  refine CG.out.mono ?_
  rintro e w2 ⟨t, ok, rfl, hg, b2⟩
  have HG := Lib.hid hg
  have B2 := Lib.hid (B1.out.trans (b2.mono B1.out.size))
  have i2 : Blk.Is w2 z 37 #[.int .i64 line, .slice a N cap] := (b2.block _ I1.out.lt).trans I1.out
  have y1 : w2.cell? ⟨z, 1, none⟩ = some (.slice a N cap) := i2.at rfl
  clear hg b2 i2 I1 CG B1
  go_wp2_with fail
  clear y1
  go_loopw [9, 10, 27] (fun s9 s10 i u => ∃ (q : Nat) (t' : Bs) (ok' : Bool), q ≤ N ∧ i = .int .i64 q ∧ s9 = .string (S t') ∧ s10 = .bool ok' ∧ Hid (GetR (fs.take q) nm t' ok') ∧ Hid (Below w2.heap.size w2 u)) (fun _ _ i _ => N - (intOf i).toNat)
  case atStart => exact ⟨0, [], false, by omega, rfl, rfl, rfl, Lib.hid get_none, Lib.hid (Below.refl _ _)⟩
  case round =>
    obtain ⟨q, t', ok', hq, rfl, rfl, rfl, HGQ, HBQ⟩ := hrel
    by_cases hqn : q < N
    · have hqf : q < fs.length := by rw [HN.out]; exact hqn
      obtain ⟨_, a', cap', ea, _, hread⟩ := HF.out
      simp only [Value.slice.injEq] at ea
      obtain ⟨rfl, -, rfl⟩ := ea
      obtain ⟨g, off, rfl, hat⟩ := hread (by omega)
      obtain ⟨f0, u, f1, hTx⟩ := hat q hqf
      obtain ⟨f, hf⟩ : ∃ f, fs.getD q ([], []) = f := ⟨_, rfl⟩
      have hfm : f ∈ fs := by rw [← hf]; simp [List.getD, List.getElem?_eq_getElem hqf]
      rw [hf] at f0 hTx
      have HFM := Lib.hid hfm
      obtain ⟨fn, ls⟩ := f
      have bq := B2.out.trans (HBQ.out.mono B2.out.size)
      rw [← bq.cell (Txt.lt_cell f0)] at f0
      rw [← bq.cell (Txt.lt_cell f1)] at f1
      rw [Nat.mul_comm 2 q] at f0 f1
      obtain ⟨_, la, lc, rfl, _, _⟩ := id hTx
      obtain ⟨M, hM⟩ : ∃ M, ls.length = M := ⟨_, rfl⟩
      rw [List.length_map] at f1 hTx
      rw [hM] at f1 hTx
      have HTX := Lib.hid hTx
      have HLN := Lib.hid (HFO.out _ hfm).1
      have HLS := Lib.hid (HFO.out _ hfm).2.1
      have HLF := Lib.hid (HFO.out _ hfm).2.2
      have HLB := Lib.hid (HB.out _ hfm).2.2
      have HLK := Lib.hid (show ls.length ≤ 1000 by have := HM60.out _ hfm; simp only at this; omega)
      have hfn : (S fn).size ≤ 9223372036854775807 := by rw [S_size]; have := (HB.out _ hfm).1; simp only at this; omega
      have HBq := Lib.hid bq
      have q0 : (0 : Int) ≤ q := by omega
      have q1 : (q : Int) < N := by omega
      obtain ⟨zf, hzf⟩ : ∃ zf, wr.heap.size = zf := ⟨_, rfl⟩
      obtain ⟨V, hV⟩ : ∃ V, wr.alloc (.cells #[.string (S fn), .slice la M lc] 42) = V := ⟨_, rfl⟩
      have bV : Below wr.heap.size wr V := by rw [← hV]; exact (Below.refl _ _).alloc (Nat.le_refl _) _
      have iV : Blk.Is V zf 42 #[.string (S fn), .slice la M lc] := by rw [← hV, ← hzf]; exact Blk.Is.new wr _ _
      have v0 : V.cell? ⟨zf, 0, none⟩ = some (.string (S fn)) := iV.at rfl
      have v1 : V.cell? ⟨zf, 1, none⟩ = some (.slice la M lc) := iV.at rfl
      have HV := Lib.hid iV
      have HB2 := Lib.hid (HBQ.out.trans (bV.mono HBQ.out.size))
      have HBV := Lib.hid (bq.trans (bV.mono bq.size))
      have HFQ := Lib.hid hf
      have HQF := Lib.hid hqf
      clear hread hat hTx hf hfm hM hqf bV iV bq hqn HBQ HBq
      cases ok' with
      | true =>
        have NEXT := Lib.hid (get_keep HQF.out HGQ.out)
        clear HGQ
        have l1 : ∀ u, Below V.heap.size V u → u.cell? ⟨zf, 1, none⟩ = some (.slice la M lc) := fun u hu => by rw [hu.cell (Txt.lt_cell v1)]; exact v1
        have HC1 := Lib.hid (show ∀ u, Below V.heap.size V u → _ from fun u hu => fold_any (.slice la M lc) ls u (HTX.out.below (HBV.out.trans (hu.mono HBV.out.size))) HLN.out HLS.out HLF.out (tabs_below HT.out (HBV.out.trans (hu.mono HBV.out.size)) hl))
        have HC2 := Lib.hid (show ∀ u, Below V.heap.size V u → _ from fun u hu => yfold_any (.slice la M lc) ls u (HTX.out.below (HBV.out.trans (hu.mono HBV.out.size))) HLK.out HLB.out)
        go_wp2_with fail
        clear v1
        go_region_held3 (fun u => Below V.heap.size V u)
          (first | exact (Below.refl _ _).drew | assumption | (refine Below.trans ?_ (Below.mono hb5 ?_); assumption; exact Below.size (by assumption)))
          (first
            | (go_at_call 21; refine (HC1.out _ (by assumption)).mono ?_; rintro e w5 ⟨rfl, hb5⟩)
            | (go_at_call 20; refine (HC2.out _ (by assumption)).mono ?_; rintro e w5 ⟨rfl, hb5⟩))
        have hB5 : Below V.heap.size V w5 := by assumption
        rename_i hHeld
        clear hHeld hb5
        have HB5 := Lib.hid (HB2.out.trans (hB5.mono HB2.out.size))
        clear hB5 l1 HC1 HC2
        go_wp2_with fail
        refine ⟨⟨q + 1, _, _, by omega, by go_num, rfl, rfl, NEXT, HB5⟩, by simp [intOf]; omega⟩
      | false =>
        have cs := ysame_any (S fn) (S nm) V hfn
        simp only [sameS_S] at cs
        have CS := Lib.hid cs
        clear cs
        go_wp2_with fail
        refine CS.out.mono ?_
        rintro e V2 ⟨rfl, nd, hV2⟩
        have b2 : Below V.heap.size V V2 := by rw [hV2]; exact Txt.drewN_below V nd
        clear hV2 hV hzf f0 f1 v0
        rw [← b2.cell (Txt.lt_cell v1)] at v1
        have HB3 := Lib.hid (HB2.out.trans (b2.mono HB2.out.size))
        have HBV2 := Lib.hid (HBV.out.trans (b2.mono HBV.out.size))
        have I2 := Lib.hid (show Blk.Is V2 zf 42 #[.string (S fn), .slice la M lc] from (b2.block _ HV.out.lt).trans HV.out)
        clear b2 HB2 HBV HV CS
        cases hsm : sameB fn nm with
        | true =>
          have NEXT := Lib.hid (show GetR (fs.take (q + 1)) nm (foldL ls) true by
            have := get_yes HQF.out HGQ.out (by rw [HFQ.out]; exact hsm)
            rw [HFQ.out] at this
            exact this)
          have cy := yfold_any (.slice la M lc) ls V2 (HTX.out.below HBV2.out) HLK.out HLB.out
          have CY := Lib.hid cy
          clear HGQ hsm cy
          go_wp2_with fail
          refine CY.out.mono ?_
          rintro e V3 ⟨rfl, b3⟩
          rw [← b3.cell (Txt.lt_cell v1)] at v1
          have HB4 := Lib.hid (HB3.out.trans (b3.mono HB3.out.size))
          have HBV3 := Lib.hid (HBV2.out.trans (b3.mono HBV2.out.size))
          clear b3 HB3 HBV2 CY I2
          have l1 : ∀ u, Below V3.heap.size V3 u → u.cell? ⟨zf, 1, none⟩ = some (.slice la M lc) := fun u hu => by rw [hu.cell (Txt.lt_cell v1)]; exact v1
          have HC1 := Lib.hid (show ∀ u, Below V3.heap.size V3 u → _ from fun u hu => fold_any (.slice la M lc) ls u (HTX.out.below (HBV3.out.trans (hu.mono HBV3.out.size))) HLN.out HLS.out HLF.out (tabs_below HT.out (HBV3.out.trans (hu.mono HBV3.out.size)) hl))
          have HC2 := Lib.hid (show ∀ u, Below V3.heap.size V3 u → _ from fun u hu => yfold_any (.slice la M lc) ls u (HTX.out.below (HBV3.out.trans (hu.mono HBV3.out.size))) HLK.out HLB.out)
          go_wp2_with fail
          clear v1
          go_region_held3 (fun u => Below V3.heap.size V3 u)
            (first | exact (Below.refl _ _).drew | assumption | (refine Below.trans ?_ (Below.mono hb5 ?_); assumption; exact Below.size (by assumption)))
            (first
              | (go_at_call 21; refine (HC1.out _ (by assumption)).mono ?_; rintro e w5 ⟨rfl, hb5⟩)
              | (go_at_call 20; refine (HC2.out _ (by assumption)).mono ?_; rintro e w5 ⟨rfl, hb5⟩))
          have hB5 : Below V3.heap.size V3 w5 := by assumption
          rename_i hHeld
          clear hHeld hb5
          have HB5 := Lib.hid (HB4.out.trans (hB5.mono HB4.out.size))
          clear hB5 l1 HC1 HC2
          go_wp2_with fail
          refine ⟨⟨q + 1, _, _, by omega, by go_num, rfl, rfl, NEXT, HB5⟩, by simp [intOf]; omega⟩
        | false =>
          have NEXT := Lib.hid (get_no HQF.out HGQ.out (by rw [HFQ.out]; exact hsm))
          clear HGQ hsm
          have l1 : ∀ u, Below V2.heap.size V2 u → u.cell? ⟨zf, 1, none⟩ = some (.slice la M lc) := fun u hu => by rw [hu.cell (Txt.lt_cell v1)]; exact v1
          have HC1 := Lib.hid (show ∀ u, Below V2.heap.size V2 u → _ from fun u hu => fold_any (.slice la M lc) ls u (HTX.out.below (HBV2.out.trans (hu.mono HBV2.out.size))) HLN.out HLS.out HLF.out (tabs_below HT.out (HBV2.out.trans (hu.mono HBV2.out.size)) hl))
          have HC2 := Lib.hid (show ∀ u, Below V2.heap.size V2 u → _ from fun u hu => yfold_any (.slice la M lc) ls u (HTX.out.below (HBV2.out.trans (hu.mono HBV2.out.size))) HLK.out HLB.out)
          go_wp2_with fail
          clear v1
          go_region_held3 (fun u => Below V2.heap.size V2 u)
            (first | exact (Below.refl _ _).drew | assumption | (refine Below.trans ?_ (Below.mono hb5 ?_); assumption; exact Below.size (by assumption)))
            (first
              | (go_at_call 21; refine (HC1.out _ (by assumption)).mono ?_; rintro e w5 ⟨rfl, hb5⟩)
              | (go_at_call 20; refine (HC2.out _ (by assumption)).mono ?_; rintro e w5 ⟨rfl, hb5⟩))
          have hB5 : Below V2.heap.size V2 w5 := by assumption
          rename_i hHeld
          clear hHeld hb5
          have HB5 := Lib.hid (HB3.out.trans (hB5.mono HB3.out.size))
          clear hB5 l1 HC1 HC2
          go_wp2_with fail
          refine ⟨⟨q + 1, _, _, by omega, by go_num, rfl, rfl, NEXT, HB5⟩, by simp [intOf]; omega⟩
    · obtain rfl : q = N := by omega
      have hg := HGQ.out
      rw [List.take_of_length_le (by rw [HN.out]; exact Nat.le_refl _)] at hg
      obtain ⟨rfl, rfl⟩ := hg.uniq HG.out
      have HB6 := Lib.hid (B2.out.trans (HBQ.out.mono B2.out.size))
      have es := eq_self (S t')
      obtain ⟨R, hR⟩ : ∃ R, sameS (S nm) s2 = R := ⟨_, rfl⟩
      have cs := same_any (S nm) s2 wr (by omega)
      rw [hR] at cs
      have CS := Lib.hid cs
      have CY := Lib.hid (fun u => ysame_any (S nm) s2 u (by omega))
      rw [hR] at CY
      have oo : (ok' == ok') = true := by simp
      have rr : (R == R) = true := by simp
      clear hg HGQ HG HBQ B2 cs hR
      go_wp2_with fail
      refine CS.out.mono ?_
      rintro e V2 ⟨rfl, nd, hV2⟩
      have HB7 := Lib.hid (HB6.out.trans ((show Below wr.heap.size wr V2 by rw [hV2]; exact Txt.drewN_below wr nd).mono HB6.out.size))
      clear hV2 CS
      go_wp2_with fail
      refine (CY.out V2).mono ?_
      rintro e V3 ⟨rfl, ne, hV3⟩
      have HB8 := Lib.hid (HB7.out.trans ((show Below V2.heap.size V2 V3 by rw [hV3]; exact Txt.drewN_below V2 ne).mono HB7.out.size))
      clear hV3 CY HB6 HB7
      go_wp2_with fail
      refine (fin.out _ HB8.out).mono ?_
      rintro e w9 ⟨rfl, b9⟩
      have B9 := Lib.hid (HB8.out.trans (b9.mono HB8.out.size))
      clear b9 HB8
      go_wp2_with fail
      go_ret
      exact ⟨rfl, B9.out⟩
end Stz
end Go.Proofs.YtgolnfgkoolpoaaDoor

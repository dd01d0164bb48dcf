/-
Why a field, why stanzas may not be printed.
-/
import Derived.Test.YtgolnfgkoolpoaaDoorStzLine
import Derived.StillTailTactics
namespace Go.Proofs.YtgolnfgkoolpoaaDoor
open Go.RowKit
set_option linter.unusedSimpArgs false
set_option linter.unusedVariables false
namespace Stz
/-- No text is larger than what may come in. -/
def Szd (f : Fld) : Prop := f.1.length ≤ 140737488351232 ∧ ∀ x ∈ f.2, x.length ≤ 140737488351232
theorem Flds.take {w : World} {a : Option Addr} {n cap : Nat} {fs : List Fld} (h : Flds w (.slice a n cap) fs) (i : Nat) (hi : i ≤ fs.length) : Flds w (.slice a i cap) (fs.take i) := by
  obtain ⟨h0, a', cap', e, h1, h2⟩ := h
  simp only [Value.slice.injEq] at e
  obtain ⟨rfl, rfl, rfl⟩ := e
  have hl : (fs.take i).length = i := by rw [List.length_take]; omega
  refine ⟨by omega, a, cap, by rw [hl], by omega, fun hp => ?_⟩
  obtain ⟨k, off, e, hat⟩ := h2 (by omega)
  refine ⟨k, off, e, fun j hj => ?_⟩
  have := hat j (by omega)
  rw [hl] at hj
  rwa [show (fs.take i).getD j ([], []) = fs.getD j ([], []) by simp [List.getD, hj]]
theorem lines_eq (f : Fld) : fieldLines f = (List.range f.2.length).map (lineAt f) := by
  obtain ⟨nm, ls⟩ := f
  cases ls with
  | nil => rfl
  | cons x r =>
    apply List.ext_getElem
    · simp [fieldLines]
    · intro i h1 h2
      cases i with
      | zero => simp [fieldLines, lineAt]
      | succ i => simp [fieldLines, lineAt] at h1 ⊢; rw [List.getElem?_eq_getElem (by simpa using h1)]; rfl
theorem lines_len (f : Fld) : (fieldLines f).length = f.2.length := by rw [lines_eq]; simp
theorem lines_at (f : Fld) {i : Nat} (hi : i < f.2.length) : (fieldLines f).getD i [] = lineAt f i := by rw [lines_eq]; simp [List.getD, hi]
theorem found_any {fs : List Fld} {nm : Bs} {r : Int} (h : Found fs nm r) : fs.any (fun g => sameB g.1 nm) = decide (0 ≤ r) := by
  rcases h with ⟨rfl, h⟩ | ⟨i, hi, rfl, h, _⟩
  · rw [List.any_eq_false.2]
    · rfl
    · intro g hg
      obtain ⟨i, hi, rfl⟩ := List.mem_iff_getElem.1 hg
      have := h i hi
      simp only [List.getD, List.getElem?_eq_getElem hi, Option.getD_some] at this
      rw [this]; simp
  · rw [decide_eq_true (by omega), List.any_eq_true]
    refine ⟨fs[i], List.getElem_mem hi, ?_⟩
    simpa [List.getD, List.getElem?_eq_getElem hi] using h
theorem long_no {f : Fld} (h : ∀ i, i < f.2.length → ¬ 1000 < (lineAt f i).length) : (fieldLines f).any (fun x => decide (1000 < x.length)) = false := by
  rw [List.any_eq_false]
  intro x hx
  rw [lines_eq] at hx
  obtain ⟨i, hi, rfl⟩ := List.mem_map.1 hx
  have := h i (by simpa using hi)
  simpa using this
theorem long_yes {f : Fld} {i : Nat} (hi : i < f.2.length) (h : 1000 < (lineAt f i).length) : (fieldLines f).any (fun x => decide (1000 < x.length)) = true := by
  rw [List.any_eq_true]
  refine ⟨lineAt f i, ?_, by simpa using h⟩
  rw [lines_eq]
  exact List.mem_map.2 ⟨i, by simpa using hi, rfl⟩
set_option maxRecDepth 100000 in
set_option maxHeartbeats 4000000 in
theorem checkField_any (a : Option Addr) (n cap : Nat) (fs : List Fld) (i : Nat) (w : World) (h : Flds w (.slice a n cap) fs) (hi : i < fs.length) (hs : ∀ f ∈ fs, Szd f) (hT : Lib.Utf8Tabs 1 2 w) :
    Calls Tryd.prog 46 #[.slice a n cap, .int .i64 i] w fun e w' => e = .returned (.int .i64 (fieldErr (fs.take i) (fs.getD i ([], [])))) ∧ Below w.heap.size w w' := by
  have hF := h
  obtain ⟨hmx, a', cap', e, hcap, hread⟩ := h
  simp only [Value.slice.injEq] at e
  obtain ⟨rfl, rfl, rfl⟩ := e
  obtain ⟨g, off, rfl, hat⟩ := hread (by omega)
  obtain ⟨c0, u, c1, hu⟩ := hat i hi
  obtain ⟨f, hf⟩ : ∃ f, fs.getD i ([], []) = f := ⟨_, rfl⟩
  have hfm : f ∈ fs := by rw [← hf]; simp [List.getD, List.getElem?_eq_getElem hi]
  have hsf := hs f hfm
  rw [hf] at c0 hu ⊢
  obtain ⟨nm, ls⟩ := f
  obtain ⟨hN62, la, lc, rfl, _, _⟩ := id hu
  obtain ⟨N, hN⟩ : ∃ N, ls.length = N := ⟨_, rfl⟩
  rw [List.length_map, hN] at hN62
  rw [Nat.mul_comm 2 i] at c0 c1
  rw [List.length_map, hN] at c1
  rw [List.length_map, hN] at hu
  obtain ⟨G, hG⟩ : ∃ G, fieldErr (fs.take i) (nm, ls) = G := ⟨_, rfl⟩
  have HG := Lib.hid hG
  rw [hG]
  have HN := Lib.hid hN
  have HF := Lib.hid hF
  have HS := Lib.hid hs
  have HSF := Lib.hid hsf
  have HTT := Lib.hid hT
  have htl := Lib.hid (Txt.tabs_lt hT)
  have HI := Lib.hid hi
  have i0 : (0 : Int) ≤ i := by omega
  have i1 : (i : Int) < fs.length := by omega
  have i2 : (i : Int) ≤ cap := by omega
  obtain ⟨W, hW⟩ : ∃ W, w.alloc (.cells #[.string (S nm), .slice la N lc] 42) = W := ⟨_, rfl⟩
  have hbW : Below w.heap.size w W := by rw [← hW]; exact (Below.refl _ _).alloc (Nat.le_refl _) _
  have HIW := Lib.hid (show Blk.Is W w.heap.size 42 #[.string (S nm), .slice la N lc] by rw [← hW]; exact Blk.Is.new w _ _)
  have HU := Lib.hid (hu.below hbW)
  have HFW := Lib.hid (hF.below hbW)
  have HB := Lib.hid hbW
  have hsW : w.heap.size < W.heap.size := by rw [← hW]; simp
  have hn0 : nm.length ≤ 140737488351232 := hsf.1
  have z0 : W.cell? ⟨w.heap.size, 0, none⟩ = some (.string (S nm)) := HIW.out.at rfl
  have z1 : W.cell? ⟨w.heap.size, 1, none⟩ = some (.slice la N lc) := HIW.out.at rfl
  have ci := isName_any (S nm) W (by rw [S_size]; omega)
  rw [S_data] at ci
  clear hread hat hf hfm hF hu hs hsf hT hG hN hi hbW
  go_enter Tryd.func46, Tryd.ntmps46
  go_wp2_with fail
  refine ci.mono ?_
  rintro e w1 ⟨rfl, b1⟩
  have z0' : w1.cell? ⟨w.heap.size, 0, none⟩ = some (.string (S nm)) := (show Blk.Is w1 w.heap.size 42 #[.string (S nm), .slice la N lc] from (b1.block _ hsW).trans HIW.out).at rfl
  have z1' : w1.cell? ⟨w.heap.size, 1, none⟩ = some (.slice la N lc) := (show Blk.Is w1 w.heap.size 42 #[.string (S nm), .slice la N lc] from (b1.block _ hsW).trans HIW.out).at rfl
  have HU1 := Lib.hid (HU.out.below b1)
  have HFW1 := Lib.hid (HFW.out.below b1)
  have HB1 := Lib.hid (HB.out.trans (b1.mono HB.out.size))
  have HI1 := Lib.hid (show Blk.Is w1 w.heap.size 42 #[.string (S nm), .slice la N lc] from (b1.block _ hsW).trans HIW.out)
  have hs1 : w.heap.size < w1.heap.size := Nat.lt_of_lt_of_le hsW b1.size
  clear ci hW z0 z1 b1 HU HFW HB HIW hsW
  cases hnb : nameB nm with
  | false =>
    have HNB := Lib.hid hnb
    clear hnb
    go_wp2_with fail
    go_ret
    refine ⟨?_, HB1.out⟩
    rw [← HG.out]
    unfold fieldErr
    rw [if_pos (by simp [HNB.out])]
    rfl
  | true =>
    have HNB := Lib.hid hnb
    clear hnb
    go_wp2_with fail
    refine (mayLines_any (.slice la N lc) ls w1 HU1.out (fun x hx => by have := HSF.out.2 x hx; omega) (Txt.tabs_below HTT.out HB1.out htl.out)).mono ?_
    rintro e w2 ⟨rfl, b2⟩
    have z0 : w2.cell? ⟨w.heap.size, 0, none⟩ = some (.string (S nm)) := (show Blk.Is w2 w.heap.size 42 #[.string (S nm), .slice la N lc] from (b2.block _ hs1).trans HI1.out).at rfl
    have z1 : w2.cell? ⟨w.heap.size, 1, none⟩ = some (.slice la N lc) := (show Blk.Is w2 w.heap.size 42 #[.string (S nm), .slice la N lc] from (b2.block _ hs1).trans HI1.out).at rfl
    have HU2 := Lib.hid (HU1.out.below b2)
    have HFW2 := Lib.hid (HFW1.out.below b2)
    have HB2 := Lib.hid (HB1.out.trans (b2.mono HB1.out.size))
    have HI2 := Lib.hid (show Blk.Is w2 w.heap.size 42 #[.string (S nm), .slice la N lc] from (b2.block _ hs1).trans HI1.out)
    have hs2 : w.heap.size < w2.heap.size := Nat.lt_of_lt_of_le hs1 b2.size
    clear z0' z1' b2 HU1 HFW1 HB1 HI1 hs1
    cases htx : textsOK ls with
    | false =>
      have HTX := Lib.hid htx
      clear htx
      go_wp2_with fail
      go_ret
      refine ⟨?_, HB2.out⟩
      rw [← HG.out]
      unfold fieldErr
      rw [if_pos (by simp [HTX.out])]
      rfl
    | true =>
      have HTX := Lib.hid htx
      clear htx
      go_wp2_with fail
      go_still_tail 5, (by kernel_rfl)
      change wpList _ _ _ _ _ w2.drew
      have bd : Below w2.heap.size w2 w2.drew := (Below.refl _ _).drew
      have HFWd := Lib.hid (HFW2.out.below bd)
      have hud := HU2.out.below bd
      have hid2 : Blk.Is w2.drew w.heap.size 42 #[.string (S nm), .slice la N lc] := (bd.block _ hs2).trans HI2.out
      have hbd := HB2.out.trans (bd.mono HB2.out.size)
      have hsd : w.heap.size < w2.drew.heap.size := hs2
      clear HFW2 HU2 HI2 HB2 hs2 z0 z1 bd
      generalize w2.drew = wd at *
      have HU2 := Lib.hid hud
      have HI2 := Lib.hid hid2
      have HB2 := Lib.hid hbd
      clear hud hid2 hbd
      go_wp2_with fail
      refine (find_any (.slice (some ⟨g, off, none⟩) i cap) (fs.take i) nm wd (HFWd.out.take i (Nat.le_of_lt HI.out)) (fun f hf => by have := (HS.out f (List.mem_of_mem_take hf)).1; omega)).mono ?_
      rintro e w3 ⟨r, rfl, hfo, b3⟩
      have hfa := found_any hfo
      have z0' : w3.cell? ⟨w.heap.size, 0, none⟩ = some (.string (S nm)) := (show Blk.Is w3 w.heap.size 42 #[.string (S nm), .slice la N lc] from (b3.block _ hsd).trans HI2.out).at rfl
      have z1' : w3.cell? ⟨w.heap.size, 1, none⟩ = some (.slice la N lc) := (show Blk.Is w3 w.heap.size 42 #[.string (S nm), .slice la N lc] from (b3.block _ hsd).trans HI2.out).at rfl
      have HU3 := Lib.hid (HU2.out.below b3)
      have HB3 := Lib.hid (HB2.out.trans (b3.mono HB2.out.size))
      have HI3 := Lib.hid (show Blk.Is w3 w.heap.size 42 #[.string (S nm), .slice la N lc] from (b3.block _ hsd).trans HI2.out)
      have hs3 : w.heap.size < w3.heap.size := Nat.lt_of_lt_of_le hsd b3.size
      have HFA := Lib.hid hfa
      clear b3 HU2 HFWd HB2 HI2 hsd hfo hfa
      by_cases hr : 0 ≤ r
      · have hfa := HFA.out
        rw [decide_eq_true hr] at hfa
        have HFA2 := Lib.hid hfa
        clear hfa HFA
        go_wp2_with fail
        go_ret
        refine ⟨?_, HB3.out⟩
        rw [← HG.out]
        unfold fieldErr
        rw [if_neg (by simp [HNB.out, HTX.out]), if_pos HFA2.out]
        rfl
      · have hfa := HFA.out
        rw [decide_eq_false hr] at hfa
        have HFA2 := Lib.hid hfa
        clear hfa HFA
        go_wp2_with fail
        go_loopw [33] (fun i u => ∃ k : Nat, k ≤ N ∧ i = .int .i64 k ∧ Hid (∀ j, j < k → ¬ 1000 < (lineAt (nm, ls) j).length) ∧ Hid (Below w3.heap.size w3 u)) (fun i _ => N - (intOf i).toNat)
        case atStart => exact ⟨0, by omega, rfl, Lib.hid (fun j hj => absurd hj (by omega)), Lib.hid (Below.refl _ _)⟩
        case round =>
          obtain ⟨k, hk, rfl, HP, HBK⟩ := hrel
          have y0 : wr.cell? ⟨w.heap.size, 0, none⟩ = some (.string (S nm)) := (show Blk.Is wr w.heap.size 42 #[.string (S nm), .slice la N lc] from (HBK.out.block _ hs3).trans HI3.out).at rfl
          have y1 : wr.cell? ⟨w.heap.size, 1, none⟩ = some (.slice la N lc) := (show Blk.Is wr w.heap.size 42 #[.string (S nm), .slice la N lc] from (HBK.out.block _ hs3).trans HI3.out).at rfl
          by_cases hlt : k < N
          · have hkl : k < ls.length := by rw [HN.out]; exact hlt
            have hxl : (ls.getD k []).length ≤ 140737488351232 := HSF.out.2 _ (by simp [List.getD, List.getElem?_eq_getElem hkl])
            have k0 : (0 : Int) ≤ k := by omega
            have k1 : (k : Int) < N := by omega
            have cl := lineOf_any nm (.slice la N lc) ls k wr (HU3.out.below HBK.out) hkl hn0 hxl
            have hls := S_size (lineAt (nm, ls) k)
            have HKL := Lib.hid hkl
            clear hkl hxl
            go_wp2_with fail
            refine cl.mono ?_
            rintro e w4 ⟨rfl, b4⟩
            have HB4 := Lib.hid (HBK.out.trans (b4.mono HBK.out.size))
            clear cl b4 y0 y1
            by_cases hlong : 1000 < (lineAt (nm, ls) k).length
            · go_wp2_with fail
              go_ret
              refine ⟨?_, HB3.out.trans (HB4.out.mono HB3.out.size)⟩
              rw [← HG.out]
              unfold fieldErr
              rw [if_neg (by simp [HNB.out, HTX.out]), if_neg (by rw [HFA2.out]; simp), if_pos (long_yes (f := (nm, ls)) HKL.out hlong)]
              rfl
            · go_wp2_with fail
              refine ⟨⟨k + 1, by omega, by go_num, Lib.hid (fun j hj => ?_), HB4⟩, by simp [intOf]; omega⟩
              rcases Nat.lt_or_ge j k with h | h
              · exact HP.out j h
              · obtain rfl : j = k := by omega
                exact hlong
          · obtain rfl : k = N := by omega
            go_wp2_with fail
            go_ret
            refine ⟨?_, HB3.out.trans (HBK.out.mono HB3.out.size)⟩
            rw [← HG.out]
            unfold fieldErr
            rw [if_neg (by simp [HNB.out, HTX.out]), if_neg (by rw [HFA2.out]; simp), if_neg (by rw [long_no (f := (nm, ls)) (fun j hj => HP.out j (by rw [← HN.out]; exact hj))]; simp)]
            rfl
end Stz
end Go.Proofs.YtgolnfgkoolpoaaDoor

/-
A field's line; whether a field may have these texts.
-/
import Derived.Test.YtgolnfgkoolpoaaDoorStzFold
import Derived.Test.YtgolnfgkoolpoaaDoorStzGood
namespace Go.Proofs.YtgolnfgkoolpoaaDoor
open Go.RowKit
set_option linter.unusedSimpArgs false
set_option linter.unusedVariables false
namespace Stz
open Txt (trimL)
theorem S_app (a c : Bs) : S a ++ S c = S (a ++ c) := S_of (by rw [ByteArray.data_append, Array.toList_append, S_data, S_data])
theorem ret_str {a c : ByteArray} {w : World} {P : Prop} (h : a = c) (hp : P) : Ending.returned (Value.string a) = Ending.returned (.string c) ∧ P := ⟨by rw [h], hp⟩
theorem first_nil (nm : Bs) : S nm ++ ⟨#[58]⟩ = S (firstLine nm []) := S_app nm [58]
theorem first_some (nm : Bs) {x : Bs} (h : ¬ x = []) : S nm ++ ⟨#[58]⟩ ++ ⟨#[32]⟩ ++ S x = S (firstLine nm x) := by
  rw [show (⟨#[58]⟩ : ByteArray) = S [58] from rfl, show (⟨#[32]⟩ : ByteArray) = S [32] from rfl, S_app, S_app, S_app]
  unfold firstLine
  rw [if_neg h]
  simp
theorem next_some {x : Bs} (h : ¬ x = []) : (⟨#[32]⟩ : ByteArray) ++ S x = S (nextLine x) := by
  rw [show (⟨#[32]⟩ : ByteArray) = S [32] from rfl, S_app]
  unfold nextLine
  rw [if_neg h]
  rfl
set_option maxRecDepth 100000 in
set_option maxHeartbeats 4000000 in
theorem lineOf_any (nm : Bs) (u : Value) (ls : List Bs) (i : Nat) (w : World) (h : Txt.Texts w u (ls.map S)) (hi : i < ls.length) (hnm : nm.length ≤ 140737488351232) (hx : (ls.getD i []).length ≤ 140737488351232) :
    Calls Tryd.prog 47 #[.agg #[.string (S nm), u], .int .i64 i] w fun e w' => e = .returned (.string (S (lineAt (nm, ls) i))) ∧ Below w.heap.size w w' := by
  obtain ⟨_, a, cap, rfl, hcap, hread⟩ := h
  obtain ⟨g, off, rfl, hat⟩ := hread (by rw [List.length_map]; omega)
  have hc := hat i (by rw [List.length_map]; exact hi)
  rw [map_getD ls hi] at hc
  obtain ⟨x, hxx⟩ : ∃ x, ls.getD i [] = x := ⟨_, rfl⟩
  rw [hxx] at hc hx
  have hla : lineAt (nm, ls) i = if i = 0 then firstLine nm x else nextLine x := by
    unfold lineAt
    rw [← hxx]
    split
    · rename_i h; subst h; rfl
    · rfl
  have HLA := Lib.hid hla
  have hem := is_empty (S x)
  rw [S_data] at hem
  clear hat hread hla hxx
  rw [List.length_map] at hcap ⊢
  obtain ⟨W, hW⟩ : ∃ W, w.alloc (.cells #[.string (S nm), .slice (some ⟨g, off, none⟩) ls.length cap] 42) = W := ⟨_, rfl⟩
  have hbW : Below w.heap.size w W := by rw [← hW]; exact (Below.refl _ _).alloc (Nat.le_refl _) _
  have iW : Blk.Is W w.heap.size 42 #[.string (S nm), .slice (some ⟨g, off, none⟩) ls.length cap] := by rw [← hW]; exact Blk.Is.new w _ _
  have c0 : W.cell? ⟨w.heap.size, 0, none⟩ = some (.string (S nm)) := iW.at rfl
  have c1 : W.cell? ⟨w.heap.size, 1, none⟩ = some (.slice (some ⟨g, off, none⟩) ls.length cap) := iW.at rfl
  rw [← hbW.cell (Txt.lt_cell hc)] at hc
  have HBW := Lib.hid hbW
  have i0 : (0 : Int) ≤ i := by omega
  have i1 : (i : Int) < ls.length := by omega
  have hsn := S_size nm
  have hsx := S_size x
  clear hbW iW
  go_enter Tryd.func47, Tryd.ntmps47
  by_cases h0 : i = 0
  · rw [if_pos h0] at HLA
    have h0' : ¬ (0 : Int) < i := by omega
    clear h0
    by_cases hxe : x = []
    · rw [decide_eq_true hxe] at hem
      have HXE := Lib.hid hxe
      clear hxe
      go_wp2_with fail
      go_ret
      rw [HLA.out, HXE.out]
      exact ⟨by rw [← first_nil]; rfl, HBW.out⟩
    · rw [decide_eq_false hxe] at hem
      have HXE := Lib.hid hxe
      clear hxe
      go_wp2_with fail
      go_ret
      rw [HLA.out]
      exact ⟨by rw [← first_some nm HXE.out]; rfl, HBW.out⟩
  · rw [if_neg h0] at HLA
    have h0' : (0 : Int) < i := by omega
    clear h0
    by_cases hxe : x = []
    · rw [decide_eq_true hxe] at hem
      have HXE := Lib.hid hxe
      clear hxe
      go_wp2_with fail
      go_ret
      rw [HLA.out, HXE.out]
      exact ⟨rfl, HBW.out⟩
    · rw [decide_eq_false hxe] at hem
      have HXE := Lib.hid hxe
      clear hxe
      go_wp2_with fail
      go_ret
      rw [HLA.out]
      exact ⟨by rw [← next_some HXE.out]; rfl, HBW.out⟩
/-- May these be a field's texts, as far as they have been looked at? -/
def textAt (ls : List Bs) (i : Nat) : Bool := if i = 0 then firstOK (ls.getD i []) else nextOK (ls.getD i [])
theorem texts_all {ls : List Bs} (h0 : 0 < ls.length) (h : ∀ i, i < ls.length → textAt ls i = true) : textsOK ls = true := by
  cases ls with
  | nil => simp at h0
  | cons x r =>
    simp only [textsOK, Bool.and_eq_true, List.all_eq_true]
    refine ⟨h 0 (by simp), fun y hy => ?_⟩
    obtain ⟨i, hi, rfl⟩ := List.mem_iff_getElem.1 hy
    have := h (i + 1) (by simp; omega)
    simpa [textAt, List.getD, hi] using this
theorem texts_bad {ls : List Bs} {i : Nat} (hi : i < ls.length) (h : textAt ls i = false) : textsOK ls = false := by
  cases ls with
  | nil => simp at hi
  | cons x r =>
    cases i with
    | zero =>
      have h' : firstOK x = false := h
      simp [textsOK, h']
    | succ i =>
      have hi' : i < r.length := by simpa using hi
      have h' : nextOK (r[i]) = false := by simpa [textAt, List.getD, hi'] using h
      simp only [textsOK]
      rw [Bool.and_eq_false_iff]
      right
      rw [List.all_eq_false]
      exact ⟨r[i], List.getElem_mem _, by rw [h']; simp⟩
theorem str_eq (a c : ByteArray) : (a.toList == c.toList) = decide (a.data.toList = c.data.toList) := by
  rw [Lib.toList_data, Lib.toList_data]
  by_cases h : a.data.toList = c.data.toList
  · rw [h]; simp
  · rw [decide_eq_false h, beq_eq_false_iff_ne]; exact h
set_option maxRecDepth 100000 in
set_option maxHeartbeats 4000000 in
theorem mayLines_any (v : Value) (ls : List Bs) (w : World) (h : Txt.Texts w v (ls.map S)) (hs : ∀ x ∈ ls, x.length ≤ 9223372036854775807) (hT : Lib.Utf8Tabs 1 2 w) :
    Calls Tryd.prog 64 #[v] w fun e w' => e = .returned (.bool (textsOK ls)) ∧ Below w.heap.size w w' := by
  obtain ⟨hmx, a, cap, rfl, hcap, hread⟩ := h
  have HR := Lib.hid hread
  have HS := Lib.hid hs
  have HTT := Lib.hid hT
  have htl := Lib.hid (Txt.tabs_lt hT)
  obtain ⟨N, hN⟩ : ∃ N, ls.length = N := ⟨_, rfl⟩
  have HN := Lib.hid hN
  rw [List.length_map] at hcap hmx ⊢
  rw [hN] at hcap hmx
  rw [hN]
  obtain ⟨G, hG⟩ : ∃ G, textsOK ls = G := ⟨_, rfl⟩
  have HG := Lib.hid hG
  rw [hG]
  clear hread hs hT hN hG
  go_enter Tryd.func64, Tryd.ntmps64
  go_wp2_with fail
  go_loopw [8] (fun i u => ∃ k : Nat, k ≤ N ∧ i = .int .i64 k ∧ Hid (∀ j, j < k → textAt ls j = true) ∧ Hid (Below w.heap.size w u)) (fun i _ => N - (intOf i).toNat)
  case atStart => exact ⟨0, by omega, rfl, Lib.hid (fun j hj => absurd hj (by omega)), Lib.hid (Below.refl _ _)⟩
  case round =>
    obtain ⟨k, hk, rfl, HP, HB⟩ := hrel
    by_cases hlt : k < N
    · obtain ⟨g, off, rfl, hat⟩ := HR.out (by rw [List.length_map, HN.out]; omega)
      have hkl : k < ls.length := by rw [HN.out]; exact hlt
      have hc := hat k (by rw [List.length_map]; exact hkl)
      rw [map_getD ls hkl] at hc
      obtain ⟨x, hx⟩ : ∃ x, ls.getD k [] = x := ⟨_, rfl⟩
      have hxl : x.length ≤ 9223372036854775807 := by
        rw [← hx]
        exact HS.out _ (by simp [List.getD, List.getElem?_eq_getElem hkl])
      rw [hx] at hc
      rw [← HB.out.cell (Txt.lt_cell hc)] at hc
      have k0 : (0 : Int) ≤ k := by omega
      have k1 : (k : Int) < N := by omega
      have hTw := Txt.tabs_below HTT.out HB.out htl.out
      have cg := Txt.good_any (S x) wr (by rw [S_size]; exact hxl) hTw
      have HKL := Lib.hid hkl
      have HX := Lib.hid hx
      clear hat hx hTw hkl
      by_cases hgd : goodL x
      · have hge : Txt.good (S x) = -1 := hgd
        rw [hge] at cg
        have CG := Lib.hid cg
        have HGD := Lib.hid hgd
        clear cg hge hgd
        by_cases hk0 : k = 0
        · have HK0 := Lib.hid hk0
          have hb0 : ((k : Int) == 0) = true := by subst hk0; rfl
          clear hk0
          go_wp2_with fail
          refine CG.out.mono ?_
          rintro e w2 ⟨rfl, b2⟩
          have HB2 := Lib.hid (HB.out.trans (b2.mono HB.out.size))
          clear b2 CG
          go_wp2_with fail
          refine (first_any (S x) w2 (by rw [S_size]; exact hxl) (Txt.tabs_below HTT.out HB2.out htl.out)).mono ?_
          rintro e w3 ⟨t, rfl, ht, b3⟩
          have HB3 := Lib.hid (HB2.out.trans (b3.mono HB2.out.size))
          have hse := str_eq t (S x)
          rw [S_data] at ht hse
          rw [ht] at hse
          clear b3 HB2 ht
          by_cases hsame : trimL x = x
          · rw [decide_eq_true hsame] at hse
            have HSM := Lib.hid hsame
            clear hsame
            go_wp2_with fail
            refine ⟨⟨k + 1, by omega, by go_num, Lib.hid (fun j hj => ?_), HB3⟩, by simp [intOf]; omega⟩
            rcases Nat.lt_or_ge j k with h | h
            · exact HP.out j h
            · obtain rfl : j = k := by omega
              unfold textAt
              rw [if_pos HK0.out, HX.out]
              simp only [firstOK, Bool.and_eq_true, decide_eq_true_eq]
              exact ⟨HGD.out, by rw [HSM.out]; simp⟩
          · rw [decide_eq_false hsame] at hse
            have HSM := Lib.hid hsame
            clear hsame
            go_wp2_with fail
            go_ret
            refine ⟨?_, HB3.out⟩
            rw [← HG.out, texts_bad HKL.out ?_]
            · rfl
            · unfold textAt
              rw [if_pos HK0.out, HX.out]
              simp only [firstOK, Bool.and_eq_false_iff]
              exact .inr (by rw [beq_eq_false_iff_ne]; exact HSM.out)
        · have HK0 := Lib.hid hk0
          have hb0 : ((k : Int) == 0) = false := by
            rw [beq_eq_false_iff_ne]
            omega
          clear hk0
          go_wp2_with fail
          refine CG.out.mono ?_
          rintro e w2 ⟨rfl, b2⟩
          have HB2 := Lib.hid (HB.out.trans (b2.mono HB.out.size))
          clear b2 CG
          go_wp2_with fail
          refine (further_any (S x) w2 (by rw [S_size]; exact hxl)).mono ?_
          rintro e w3 ⟨t, rfl, ht, b3⟩
          have HB3 := Lib.hid (HB2.out.trans (b3.mono HB2.out.size))
          have hse := str_eq t (S x)
          rw [S_data] at ht hse
          rw [ht] at hse
          clear b3 HB2 ht
          by_cases hsame : further x = x
          · rw [decide_eq_true hsame] at hse
            have HSM := Lib.hid hsame
            clear hsame
            go_wp2_with fail
            refine ⟨⟨k + 1, by omega, by go_num, Lib.hid (fun j hj => ?_), HB3⟩, by simp [intOf]; omega⟩
            rcases Nat.lt_or_ge j k with h | h
            · exact HP.out j h
            · obtain rfl : j = k := by omega
              unfold textAt
              rw [if_neg HK0.out, HX.out]
              simp only [nextOK, Bool.and_eq_true, decide_eq_true_eq]
              exact ⟨HGD.out, by rw [HSM.out]; simp⟩
          · rw [decide_eq_false hsame] at hse
            have HSM := Lib.hid hsame
            clear hsame
            go_wp2_with fail
            go_ret
            refine ⟨?_, HB3.out⟩
            rw [← HG.out, texts_bad HKL.out ?_]
            · rfl
            · unfold textAt
              rw [if_neg HK0.out, HX.out]
              simp only [nextOK, Bool.and_eq_false_iff]
              exact .inr (by rw [beq_eq_false_iff_ne]; exact HSM.out)
      · have hge : ¬ Txt.good (S x) = -1 := hgd
        have hg0 : 0 ≤ Txt.good (S x) := by
          rcases Txt.good_ge (S x) with h | h
          · exact absurd h hge
          · exact h
        have hg1 : ¬ Txt.good (S x) < 0 := by omega
        have CG := Lib.hid cg
        have HGD := Lib.hid hgd
        clear hge hgd cg
        cases hb0 : ((k : Int) == 0)
        all_goals
          go_wp2_with fail
          refine CG.out.mono ?_
          rintro e w2 ⟨rfl, b2⟩
          have HB2 := Lib.hid (HB.out.trans (b2.mono HB.out.size))
          clear b2 CG
          go_wp2_with fail
          go_ret
          refine ⟨?_, HB2.out⟩
          rw [← HG.out, texts_bad HKL.out ?_]
          · rfl
          · unfold textAt
            rw [HX.out]
            split <;> simp [firstOK, nextOK, HGD.out]
    · obtain rfl : k = N := by omega
      go_wp2_with fail
      go_ret
      refine ⟨?_, HB.out⟩
      rw [← HG.out]
      by_cases h0 : 0 < k
      · rw [texts_all (by rw [HN.out]; exact h0) (fun i hi => HP.out i (by rw [HN.out] at hi; exact hi))]
        show Ending.returned (Value.bool (decide (0 < k))) = _
        rw [decide_eq_true h0]
      · have hl0 : ls.length = 0 := by rw [HN.out]; omega
        obtain rfl : ls = [] := List.length_eq_zero_iff.1 hl0
        show Ending.returned (Value.bool (decide (0 < k))) = _
        rw [decide_eq_false h0]
        rfl
end Stz
end Go.Proofs.YtgolnfgkoolpoaaDoor

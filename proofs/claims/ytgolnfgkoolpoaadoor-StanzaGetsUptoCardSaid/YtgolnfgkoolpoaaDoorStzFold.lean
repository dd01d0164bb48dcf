/-
Fold and Get.
-/
import Derived.Test.YtgolnfgkoolpoaaDoorStzFind
namespace Go.Proofs.YtgolnfgkoolpoaaDoor
open Go.RowKit
set_option linter.unusedSimpArgs false
set_option linter.unusedVariables false
namespace Stz
open Txt (trimL)
/-- What is left of lines, Trimmed. -/
def partsL (ls : List Bs) : List Bs := (ls.map trimL).filter fun x => !x.isEmpty
def foldL (ls : List Bs) : Bs := Lib.join (partsL ls) [32]
theorem parts_snoc (ls : List Bs) (x : Bs) : partsL (ls ++ [x]) = if trimL x = [] then partsL ls else partsL ls ++ [trimL x] := by
  unfold partsL
  rw [List.map_append, List.filter_append]
  cases h : trimL x with
  | nil => simp [h]
  | cons c r => simp [h]
theorem parts_len (ls : List Bs) : (partsL ls).length ≤ ls.length := by
  unfold partsL
  have := List.length_filter_le (fun x : Bs => !x.isEmpty) (ls.map trimL)
  simpa using this
theorem take_one {ls : List Bs} {k : Nat} (h : k < ls.length) : ls.take (k + 1) = ls.take k ++ [ls.getD k []] := by
  rw [List.take_succ_eq_append_getElem h]
  simp [List.getD, List.getElem?_eq_getElem h]
theorem map_getD (ls : List Bs) {k : Nat} (h : k < ls.length) : (ls.map S).getD k ByteArray.empty = S (ls.getD k []) := by
  simp [List.getD, List.getElem?_eq_getElem h]
theorem neq_empty (t : ByteArray) : (!t.toList.isEmpty) = !decide (t.data.toList = []) := by
  rw [Lib.toList_data]
  cases t.data.toList <;> rfl
theorem is_empty (t : ByteArray) : t.toList.isEmpty = decide (t.data.toList = []) := by
  rw [Lib.toList_data]
  cases t.data.toList <;> rfl
set_option maxRecDepth 100000 in
set_option maxHeartbeats 4000000 in
theorem join_none (w : World) : Calls Tryd.prog 37 #[.slice none 0 0, .string ⟨#[32]⟩] w fun e w' => e = .returned (.string (S [])) ∧ w' = w := by
  go_enter Tryd.func37, Tryd.ntmps37
  go_wp2_with fail
  go_ret
  exact ⟨rfl, rfl⟩
/-- Join with a space. -/
theorem join_any (B : Nat) (v : Value) (ps : List Bs) (w : World) (h : w.ownsRow B 9 1 v ps.length ((ps.map S).map Value.string)) (hn : ps.length ≤ 1000000) (hl : (Lib.join ps [32]).length ≤ 140737488355328) :
    Calls Tryd.prog 37 #[v, .string ⟨#[32]⟩] w fun e w' => e = .returned (.string (S (Lib.join ps [32]))) ∧ Below w.heap.size w w' := by
  by_cases h0 : ps.length = 0
  · obtain rfl : ps = [] := List.length_eq_zero_iff.1 h0
    rcases h.2 with ⟨rfl, _⟩ | ⟨g, cap, cur, rfl, hg, hh, hc, hm, hs, ht⟩
    · exact (join_none w).mono fun e w' hh => ⟨hh.1, by rw [hh.2]; exact Below.refl _ _⟩
    · have := Tryd.strings_Join g 0 cap [] ⟨#[32]⟩ w (fun j x hj => by cases hj) (Array.getElem?_eq_some_iff.1 hh).1 (by simp) (by simp) (by simp [Lib.join])
      exact this
  · obtain ⟨g, cap, rfl, hc⟩ := own_slice h (by omega)
    have hcell : ∀ (j : Nat) x, (ps.map S)[j]? = some x → w.cell? ⟨g, 0 + j, none⟩ = some (.string x) := fun j x hj => by
      rw [Nat.zero_add]
      exact own_cell h (by rw [List.getElem?_map, hj]; rfl)
    have hlt := (own_lt h (k := g) rfl).2
    have hmap : (ps.map S).map (fun t : ByteArray => t.data.toList) = ps := by simp [List.map_map, Function.comp_def, S_data]
    have := Tryd.strings_Join g 0 cap (ps.map S) ⟨#[32]⟩ w hcell hlt (by rw [List.length_map]; omega) (by rw [List.length_map]; exact hc) (by rw [hmap]; exact hl)
    rw [hmap, List.length_map] at this
    exact this
set_option maxRecDepth 100000 in
set_option maxHeartbeats 4000000 in
theorem fold_any (v : Value) (ls : List Bs) (w : World) (h : Txt.Texts w v (ls.map S)) (hn : ls.length ≤ 1000000) (hs : ∀ x ∈ ls, x.length ≤ 9223372036854775807) (hl : (foldL ls).length ≤ 140737488355328) (hT : Lib.Utf8Tabs 1 2 w) :
    Calls Tryd.prog 21 #[v] w fun e w' => e = .returned (.string (S (foldL ls))) ∧ Below w.heap.size w w' := by
  obtain ⟨_, a, cap, rfl, hcap, hread⟩ := h
  have HR := Lib.hid hread
  have HS := Lib.hid hs
  have HLL := Lib.hid hl
  have HTT := Lib.hid hT
  have htl := Lib.hid (Txt.tabs_lt hT)
  obtain ⟨N, hN⟩ : ∃ N, ls.length = N := ⟨_, rfl⟩
  have HN := Lib.hid hN
  rw [List.length_map] at hcap ⊢
  rw [hN] at hn hcap
  rw [hN]
  clear hread hs hl hT hN
  go_enter Tryd.func21, Tryd.ntmps21
  go_wp2_with fail
  go_loopw [3, 9] (fun s3 i u => ∃ k : Nat, k ≤ N ∧ i = .int .i64 k ∧ Hid (u.ownsRow w.heap.size 9 1 s3 (partsL (ls.take k)).length (((partsL (ls.take k)).map S).map Value.string)) ∧ Hid (Below w.heap.size w u)) (fun _ i _ => N - (intOf i).toNat)
  case atStart => exact ⟨0, by omega, rfl, World.ownsRow_nil w _ _ 1, Below.refl _ _⟩
  case round =>
    obtain ⟨k, hk, rfl, HOWN, HBK⟩ := hrel
    obtain ⟨oa, ocap, eo, _⟩ := own_shape HOWN.out
    obtain ⟨m, hm⟩ : ∃ m, (partsL (ls.take k)).length = m := ⟨_, rfl⟩
    rw [hm] at eo
    subst eo
    have hml : m ≤ k := by
      rw [← hm]
      exact Nat.le_trans (parts_len _) (by rw [List.length_take]; omega)
    have HM := Lib.hid hm
    clear hm
    by_cases hlt : k < N
    · obtain ⟨g, off, rfl, hat⟩ := HR.out (by rw [List.length_map, HN.out]; omega)
      have hkl : k < ls.length := by rw [HN.out]; exact hlt
      have hc := hat k (by rw [List.length_map]; exact hkl)
      rw [map_getD ls hkl] at hc
      obtain ⟨x, hx⟩ : ∃ x, ls.getD k [] = x := ⟨_, rfl⟩
      have hxl : x.length ≤ 9223372036854775807 := by
        rw [← hx]
        exact HS.out _ (by simp [List.getD, List.getElem?_eq_getElem hkl])
      have htk := take_one hkl
      rw [hx] at hc htk
      rw [← HBK.out.cell (Txt.lt_cell hc)] at hc
      have k0 : (0 : Int) ≤ k := by omega
      have k1 : (k : Int) < N := by omega
      have ct := Txt.trim_any (S x) wr (by rw [S_size]; exact hxl) (Txt.tabs_below HTT.out HBK.out htl.out)
      rw [S_data] at ct
      have CT := Lib.hid ct
      have HTK := Lib.hid htk
      have hps := parts_snoc (ls.take k) x
      rw [← htk] at hps
      have HPS := Lib.hid hps
      clear hat hx ct htk hps hkl
      go_wp2_with fail
      refine CT.out.mono ?_
      rintro e w2 ⟨t, rfl, ht, b2⟩
      have HB2 := Lib.hid (HBK.out.trans (b2.mono HBK.out.size))
      have HO2 := Lib.hid (Own.owns_below HOWN.out b2)
      have hne := neq_empty t
      rw [ht] at hne
      have HT2 := Lib.hid (S_of ht)
      clear ht b2
      by_cases hem : trimL x = []
      · rw [decide_eq_true hem] at hne
        have hps := HPS.out
        rw [if_pos hem] at hps
        have hown2 := HO2.out
        rw [← hps] at hown2
        have HOWN2 := Lib.hid hown2
        rw [← hps] at HM
        have hmm := HM.out
        rw [hmm] at HOWN2
        have HMM := Lib.hid hmm
        clear hem hps hown2 hmm
        go_wp2_with fail
        refine ⟨⟨k + 1, by omega, by go_num, by rw [HMM.out]; exact HOWN2, HB2⟩, by simp [intOf]; omega⟩
      · rw [decide_eq_false hem] at hne
        have hps := HPS.out
        rw [if_neg hem] at hps
        have HPS2 := Lib.hid hps
        obtain ⟨w3, hw3⟩ : ∃ w3, w2.alloc (.cells #[.string t] 9) = w3 := ⟨_, rfl⟩
        have hb3 : Below w2.heap.size w2 w3 := by rw [← hw3]; exact (Below.refl _ _).alloc (Nat.le_refl _) _
        have hcell : w3.cell? ⟨w2.heap.size, 0, none⟩ = some (.string t) := by rw [← hw3]; exact (Blk.Is.new w2 9 #[.string t]).at rfl
        have ho3 := Own.owns_below HO2.out hb3
        have HO3 := Lib.hid ho3
        have HCELL := Lib.hid hcell
        have HB3 := Lib.hid (HB2.out.trans (hb3.mono HB2.out.size))
        have HW3 := Lib.hid hw3
        clear hem hps hw3 hb3 hcell ho3
        go_wp2_with (at_builtin; rw [HW3.out]; refine Txt.append_text rfl (.tmp 17) (.tmp 19) rfl w.heap.size (.slice oa m ocap) ((partsL (ls.take k)).map S) rfl (by have := HO3.out; rw [List.length_map]; rw [HM.out] at this ⊢; exact this) ⟨w2.heap.size, 0, none⟩ 1 rfl t HCELL.out (by rw [List.length_map, HM.out]; omega) HB3.out.size ?_; intro v' w4 h4 h5; simp only [List.length_append, List.length_map, List.length_singleton] at h4; rw [HM.out] at h4; obtain ⟨a4, c4, rfl, _⟩ := own_shape h4; have hb4 := Own.below_grown HB3.out (by have := HO3.out; rw [HM.out] at this; exact this) h5 HB3.out.size; have H4 := Lib.hid h4; have HB4 := Lib.hid hb4; clear h4 h5 hb4)
        refine ⟨⟨k + 1, by omega, by go_num, ?_, HB4⟩, by simp [intOf]; omega⟩
        have e1 : (partsL (ls.take (k + 1))).length = m + 1 := by rw [HPS2.out, List.length_append, HM.out]; rfl
        have e2 : ((partsL (ls.take (k + 1))).map S).map Value.string = ((partsL (ls.take k)).map S ++ [t]).map Value.string := by rw [HPS2.out, HT2.out]; simp
        rw [e1, e2]
        exact H4
    · obtain rfl : k = N := by omega
      have hown := HOWN.out
      rw [List.take_of_length_le (by rw [HN.out]; exact Nat.le_refl _)] at hown
      have hm2 := HM.out
      rw [List.take_of_length_le (by rw [HN.out]; exact Nat.le_refl _)] at hm2
      have cj := join_any w.heap.size (.slice oa m ocap) (partsL ls) wr hown (by rw [hm2]; omega) HLL.out
      have CJ := Lib.hid cj
      clear hown hm2 cj
      go_wp2_with fail
      refine CJ.out.mono ?_
      rintro e w9 ⟨rfl, b9⟩
      have HB9 := Lib.hid (HBK.out.trans (b9.mono HBK.out.size))
      clear b9
      go_wp2_with fail
      go_ret
      exact ⟨rfl, HB9.out⟩
/-- What Get tells. -/
def GetR (fs : List Fld) (nm : Bs) (t : Bs) (ok : Bool) : Prop :=
  (ok = false ∧ t = [] ∧ ∀ i, i < fs.length → sameB (fs.getD i ([], [])).1 nm = false) ∨
  ∃ i, i < fs.length ∧ ok = true ∧ t = foldL (fs.getD i ([], [])).2 ∧ sameB (fs.getD i ([], [])).1 nm = true ∧ ∀ j, j < i → sameB (fs.getD j ([], [])).1 nm = false
theorem GetR.uniq {fs : List Fld} {nm t t' : Bs} {ok ok' : Bool} (h : GetR fs nm t ok) (h' : GetR fs nm t' ok') : t = t' ∧ ok = ok' := by
  rcases h with ⟨rfl, rfl, h1⟩ | ⟨i, h1, rfl, rfl, h2, h3⟩
  · rcases h' with ⟨rfl, rfl, _⟩ | ⟨j, k1, _, _, k2, _⟩
    · exact ⟨rfl, rfl⟩
    · rw [h1 j k1] at k2; cases k2
  · rcases h' with ⟨_, _, k1⟩ | ⟨j, k1, rfl, rfl, k2, k3⟩
    · rw [k1 i h1] at h2; cases h2
    · have : i = j := by
        rcases Nat.lt_trichotomy i j with hlt | he | hlt
        · have := k3 i hlt; rw [h2] at this; cases this
        · exact he
        · have := h3 j hlt; rw [k2] at this; cases this
      subst this
      exact ⟨rfl, rfl⟩
set_option maxRecDepth 100000 in
set_option maxHeartbeats 4000000 in
theorem get_any (line : Int) (fv : Value) (fs : List Fld) (nm : Bs) (w : World) (hF : Flds w fv fs) (hn : ∀ f ∈ fs, f.1.length ≤ 9223372036854775807) (hb : ∀ f ∈ fs, f.2.length ≤ 1000000 ∧ (∀ x ∈ f.2, x.length ≤ 9223372036854775807) ∧ (foldL f.2).length ≤ 140737488355328) (hT : Lib.Utf8Tabs 1 2 w) :
    Calls Tryd.prog 18 #[.agg #[.int .i64 line, fv], .string (S nm)] w fun e w' => ∃ t ok, e = .returned (.tuple #[.string (S t), .bool ok]) ∧ GetR fs nm t ok ∧ Below w.heap.size w w' := by
  obtain ⟨hl0, a, cap, rfl, hcap, hread⟩ := id hF
  obtain ⟨W, hW⟩ : ∃ W, w.alloc (.cells #[.int .i64 line, .slice a fs.length cap] 37) = W := ⟨_, rfl⟩
  have hbW : Below w.heap.size w W := by rw [← hW]; exact (Below.refl _ _).alloc (Nat.le_refl _) _
  have iW : Blk.Is W w.heap.size 37 #[.int .i64 line, .slice a fs.length cap] := by rw [← hW]; exact Blk.Is.new w _ _
  have c1 : W.cell? ⟨w.heap.size, 1, none⟩ = some (.slice a fs.length cap) := iW.at rfl
  have hFW := hF.below hbW
  have cf := find_any (.slice a fs.length cap) fs nm W hFW hn
  have CF := Lib.hid cf
  have HBW := Lib.hid hbW
  have HFW := Lib.hid hFW
  have HB := Lib.hid hb
  have HTT := Lib.hid hT
  have htl := Lib.hid (Txt.tabs_lt hT)
  have HIW := Lib.hid iW
  obtain ⟨N, hN⟩ : ∃ N, fs.length = N := ⟨_, rfl⟩
  have HN := Lib.hid hN
  rw [hN] at c1 hl0 CF hW
  rw [hN]
  clear hF hread hn hb hT cf hFW iW hbW hN hcap
  go_enter Tryd.func18, Tryd.ntmps18
  go_wp2_with fail
  refine CF.out.mono ?_
  rintro e w2 ⟨r, rfl, hfo, b2⟩
  have HB2 := Lib.hid (HBW.out.trans (b2.mono HBW.out.size))
  rcases hfo with ⟨rfl, hno⟩ | ⟨i, hi, rfl, hyes, hfirst⟩
  · have HNO := Lib.hid hno
    clear hno b2 hW
    go_wp2_with fail
    go_ret2
    exact ⟨[], false, rfl, .inl ⟨rfl, rfl, HNO.out⟩, HB2.out⟩
  · have hfm : fs.getD i ([], []) ∈ fs := by simp [List.getD, List.getElem?_eq_getElem hi]
    obtain ⟨e1, e2, e3⟩ := HB.out _ hfm
    obtain ⟨_, a', cap', ea, _, hread⟩ := HFW.out
    simp only [Value.slice.injEq] at ea
    obtain ⟨rfl, _, rfl⟩ := ea
    obtain ⟨g, off, rfl, hat⟩ := hread (by omega)
    obtain ⟨_, u, q2, q3⟩ := hat i hi
    obtain ⟨la, lc, eu⟩ : ∃ la lc, u = .slice la ((fs.getD i ([], [])).2.map S).length lc := by
      obtain ⟨_, la, lc, h, _⟩ := q3
      exact ⟨la, lc, h⟩
    have q3' := q3.below b2
    have cfo := fold_any u _ w2 q3' e1 e2 e3 (Txt.tabs_below HTT.out HB2.out htl.out)
    subst eu
    obtain ⟨ln, hln⟩ : ∃ ln, ((fs.getD i ([], [])).2.map S).length = ln := ⟨_, rfl⟩
    rw [hln] at q2 cfo
    rw [← b2.cell (Txt.lt_cell q2)] at q2
    rw [Nat.mul_comm 2 i] at q2
    have c2 : w2.cell? ⟨w.heap.size, 1, none⟩ = some (.slice (some ⟨g, off, none⟩) N cap) := by
      have := HIW.out.at (i := 1) rfl
      rw [b2.cell (Txt.lt_cell this), this]
      rw [HN.out]; rfl
    have i0 : (0 : Int) ≤ i := by omega
    have i1 : (i : Int) < N := by rw [HN.out] at hi; omega
    have CFO := Lib.hid cfo
    have HY := Lib.hid hyes
    have HFI := Lib.hid hfirst
    have HI := Lib.hid hi
    clear hfm e1 e2 e3 hread hat q3 q3' cfo hln hyes hfirst hi b2 hW
    go_wp2_with fail
    refine CFO.out.mono ?_
    rintro e w3 ⟨rfl, b3⟩
    have HB3 := Lib.hid (HB2.out.trans (b3.mono HB2.out.size))
    clear b3
    go_wp2_with fail
    go_ret2
    exact ⟨_, true, rfl, .inr ⟨i, HI.out, rfl, rfl, HY.out, HFI.out⟩, HB3.out⟩
end Stz
end Go.Proofs.YtgolnfgkoolpoaaDoor

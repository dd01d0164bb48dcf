/-
The library's TrimRight and ContainsAny at white space; first and further; the references' are those of text.
-/
import Derived.Test.YtgolnfgkoolpoaaDoorStzName
import Derived.Test.YtgolnfgkoolpoaaDoorWordsK
import Derived.Shelf.Strings.IndexAnyAll
import Derived.Lib.Builder
namespace Go.Proofs.YtgolnfgkoolpoaaDoor
open Go.RowKit Go.Lib
set_option linter.unusedSimpArgs false
set_option linter.unusedVariables false
namespace Stz
open Txt (b b_eq b_lt W wht trimL trimRight trimLeft)
theorem infoSet : (Tryd.prog.info? 101).map (fun i => (i.zero, i.size)) = some (some (.agg (Array.replicate 256 (.bool false))), 256) := by kernel_rfl
theorem white_has (x : UInt8) : ([32, 9] : List UInt8).contains x = wht x.toNat := by
  unfold wht
  rw [Bool.eq_iff_iff]
  simp [← UInt8.toNat_inj]
set_option maxRecDepth 1000000 in
set_option maxHeartbeats 2000000 in
theorem trimSet_any (s : ByteArray) (k : Nat) (w : World) (hs : s.size ≤ 9223372036854775807) (hc : ∀ x : UInt8, w.cell? ⟨k, x.toNat, none⟩ = some (.bool (wht x.toNat))) :
    Calls Tryd.prog 94 #[.string s, .pointer (some ⟨k, 0, none⟩)] w fun e w' => ∃ t, e = .returned (.string t) ∧ t.data.toList = trimRight s.data.toList ∧ w' = w := by
  have HC := Lib.hid hc
  clear hc
  go_enter Tryd.func94, Tryd.ntmps94
  go_wp2_with fail
  go_loopg [0] s.size (fun gf s0 wx => ∃ t : ByteArray, s0 = .string t ∧ wx = w ∧ t.size ≤ gf ∧ t.size ≤ s.size ∧ Hid (trimRight t.data.toList = trimRight s.data.toList))
  case atStart => exact ⟨s, rfl, rfl, by omega, by omega, rfl⟩
  case round =>
    obtain ⟨t, rfl, rfl, hg, hts, HR⟩ := hrel
    by_cases h0 : 0 < t.size
    · have h0' : 0 < (t.size : Int) := by omega
      obtain ⟨m, hm⟩ : ∃ m, t.size = m + 1 := ⟨t.size - 1, by omega⟩
      obtain ⟨c, hc, hcb⟩ := Txt.take_snoc t m (by omega)
      rw [List.take_of_length_le (by rw [Txt.len_list]; omega)] at hc
      have hbm := b_eq t m (by omega)
      rw [← hcb] at hbm
      have hbl := UInt8.toNat_lt c
      have HCC := Lib.hid hc
      have HCB := Lib.hid hcb
      have HE := Lib.hid (Txt.ext_list t 0 m (by omega))
      have hes : (t.extract 0 m).size = m := by simp [ByteArray.size_extract]; omega
      have HES := Lib.hid hes
      have hcell := HC.out c
      cases hw : wht c.toNat
      · rw [hw] at hcell
        have hR := HR.out
        rw [HCC.out, Txt.trimRight_keep (show W c = false from hw)] at hR
        have HR2 := Lib.hid hR
        clear hR HR HES HE hc hcb hes hw
        go_wp2_with fail
        refine (Tryd.asciiSet_contains _ c _ _ hcell).mono ?_
        rintro e w' ⟨rfl, rfl⟩
        go_wp2_with fail
        go_ret
        exact ⟨t, rfl, by rw [HCC.out]; exact HR2.out, rfl⟩
      · rw [hw] at hcell
        have hR := HR.out
        rw [HCC.out, Txt.trimRight_back (fun d hd => by rw [List.mem_singleton.1 hd]; exact hw)] at hR
        have hR2 : trimRight (t.extract 0 m).data.toList = trimRight s.data.toList := by
          rw [HE.out, List.drop_zero, Nat.sub_zero]; exact hR
        have HR2 := Lib.hid hR2
        clear hR hR2 HR HCC HE hc hcb hes hw
        go_wp2_with fail
        refine (Tryd.asciiSet_contains _ c _ _ hcell).mono ?_
        rintro e w' ⟨rfl, rfl⟩
        go_wp2_with fail
        go_roundg m
        case measure => omega
        case rel => exact ⟨t.extract 0 m, rfl, rfl, by rw [HES.out]; omega, by rw [HES.out]; omega, HR2⟩
    · have h0' : ¬ 0 < (t.size : Int) := by omega
      have ht : t.data.toList = [] := List.eq_nil_of_length_eq_zero (by rw [Txt.len_list]; omega)
      have HT := Lib.hid ht
      clear ht
      go_wp2_with fail
      go_ret
      refine ⟨t, rfl, ?_, rfl⟩
      rw [← HR.out, HT.out]; rfl
theorem empty_size {s : ByteArray} (h : s.size = 0) : s.data.toList = [] := List.eq_nil_of_length_eq_zero (by rw [Txt.len_list, h])
set_option maxHeartbeats 8000000 in
set_option maxRecDepth 1000000 in
theorem trimRight_any (s : ByteArray) (w : World) (hs : s.size ≤ 9223372036854775807) :
    Calls Tryd.prog 76 #[.string s, .string ⟨#[32, 9]⟩] w fun e w' => ∃ t, e = .returned (.string t) ∧ t.data.toList = trimRight s.data.toList ∧ Below w.heap.size w w' := by
  by_cases h0 : s.size = 0
  · have he : s.toList.isEmpty = true := by rw [Lib.toList_data, empty_size h0]; rfl
    have HE := Lib.hid (empty_size h0)
    go_enter Tryd.func76, Tryd.ntmps76
    go_wp2_with fail
    go_ret
    exact ⟨s, rfl, by rw [HE.out]; rfl, Below.refl _ _⟩
  · have he : s.toList.isEmpty = false := by
      rw [Lib.toList_data]
      have := Txt.len_list s
      cases hq : s.data.toList with
      | nil => rw [hq] at this; exact absurd this.symm h0
      | cons _ _ => rfl
    have hM := Tryd.strings_makeASCIISet (zero_of_info infoSet).1 ⟨#[32, 9]⟩ w (by decide) (by
      intro j b hj
      have : b ∈ ([32, 9] : List UInt8) := List.mem_of_getElem? hj
      simp at this
      rcases this with rfl | rfl <;> decide)
    rw [show (⟨#[32, 9]⟩ : ByteArray).data.toList = [32, 9] from rfl] at hM
    obtain ⟨cs, hcs⟩ : ∃ cs, Lib.setCells [32, 9] = cs := ⟨_, rfl⟩
    have hsz := Lib.setCells_size [32, 9]
    have hone := Lib.setCells_one [32, 9]
    have hat : ∀ x : UInt8, cs[x.toNat]? = some (.bool (wht x.toNat)) := fun x => by rw [← hcs, Lib.setCells_at, white_has]
    rw [hcs] at hM hsz hone
    have hsc : (storeCells ⟨w.heap.size + 1, 0, none⟩ cs.toList 0).run Tryd.prog ((w.alloc (.cells cs 101)).alloc (.cells (Array.replicate 256 (.bool false)) 101)) = .ok () ((w.alloc (.cells cs 101)).alloc (.cells cs 101)) := by
      have := run_storeCells_new (P := Tryd.prog) (w.alloc (.cells cs 101)) 101 (Array.replicate 256 (.bool false)) cs (by rw [hsz]; exact (zero_of_info infoSet).2) (by rw [hsz, Array.size_replicate]) hone
      simpa using this
    obtain ⟨W, hW⟩ : ∃ W, ((w.alloc (.cells cs 101)).alloc (.cells cs 101)) = W := ⟨_, rfl⟩
    have hbW : Below w.heap.size w W := by rw [← hW]; exact ((Below.refl _ _).alloc (Nat.le_refl _) _).alloc (by simp) _
    have hcell : ∀ x : UInt8, W.cell? ⟨w.heap.size + 1, x.toNat, none⟩ = some (.bool (wht x.toNat)) := fun x => by
      rw [← hW, World.cell?_alloc_at _ _ _ _ (by simp), hat]
    have ct := trimSet_any s (w.heap.size + 1) W hs hcell
    have CT := Lib.hid ct
    have HB := Lib.hid hbW
    have hz := (zero_of_info infoSet).1
    rw [hW] at hsc
    clear ct hcell hbW hcs hat hone hW
    go_enter Tryd.func76, Tryd.ntmps76
    go_wp2_with (refine hM.mono ?_; rintro e w' ⟨rfl, hw⟩; rw [hw])
    refine CT.out.mono ?_
    rintro e w' ⟨t, rfl, ht, rfl⟩
    have HT := Lib.hid ht
    clear ht
    go_wp2_with fail
    go_ret
    exact ⟨t, rfl, HT.out, HB.out⟩
/-! ### further, first -/
theorem str_eq_dot (t : ByteArray) : (t.toList == [46]) = decide (t.data.toList = [46]) := by
  rw [Bool.eq_iff_iff]
  simp only [beq_iff_eq, decide_eq_true_eq, Lib.toList_data]
theorem empty_data : (ByteArray.mk #[]).data.toList = [] := rfl
set_option maxRecDepth 100000 in
set_option maxHeartbeats 1000000 in
theorem further_any (s : ByteArray) (w : World) (hs : s.size ≤ 9223372036854775807) :
    Calls Tryd.prog 59 #[.string s] w fun e w' => ∃ t, e = .returned (.string t) ∧ t.data.toList = further s.data.toList ∧ Below w.heap.size w w' := by
  have ct := trimRight_any s w hs
  have HF : Hid (further s.data.toList = if trimRight s.data.toList = [46] then [] else trimRight s.data.toList) := rfl
  generalize further s.data.toList = F at *
  go_enter Tryd.func59, Tryd.ntmps59
  go_wp2_with fail
  refine ct.mono ?_
  rintro e w1 ⟨t, rfl, ht, hb⟩
  have hd := str_eq_dot t
  by_cases hdot : t.data.toList = [46]
  · rw [decide_eq_true hdot] at hd
    have hF := HF.out
    rw [← ht, if_pos hdot] at hF
    have HF2 := Lib.hid hF
    clear hF HF ht hdot
    go_wp2_with fail
    go_ret
    exact ⟨_, rfl, HF2.out.symm, hb⟩
  · rw [decide_eq_false hdot] at hd
    have hF := HF.out
    rw [← ht, if_neg hdot] at hF
    have HF2 := Lib.hid hF
    clear hF HF ht hdot
    go_wp2_with fail
    go_ret
    exact ⟨t, rfl, HF2.out.symm, hb⟩
set_option maxRecDepth 100000 in
theorem first_any (s : ByteArray) (w : World) (hs : s.size ≤ 9223372036854775807) (hT : Lib.Utf8Tabs 1 2 w) :
    Calls Tryd.prog 62 #[.string s] w fun e w' => ∃ t, e = .returned (.string t) ∧ t.data.toList = trimL s.data.toList ∧ Below w.heap.size w w' := by
  have ct := Txt.trim_any s w hs hT
  clear hT
  go_enter Tryd.func62, Tryd.ntmps62
  go_wp2_with fail
  refine ct.mono ?_
  rintro e w1 ⟨t, rfl, ht, hb⟩
  have HT := Lib.hid ht
  clear ht
  go_wp2_with fail
  go_ret
  exact ⟨t, rfl, HT.out, hb⟩
/-! ### ContainsAny of one byte -/
set_option maxRecDepth 100000 in
set_option maxHeartbeats 2000000 in
theorem indexRune_bad (s : ByteArray) (w : World) (hs : s.size ≤ 9223372036854775807) (ha : ∀ k, k < s.size → b s k < 128) :
    Calls Tryd.prog 72 #[.string s, .int .i32 65533] w fun e w' => e = .returned (.int .i64 (-1)) ∧ Below w.heap.size w w' := by
  have HA := Lib.hid ha
  clear ha
  go_enter Tryd.func72, Tryd.ntmps72
  go_wp2_with fail
  go_loopg [5] s.size (fun gf s5 wx => ∃ pos : Nat, wx.heap[w.heap.size]? = some (.stringIter s pos) ∧ Below w.heap.size w wx ∧ s.size ≤ pos + gf ∧ pos ≤ s.size)
  case atStart => exact ⟨0, World.iter_heap w s 0, (Below.refl _ _).alloc (Nat.le_refl _) _, by omega, by omega⟩
  case round =>
    obtain ⟨pos, hit, hbw, hfu, hps⟩ := hrel
    by_cases hlt : pos < s.size
    · obtain ⟨g', rfl⟩ : ∃ g', gk = g' + 1 := ⟨gk - 1, by omega⟩
      have hnx : ∀ ty, (Instr.next (.pointer (some ⟨w.heap.size, 0, none⟩)) true ty).run Tryd.prog wr = _ := fun ty => Lib.run_next_any_at wr w.heap.size s pos ty hit hlt
      obtain ⟨W, hW⟩ : ∃ W, wr.iterAt w.heap.size s (pos + (Utf8.decode s pos).2) = W := ⟨_, rfl⟩
      have hit2 := Lib.iterAt_heap wr w.heap.size s pos (pos + (Utf8.decode s pos).2) hit
      have hbw2 := Lib.below_iterAt hbw (k := w.heap.size) (Nat.le_refl _) s (pos + (Utf8.decode s pos).2)
      rw [hW] at hnx hit2 hbw2
      have hb := HA.out pos hlt
      rw [Txt.dec_low s pos hlt hb] at hnx hit2
      obtain ⟨c, hc⟩ : ∃ c, b s pos = c := ⟨_, rfl⟩
      rw [hc] at hnx hb
      have hne : ((c : Int) == 65533) = false := beq_eq_false_iff_ne.2 (by omega)
      clear hc hW hit hbw
      go_wp2_with fail
      go_roundg g'
      case measure => omega
      case rel => exact ⟨pos + 1, hit2, hbw2, by omega, by omega⟩
    · have hne : ∀ ty, (Instr.next (.pointer (some ⟨w.heap.size, 0, none⟩)) true ty).run Tryd.prog wr = _ := fun ty => Lib.run_next_end_at wr w.heap.size s pos ty hit hlt
      go_wp2_with fail
      go_ret
      exact ⟨rfl, hbw⟩
set_option maxRecDepth 100000 in
set_option maxHeartbeats 2000000 in
theorem indexAny_bad (s : ByteArray) (w : World) (h1 : s.size = 1) (hb : 128 ≤ b s 0) :
    Calls Tryd.prog 58 #[.string s, .string ⟨#[32, 9]⟩] w fun e w' => e = .returned (.int .i64 (-1)) ∧ Below w.heap.size w w' := by
  have hdec : Utf8.decode s 0 = (65533, 1) := by
    rcases Txt.dec_high s 0 (by omega) hb with ⟨h0, hd⟩ | ⟨h0, h2, _⟩
    · exact hd
    · omega
  have HD := Lib.hid hdec
  have H1 := Lib.hid h1
  have h8 : ¬ (8 : Int) < (s.size : Int) := by omega
  clear hdec hb h1
  go_enter Tryd.func58, Tryd.ntmps58
  go_wp2_with go_in
  go_loopg [9] 1 (fun gf s9 wx => ∃ pos : Nat, wx.heap[w.heap.size]? = some (.stringIter s pos) ∧ Below w.heap.size w wx ∧ 1 ≤ pos + gf ∧ pos ≤ 1)
  case atStart => exact ⟨0, World.iter_heap w s 0, (Below.refl _ _).alloc (Nat.le_refl _) _, by omega, by omega⟩
  case round =>
    obtain ⟨pos, hit, hbw, hfu, hps⟩ := hrel
    by_cases h0 : pos = 0
    · subst h0
      have hlt : 0 < s.size := by have := H1.out; omega
      obtain ⟨g', rfl⟩ : ∃ g', gk = g' + 1 := ⟨gk - 1, by omega⟩
      have hnx : ∀ ty, (Instr.next (.pointer (some ⟨w.heap.size, 0, none⟩)) true ty).run Tryd.prog wr = _ := fun ty => Lib.run_next_any_at wr w.heap.size s 0 ty hit hlt
      obtain ⟨W, hW⟩ : ∃ W, wr.iterAt w.heap.size s (0 + (Utf8.decode s 0).2) = W := ⟨_, rfl⟩
      have hit2 := Lib.iterAt_heap wr w.heap.size s 0 (0 + (Utf8.decode s 0).2) hit
      have hbw2 := Lib.below_iterAt hbw (k := w.heap.size) (Nat.le_refl _) s (0 + (Utf8.decode s 0).2)
      rw [hW] at hnx hit2 hbw2
      rw [HD.out] at hnx hit2
      have cr := indexRune_bad ⟨#[32, 9]⟩ W (by decide) (by
        intro k hk
        have : k < 2 := hk
        rcases (by omega : k = 0 ∨ k = 1) with rfl | rfl <;> decide)
      clear hW hit hbw
      go_wp2_with fail
      refine cr.mono ?_
      rintro e w2 ⟨rfl, b2⟩
      go_wp2_with fail
      go_roundg g'
      case measure => omega
      case rel => exact ⟨0 + 1, (b2.block _ (Array.getElem?_eq_some_iff.1 hit2).1).trans hit2, hbw2.trans (b2.mono hbw2.size), by omega, by omega⟩
    · have hlt : ¬ pos < s.size := by have := H1.out; omega
      have hne : ∀ ty, (Instr.next (.pointer (some ⟨w.heap.size, 0, none⟩)) true ty).run Tryd.prog wr = _ := fun ty => Lib.run_next_end_at wr w.heap.size s pos ty hit hlt
      go_wp2_with fail
      go_ret
      exact ⟨rfl, hbw⟩
theorem one_list {s : ByteArray} (h : s.size = 1) : ∃ c, s.data.toList = [c] ∧ c.toNat = b s 0 := by
  obtain ⟨c, h1, h2⟩ := Txt.drop_cons s 0 (by omega)
  rw [List.drop_zero, List.drop_of_length_le (by rw [Txt.len_list]; omega)] at h1
  exact ⟨c, h1, h2⟩
theorem any_two (c : UInt8) : Lib.containsAny [c] [32, 9] = wht c.toNat := by
  have e : ∀ c : Fin 256, Lib.containsAny [UInt8.ofNat c.1] [32, 9] = wht c.1 := by decide +kernel
  have := e ⟨c.toNat, UInt8.toNat_lt c⟩
  simp only [UInt8.ofNat_toNat] at this
  exact this
set_option maxRecDepth 100000 in
set_option maxHeartbeats 2000000 in
/-- Is it a white byte, of a string of one. -/
theorem containsAny_one (s : ByteArray) (w : World) (h1 : s.size = 1) :
    Calls Tryd.prog 42 #[.string s, .string ⟨#[32, 9]⟩] w fun e w' => e = .returned (.bool (wht (b s 0))) ∧ Below w.heap.size w w' := by
  by_cases hb : b s 0 < 128
  · obtain ⟨c, h2, h3⟩ := one_list h1
    have := Tryd.strings_ContainsAny (zero_of_info infoSet).1 s ⟨#[32, 9]⟩ w (by omega) (by decide) (by
      intro j x hj
      rw [h2] at hj
      have hm := List.mem_singleton.1 (List.mem_of_getElem? hj)
      rw [hm, h3]; exact hb) (by
      intro j x hj
      have : x ∈ ([32, 9] : List UInt8) := List.mem_of_getElem? hj
      simp at this
      rcases this with rfl | rfl <;> decide)
    rw [h2, show (⟨#[32, 9]⟩ : ByteArray).data.toList = [32, 9] from rfl, any_two, h3] at this
    exact this
  · have c := indexAny_bad s w h1 (by omega)
    rw [Txt.wht_high (by omega)]
    clear hb h1
    go_enter Tryd.func42, Tryd.ntmps42
    go_wp2_with fail
    refine c.mono ?_
    rintro e w2 ⟨rfl, b2⟩
    go_wp2_with fail
    go_ret
    exact ⟨rfl, b2⟩
end Stz
end Go.Proofs.YtgolnfgkoolpoaaDoor

/-
The contracts of text.Words, text.Trim and of their references.
-/
import Derived.Test.YtgolnfgkoolpoaaDoorWordsGo
import Derived.Test.YtgolnfgkoolpoaaDoorTextTexts
namespace Go.Proofs.YtgolnfgkoolpoaaDoor
open Go.RowKit
set_option linter.unusedVariables false
set_option linter.unusedSimpArgs false
namespace Txt
/-- These are the words of s. -/
def WordsOf (s : ByteArray) (ls : List ByteArray) : Prop := ls.map (·.data.toList) = wordsL s.data.toList
theorem bytes_inj {x y : ByteArray} (h : x.data.toList = y.data.toList) : x = y := ByteArray.ext (Array.ext' h)
theorem lists_inj : ∀ {ls ms : List ByteArray}, ls.map (·.data.toList) = ms.map (·.data.toList) → ls = ms
  | [], [], _ => rfl
  | [], _ :: _, h => by simp at h
  | _ :: _, [], h => by simp at h
  | x :: ls, y :: ms, h => by
    simp only [List.map_cons, List.cons.injEq] at h
    rw [bytes_inj h.1, lists_inj h.2]
theorem WordsOf.uniq {s t : ByteArray} {ls ms : List ByteArray} (h : WordsOf s ls) (h' : WordsOf t ms) (e : wordsL s.data.toList = wordsL t.data.toList) : ls = ms := lists_inj (h.trans (e.trans h'.symm))
theorem white_pays (w : World) : PredAtRunes Tryd.prog 51 #[] wht w := fun W x _ _ => by
  unfold FnGives
  rw [Array.append_empty]
  exact (white_any x W).mono fun e w' ⟨h1, h2⟩ => ⟨h1, 0, by rw [h2]; rfl⟩
theorem words_len (l : List UInt8) : ∀ cur, (go cur l).length ≤ cur.length + l.length := by
  induction l with
  | nil => intro cur; rw [go_nil]; unfold close; split
           · simp
           · next h => have : 0 < cur.length := List.length_pos_iff.2 h
                       simp; omega
  | cons c l ih =>
    intro cur
    by_cases hw : W c = true
    · rw [go_white hw, List.length_append]
      have h1 := ih []
      have h2 : (close cur).length ≤ cur.length := by
        unfold close; split
        · simp
        · next h => have : 0 < cur.length := List.length_pos_iff.2 h
                    simp; omega
      simp at h1 ⊢; omega
    · rw [Bool.not_eq_true] at hw
      rw [go_black hw]
      have := ih (cur ++ [c])
      simp at this ⊢; omega
theorem WordsOf.le {s : ByteArray} {ls : List ByteArray} (h : WordsOf s ls) : ls.length ≤ s.size := by
  have h1 := congrArg List.length h
  rw [List.length_map] at h1
  have h2 := words_len s.data.toList []
  rw [← len_list s]
  unfold wordsL at h1
  simp only [List.length_nil, Nat.zero_add] at h2
  omega
set_option maxRecDepth 100000 in
theorem trim_any (s : ByteArray) (w : World) (hs : s.size ≤ 9223372036854775807) (hT : Lib.Utf8Tabs 1 2 w) :
    Calls Tryd.prog 36 #[.string s] w fun e w' => ∃ t, e = .returned (.string t) ∧ t.data.toList = trimL s.data.toList ∧ Below w.heap.size w w' := by
  have eg : ∀ args w, (callFunc 51 args).run Tryd.prog w = .ok (.enter 51 args) w := enters_of Tryd.func51 (by kernel_rfl) rfl
  have c := Tryd.strings_TrimFunc_runes 51 #[] eg wht s w hs hT (white_pays w)
  have hW := trim_list s
  generalize Lib.trimF wht s = t at *
  have HW := Lib.hid hW
  clear hW eg hT
  go_enter Tryd.func36, Tryd.ntmps36
  go_wp2_with fail
  refine c.mono ?_
  rintro e w' ⟨rfl, hb⟩
  go_wp2_with fail
  go_ret
  exact ⟨t, rfl, HW.out, hb⟩
set_option maxRecDepth 100000 in
set_option maxHeartbeats 2000000 in
theorem ytail_any (s : ByteArray) (w : World) (hs : s.size ≤ 9223372036854775807) :
    Calls Tryd.prog 28 #[.string s] w fun e w' => ∃ t, e = .returned (.string t) ∧ t.data.toList = trimRight s.data.toList ∧ Below w.heap.size w w' := by
  go_enter Tryd.func28, Tryd.ntmps28
  go_wp2_with fail
  go_loopg [0] s.size (fun gf s0 wx => ∃ t : ByteArray, s0 = .string t ∧ wx = w ∧ t.size ≤ gf ∧ t.size ≤ s.size ∧ Hid (trimRight t.data.toList = trimRight s.data.toList))
  case atStart => exact ⟨s, rfl, rfl, by omega, by omega, rfl⟩
  case round =>
    obtain ⟨t, rfl, rfl, hg, hts, HR⟩ := hrel
    by_cases h0 : 0 < t.size
    · have h0' : 0 < (t.size : Int) := by omega
      obtain ⟨m, hm⟩ : ∃ m, t.size = m + 1 := ⟨t.size - 1, by omega⟩
      obtain ⟨c, hc, hcb⟩ := take_snoc t m (by omega)
      rw [List.take_of_length_le (by rw [len_list]; omega)] at hc
      have hbm := b_eq t m (by omega)
      have hbl := b_lt t m
      have HC := Lib.hid hc
      have HCB := Lib.hid hcb
      have HE := Lib.hid (ext_list t 0 m (by omega))
      have hes : (t.extract 0 m).size = m := by simp [ByteArray.size_extract]; omega
      have HES := Lib.hid hes
      clear hc hcb hes
      go_wp2_with fail
      refine (ywhite_any _ _).mono ?_
      rintro e w' ⟨rfl, rfl⟩
      cases hw : wht (b t m)
      · have hR := HR.out
        rw [HC.out, trimRight_keep (by rw [W_b HCB.out]; exact hw)] at hR
        have HR2 := Lib.hid hR
        clear hR HR HES HE
        go_wp2_with fail
        go_ret
        exact ⟨t, rfl, by rw [HC.out]; exact HR2.out, Below.refl _ _⟩
      · have hR := HR.out
        rw [HC.out, trimRight_back (fun d hd => by rw [List.mem_singleton.1 hd, W_b HCB.out]; exact hw)] at hR
        have hR2 : trimRight (t.extract 0 m).data.toList = trimRight s.data.toList := by
          rw [HE.out, List.drop_zero, Nat.sub_zero]; exact hR
        have HR2 := Lib.hid hR2
        clear hR hR2 HR HC HCB HE
        go_wp2_with fail
        go_roundg m
        case measure => omega
        case rel => exact ⟨t.extract 0 m, rfl, rfl, by rw [HES.out]; omega, by rw [HES.out]; omega, HR2⟩
    · have h0' : ¬ 0 < (t.size : Int) := by omega
      have ht : t.data.toList = [] := List.eq_nil_of_length_eq_zero (by rw [len_list]; omega)
      have HT := Lib.hid ht
      clear ht
      go_wp2_with fail
      go_ret
      refine ⟨t, rfl, ?_, Below.refl _ _⟩
      rw [← HR.out, HT.out]; rfl
set_option maxRecDepth 100000 in
set_option maxHeartbeats 2000000 in
theorem ytrim_any (s : ByteArray) (w : World) (hs : s.size ≤ 9223372036854775807) :
    Calls Tryd.prog 23 #[.string s] w fun e w' => ∃ t, e = .returned (.string t) ∧ t.data.toList = trimL s.data.toList ∧ Below w.heap.size w w' := by
  go_enter Tryd.func23, Tryd.ntmps23
  go_wp2_with fail
  go_loopg [0] s.size (fun gf s0 wx => ∃ t : ByteArray, s0 = .string t ∧ wx = w ∧ t.size ≤ gf ∧ t.size ≤ s.size ∧ Hid (trimLeft t.data.toList = trimLeft s.data.toList))
  case atStart => exact ⟨s, rfl, rfl, by omega, by omega, rfl⟩
  case round =>
    obtain ⟨t, rfl, rfl, hg, hts, HR⟩ := hrel
    by_cases h0 : 0 < t.size
    · have h0' : 0 < (t.size : Int) := by omega
      have h1' : 1 ≤ (t.size : Int) := by omega
      obtain ⟨c, hc, hcb⟩ := drop_cons t 0 h0
      rw [List.drop_zero, Nat.zero_add] at hc
      have hbm := b_eq t 0 h0
      have hbl := b_lt t 0
      have HC := Lib.hid hc
      have HCB := Lib.hid hcb
      have HE := Lib.hid (ext_list t 1 t.size (by omega))
      have hes : (t.extract 1 t.size).size = t.size - 1 := by simp [ByteArray.size_extract]
      have HES := Lib.hid hes
      clear hc hcb hes
      go_wp2_with fail
      refine (ywhite_any _ _).mono ?_
      rintro e w' ⟨rfl, rfl⟩
      cases hw : wht (b t 0)
      · have hR := HR.out
        rw [HC.out, trimLeft_keep (by rw [W_b HCB.out]; exact hw), ← HC.out] at hR
        have HR2 := Lib.hid hR
        have ct := ytail_any t w' (by omega)
        clear hR HR HES HE HC HCB
        go_wp2_with fail
        refine ct.mono ?_
        rintro e w3 ⟨u, rfl, hu, b3⟩
        have HU := Lib.hid hu
        clear hu ct
        go_wp2_with fail
        go_ret
        exact ⟨u, rfl, by rw [HU.out, HR2.out]; rfl, b3⟩
      · have hR := HR.out
        have e1 : trimLeft t.data.toList = trimLeft (t.extract 1 t.size).data.toList := by
          rw [HE.out, HC.out]
          conv => lhs; unfold trimLeft
          rw [if_pos (by rw [W_b HCB.out]; exact hw)]
          congr 1
          rw [List.drop_succ_cons, List.drop_zero]
          refine (List.take_of_length_le ?_).symm
          have := congrArg List.length HC.out
          rw [len_list, List.length_cons] at this
          omega
        rw [e1] at hR
        have HR2 := Lib.hid hR
        clear hR e1 HR HC HCB HE
        go_wp2_with fail
        go_roundg (t.size - 1)
        case measure => omega
        case rel => exact ⟨t.extract 1 t.size, rfl, rfl, by rw [HES.out]; omega, by rw [HES.out]; omega, HR2⟩
    · have h0' : ¬ 0 < (t.size : Int) := by omega
      have ht : t.data.toList = [] := List.eq_nil_of_length_eq_zero (by rw [len_list]; omega)
      have hR := HR.out
      rw [ht] at hR
      have HT := Lib.hid ht
      have HR2 := Lib.hid hR
      have ct := ytail_any t wr (by omega)
      clear ht hR HR
      go_wp2_with fail
      refine ct.mono ?_
      rintro e w3 ⟨u, rfl, hu, b3⟩
      have HU := Lib.hid hu
      clear hu ct
      go_wp2_with fail
      go_ret
      refine ⟨u, rfl, ?_, b3⟩
      rw [HU.out, HT.out]
      unfold trimL
      rw [← HR2.out]; rfl
end Txt
end Go.Proofs.YtgolnfgkoolpoaaDoor

/-
Names of fields: the reference's fieldName; isSign, isName.
-/
import Derived.Test.YtgolnfgkoolpoaaDoorStzSmall
namespace Go.Proofs.YtgolnfgkoolpoaaDoor
open Go.RowKit
set_option linter.unusedSimpArgs false
set_option linter.unusedVariables false
namespace Stz
open Txt (b b_eq b_lt)
theorem sgnN_iff {c : Nat} : sgnN c = true ↔ 33 ≤ c ∧ c ≤ 126 ∧ c ≠ 58 := by unfold sgnN; simp [and_assoc]
theorem sgnN_no {c : Nat} (h : c < 33 ∨ 126 < c) : sgnN c = false := by
  cases e : sgnN c
  · rfl
  · have := sgnN_iff.1 e; omega
theorem ret_i64 {a c : Int} {w : World} (h : a = c) : Ending.returned (Value.int .i64 a) = Ending.returned (.int .i64 c) ∧ w = w := ⟨by rw [h], rfl⟩
set_option maxRecDepth 100000 in
set_option maxHeartbeats 1000000 in
theorem yfieldName_any (s : ByteArray) (w : World) (hs : s.size ≤ 9223372036854775807) :
    Calls Tryd.prog 29 #[.string s] w fun e w' => e = .returned (.int .i64 (nameLen s.data.toList)) ∧ w' = w := by
  obtain ⟨R, hR⟩ : ∃ R, nameLen s.data.toList = R := ⟨_, rfl⟩
  have HR := Lib.hid hR
  rw [hR]
  clear hR
  go_enter Tryd.func29, Tryd.ntmps29
  go_wp2
  go_loop [7] (fun i => ∃ k : Nat, k ≤ s.size ∧ i = .int .i64 k ∧ Hid (NameTo s k)) (fun i => s.size - (intOf i).toNat)
  case atStart => exact ⟨0, by omega, rfl, ⟨fun j hj => absurd hj (by omega), fun h => absurd h (by omega)⟩⟩
  case round =>
    obtain ⟨k, hk, rfl, HN⟩ := hrel
    by_cases hlt : k < s.size
    · have k1 : (k : Int) < s.size := by omega
      have hb := b_eq s k hlt
      have hl := b_lt s k
      obtain ⟨c, hc⟩ : ∃ c, b s k = c := ⟨_, rfl⟩
      have HC := Lib.hid hc
      rw [hc] at hb hl
      clear hc
      by_cases h58 : c = 58
      · subst h58
        have hres := nameLen_at hlt HN.out HC.out
        by_cases h0 : k = 0
        · subst h0
          rw [HR.out, if_pos rfl] at hres
          subst hres
          go_wp2
          go_ret
          exact ret_i64 rfl
        · rw [HR.out, if_neg h0] at hres
          subst hres
          have h0' : ¬ (k : Int) = 0 := by omega
          go_wp2
          go_ret
          exact ret_i64 rfl
      · have h58' : ¬ (c : Int) = 58 := by omega
        by_cases hlow : c < 33
        · have hres := nameLen_bad hlt HN.out (by rw [HC.out]; exact h58) (.inl (sgnN_no (by rw [HC.out]; omega)))
          rw [HR.out] at hres
          subst hres
          have hlow' : (c : Int) < 33 := by omega
          go_wp2
          go_ret
          exact ret_i64 rfl
        · by_cases hhi : 126 < c
          · have hres := nameLen_bad hlt HN.out (by rw [HC.out]; exact h58) (.inl (sgnN_no (by rw [HC.out]; omega)))
            rw [HR.out] at hres
            subst hres
            have hlow' : ¬ (c : Int) < 33 := by omega
            have hhi' : (126 : Int) < c := by omega
            go_wp2
            go_ret
            exact ret_i64 rfl
          · have hlow' : ¬ (c : Int) < 33 := by omega
            have hhi' : ¬ (126 : Int) < c := by omega
            have hsg : sgnN (b s k) = true := sgnN_iff.2 (by rw [HC.out]; omega)
            have HSG := Lib.hid hsg
            clear hsg
            by_cases h0 : k = 0
            · subst h0
              by_cases h35 : c = 35
              · subst h35
                have hres := nameLen_bad hlt HN.out (by rw [HC.out]; decide) (.inr ⟨rfl, .inl HC.out⟩)
                rw [HR.out] at hres
                subst hres
                go_wp2
                go_ret
                exact ret_i64 rfl
              · have h35' : ¬ (c : Int) = 35 := by omega
                by_cases h45 : c = 45
                · subst h45
                  have hres := nameLen_bad hlt HN.out (by rw [HC.out]; decide) (.inr ⟨rfl, .inr HC.out⟩)
                  rw [HR.out] at hres
                  subst hres
                  go_wp2
                  go_ret
                  exact ret_i64 rfl
                · have h45' : ¬ (c : Int) = 45 := by omega
                  have hm := HN.out.more HSG.out fun _ => by rw [HC.out]; exact ⟨h35, h45⟩
                  have HM := Lib.hid hm
                  clear hm
                  have h35b : ((c : Int) == 35) = false := by simpa using h35'
                  have h45b : ((c : Int) == 45) = false := by simpa using h45'
                  go_wp2
                  go_round
                  case rel => exact ⟨1, by omega, rfl, HM⟩
                  case measure => simp [intOf]; omega
            · have h0' : ¬ (k : Int) = 0 := by omega
              have hm := HN.out.more HSG.out fun e => absurd e h0
              have HM := Lib.hid hm
              clear hm
              go_wp2
              go_round
              case rel => exact ⟨k + 1, by omega, by go_num, HM⟩
              case measure => simp [intOf]; omega
    · obtain rfl : k = s.size := by omega
      have hres := nameLen_end HN.out
      rw [HR.out] at hres
      subst hres
      go_wp2
      go_ret
      exact ret_i64 rfl
theorem ret_bool' {a c : Bool} {w : World} (h : a = true ↔ c = true) : Ending.returned (Value.bool a) = Ending.returned (.bool c) ∧ w = w := ⟨by rw [Bool.eq_iff_iff.2 h], rfl⟩
theorem isSign_any (r : Nat) (w : World) : Calls Tryd.prog 78 #[.int .i32 r] w fun e w' => e = .returned (.bool (sgnN r)) ∧ w' = w := by
  go_enter Tryd.func78, Tryd.ntmps78
  go_wp2_with fail
  all_goals
    go_ret
    refine ret_bool' ?_
    rw [sgnN_iff]
    simp
    try omega
theorem nameB_bad {s : ByteArray} {k : Nat} (hk : k < s.size) (h : sgnN (b s k) = false ∨ (k = 0 ∧ (b s 0 = 35 ∨ b s 0 = 45))) : nameB s.data.toList = false := by
  cases hn : nameB s.data.toList with
  | false => rfl
  | true =>
    exfalso
    obtain ⟨d, h3, h4⟩ := bytes_get s k hk
    obtain ⟨c0, q, e0, hs, hne, hall⟩ := name_cons hn
    rcases h with h | ⟨rfl, h⟩
    · have hd : d ∈ s.data.toList := List.mem_of_getElem? h3
      have := hall d hd
      rw [sgn_toNat, h4, h] at this
      cases this
    · rw [e0] at h3 hn
      simp at h3
      subst h3
      unfold nameB at hn
      simp only [Bool.and_eq_true, Bool.not_eq_true', decide_eq_false_iff_not] at hn
      rcases h with hb | hb
      · exact hn.1.1.2 (UInt8.toNat_inj.1 (by rw [h4, hb]; rfl))
      · exact hn.1.2 (UInt8.toNat_inj.1 (by rw [h4, hb]; rfl))
theorem nameB_full {s : ByteArray} (h : NameTo s s.size) (h0 : 0 < s.size) : nameB s.data.toList = true := by
  have := name_of (Nat.le_refl _) h h0
  rw [List.take_of_length_le (by rw [Txt.len_list]; omega)] at this
  exact this
theorem index_two (c : Nat) (h : c < 256) : decide (0 ≤ Lib.indexByte [35, 45] (c : Int).toNat.toUInt8) = (decide (c = 35) || decide (c = 45)) := by
  have e : ∀ c : Fin 256, decide (0 ≤ Lib.indexByte [35, 45] ((c.1 : Nat) : Int).toNat.toUInt8) = (decide (c.1 = 35) || decide (c.1 = 45)) := by decide +kernel
  exact e ⟨c, h⟩
set_option maxRecDepth 100000 in
set_option maxHeartbeats 2000000 in
theorem isName_any (s : ByteArray) (w : World) (hs : s.size ≤ 9223372036854775807) :
    Calls Tryd.prog 61 #[.string s] w fun e w' => e = .returned (.bool (nameB s.data.toList)) ∧ Below w.heap.size w w' := by
  obtain ⟨R, hR⟩ : ∃ R, nameB s.data.toList = R := ⟨_, rfl⟩
  have HR := Lib.hid hR
  rw [hR]
  clear hR
  go_enter Tryd.func61, Tryd.ntmps61
  go_wp2
  go_loopg [3] s.size (fun gf s3 wx => ∃ pos : Nat, wx.heap[w.heap.size]? = some (.stringIter s pos) ∧ Below w.heap.size w wx ∧ Hid (NameTo s pos) ∧ s.size ≤ pos + gf ∧ pos ≤ s.size)
  case atStart => exact ⟨0, World.iter_heap w s 0, (Below.refl _ _).alloc (Nat.le_refl _) _, ⟨fun j hj => absurd hj (by omega), fun h => absurd h (by omega)⟩, by omega, by omega⟩
  case round =>
    obtain ⟨pos, hit, hbw, HN, hfu, hps⟩ := hrel
    by_cases hlt : pos < s.size
    · obtain ⟨g', rfl⟩ : ∃ g', gk = g' + 1 := ⟨gk - 1, by omega⟩
      have hnx : ∀ ty, (Instr.next (.pointer (some ⟨w.heap.size, 0, none⟩)) true ty).run Tryd.prog wr = _ := fun ty => Lib.run_next_any_at wr w.heap.size s pos ty hit hlt
      obtain ⟨W, hW⟩ : ∃ W, wr.iterAt w.heap.size s (pos + (Utf8.decode s pos).2) = W := ⟨_, rfl⟩
      have hit2 := Lib.iterAt_heap wr w.heap.size s pos (pos + (Utf8.decode s pos).2) hit
      have hbw2 := Lib.below_iterAt hbw (k := w.heap.size) (Nat.le_refl _) s (pos + (Utf8.decode s pos).2)
      rw [hW] at hnx hit2 hbw2
      clear hW hit hbw
      by_cases hb : b s pos < 128
      · rw [Txt.dec_low s pos hlt hb] at hnx hit2
        obtain ⟨c, hc⟩ : ∃ c, b s pos = c := ⟨_, rfl⟩
        have HC := Lib.hid hc
        rw [hc] at hnx hb
        clear hc
        cases hk : sgnN c
        · have hres := nameB_bad hlt (.inl (by rw [HC.out]; exact hk))
          rw [HR.out] at hres
          subst hres
          have HK := Lib.hid hk
          clear hk
          go_wp2_with fail
          refine (isSign_any _ _).mono ?_
          rintro e w' ⟨rfl, rfl⟩
          rw [HK.out]
          go_wp2_with fail
          go_ret
          exact ⟨rfl, hbw2⟩
        · have HK := Lib.hid hk
          clear hk
          by_cases h0 : pos = 0
          · subst h0
            have hct := index_two c (by omega)
            have cr := fun w => Tryd.strings_ContainsRune_ascii ⟨#[35, 45]⟩ (c : Int) w (by omega) (by omega)
            rw [show (⟨#[35, 45]⟩ : ByteArray).data.toList = [35, 45] from rfl, hct] at cr
            by_cases hbad : c = 35 ∨ c = 45
            · have hres := nameB_bad hlt (.inr ⟨rfl, by rw [HC.out]; exact hbad⟩)
              rw [HR.out] at hres
              subst hres
              rw [show (decide (c = 35) || decide (c = 45)) = true by simpa using hbad] at cr
              have CR := Lib.hid cr
              clear cr hct hbad
              go_wp2_with fail
              refine (isSign_any _ _).mono ?_
              rintro e w' ⟨rfl, rfl⟩
              rw [HK.out]
              go_wp2_with fail
              refine (CR.out _).mono ?_
              rintro e w' ⟨rfl, rfl⟩
              go_wp2_with fail
              go_ret
              exact ⟨rfl, hbw2⟩
            · rw [show (decide (c = 35) || decide (c = 45)) = false by simp; omega] at cr
              have CR := Lib.hid cr
              have hm := HN.out.more (by rw [HC.out]; exact HK.out) fun _ => by rw [HC.out]; omega
              have HM := Lib.hid hm
              clear cr hct hbad hm
              go_wp2_with fail
              refine (isSign_any _ _).mono ?_
              rintro e w' ⟨rfl, rfl⟩
              rw [HK.out]
              go_wp2_with fail
              refine (CR.out _).mono ?_
              rintro e w' ⟨rfl, rfl⟩
              go_wp2_with fail
              go_roundg g'
              case measure => omega
              case rel => exact ⟨0 + 1, hit2, hbw2, HM, by omega, by omega⟩
          · have h0' : ¬ (pos : Int) = 0 := by omega
            have hm := HN.out.more (by rw [HC.out]; exact HK.out) fun e => absurd e h0
            have HM := Lib.hid hm
            clear hm
            go_wp2_with fail
            refine (isSign_any _ _).mono ?_
            rintro e w' ⟨rfl, rfl⟩
            rw [HK.out]
            go_wp2_with fail
            go_roundg g'
            case measure => omega
            case rel => exact ⟨pos + 1, hit2, hbw2, HM, by omega, by omega⟩
      · have hres := nameB_bad hlt (.inl (sgnN_no (by omega)))
        rw [HR.out] at hres
        subst hres
        have hr : 128 ≤ (Utf8.decode s pos).1 := by
          rcases Txt.dec_high s pos hlt (by omega) with ⟨h0, hd⟩ | ⟨h0, h1, hd, hr⟩
          · rw [hd]; decide
          · exact hr
        obtain ⟨X, hX⟩ : ∃ X, (Utf8.decode s pos).1 = X := ⟨_, rfl⟩
        rw [hX] at hnx hr
        have HK := Lib.hid (sgnN_no (c := X) (.inr (by omega)))
        clear hX hb
        go_wp2_with fail
        refine (isSign_any _ _).mono ?_
        rintro e w' ⟨rfl, rfl⟩
        rw [HK.out]
        go_wp2_with fail
        go_ret
        exact ⟨rfl, hbw2⟩
    · have hne : ∀ ty, (Instr.next (.pointer (some ⟨w.heap.size, 0, none⟩)) true ty).run Tryd.prog wr = _ := fun ty => Lib.run_next_end_at wr w.heap.size s pos ty hit hlt
      obtain rfl : pos = s.size := by omega
      by_cases h0 : s.size = 0
      · have he : s.toList.isEmpty = true := by
          rw [Lib.toList_data]
          have := Txt.len_list s
          rw [h0] at this
          rw [List.length_eq_zero_iff.1 this]; rfl
        have hres : nameB s.data.toList = false := by
          have := Txt.len_list s
          rw [h0] at this
          rw [List.length_eq_zero_iff.1 this]; rfl
        rw [HR.out] at hres
        subst hres
        go_wp2_with fail
        go_ret
        exact ⟨rfl, hbw⟩
      · have he : s.toList.isEmpty = false := by
          rw [Lib.toList_data]
          have := Txt.len_list s
          cases hq : s.data.toList with
          | nil => rw [hq] at this; exact absurd this.symm h0
          | cons _ _ => rfl
        have hres := nameB_full HN.out (by omega)
        rw [HR.out] at hres
        subst hres
        go_wp2_with fail
        go_ret
        exact ⟨rfl, hbw⟩
end Stz
end Go.Proofs.YtgolnfgkoolpoaaDoor

/-
The small functions of package stanza and of its reference: letters, one field's name, signs.
-/
import Derived.Test.YtgolnfgkoolpoaaDoorStzBack
import Derived.Test.YtgolnfgkoolpoaaDoorTextTexts
import Derived.Deep.QuietTactic
import Derived.BigQuiet
namespace Go.Proofs.YtgolnfgkoolpoaaDoor
open Go.RowKit
set_option linter.unusedSimpArgs false
set_option linter.unusedVariables false
namespace Stz
open Txt (b b_eq b_lt)
def lowN (c : Nat) : Nat := if 65 ≤ c ∧ c ≤ 90 then c + 32 else c
theorem low_toNat (c : UInt8) : (low c).toNat = lowN c.toNat := by
  unfold low lowN
  by_cases h : 65 ≤ c ∧ c ≤ 90
  · have h' : 65 ≤ c.toNat ∧ c.toNat ≤ 90 := by simpa [UInt8.le_iff_toNat_le] using h
    rw [if_pos h, if_pos h', UInt8.toNat_add]
    have : (32 : UInt8).toNat = 32 := rfl
    rw [this]; omega
  · have h' : ¬ (65 ≤ c.toNat ∧ c.toNat ≤ 90) := by simpa [UInt8.le_iff_toNat_le] using h
    rw [if_neg h, if_neg h']
theorem lowN_lt {c : Nat} (h : c < 256) : lowN c < 256 := by unfold lowN; split <;> omega
theorem ret_u8 {a c : Int} {w : World} (h : a = c) : Ending.returned (Value.int .u8 a) = Ending.returned (.int .u8 c) ∧ w = w := ⟨by rw [h], rfl⟩
set_option maxRecDepth 100000 in
theorem lower_any (c : Nat) (hc : c < 256) (w : World) : Calls Tryd.prog 38 #[.int .u8 c] w fun e w' => e = .returned (.int .u8 (lowN c : Nat)) ∧ w' = w := by
  have hc' : (c : Int) < 256 := by omega
  obtain ⟨K, hK⟩ : ∃ K, lowN c = K := ⟨_, rfl⟩
  have HK := Lib.hid hK
  rw [hK]
  clear hK
  go_enter Tryd.func38, Tryd.ntmps38
  go_wp2_with fail
  all_goals
    go_ret
    refine ret_u8 ?_
    rw [← HK.out]
    unfold lowN
    first
      | (rw [if_pos (by omega)]; omega)
      | (rw [if_neg (by omega)])
set_option maxRecDepth 100000 in
theorem ylow_any (c : Nat) (hc : c < 256) (w : World) : Calls Tryd.prog 35 #[.int .u8 c] w fun e w' => e = .returned (.int .u8 (lowN c : Nat)) ∧ w' = w := by
  have hc' : (c : Int) < 256 := by omega
  obtain ⟨K, hK⟩ : ∃ K, lowN c = K := ⟨_, rfl⟩
  have HK := Lib.hid hK
  rw [hK]
  clear hK
  go_enter Tryd.func35, Tryd.ntmps35
  go_wp2_with fail
  all_goals
    go_ret
    refine ret_u8 ?_
    rw [← HK.out]
    unfold lowN
    first
      | (rw [if_pos (by omega)]; omega)
      | (rw [if_neg (by omega)])
/-- One field's name, of two strings. -/
def sameS (s t : ByteArray) : Bool := sameB s.data.toList t.data.toList
theorem sameS_len {s t : ByteArray} (h : s.size ≠ t.size) : sameS s t = false := by
  unfold sameS sameB
  rw [beq_eq_false_iff_ne]
  intro e
  have := congrArg List.length e
  simp only [List.length_map, Txt.len_list] at this
  exact h this
theorem sameS_no {s t : ByteArray} {k : Nat} (hs : k < s.size) (ht : k < t.size) (h : lowN (b s k) ≠ lowN (b t k)) : sameS s t = false := by
  unfold sameS sameB
  rw [beq_eq_false_iff_ne]
  intro e
  have := congrArg (fun l => l[k]?) e
  have h1 : k < s.data.toList.length := by rw [Txt.len_list]; exact hs
  have h2 : k < t.data.toList.length := by rw [Txt.len_list]; exact ht
  simp only [List.getElem?_map, List.getElem?_eq_getElem h1, List.getElem?_eq_getElem h2, Option.map_some, Option.some.injEq] at this
  have := congrArg UInt8.toNat this
  rw [low_toNat, low_toNat] at this
  apply h
  unfold b
  rw [dif_pos hs, dif_pos ht]
  exact this
theorem sameS_yes {s t : ByteArray} (hl : s.size = t.size) (h : ∀ j, j < s.size → lowN (b s j) = lowN (b t j)) : sameS s t = true := by
  unfold sameS sameB
  rw [beq_iff_eq]
  apply List.ext_getElem
  · simp only [List.length_map, Txt.len_list]; exact hl
  · intro i h1 h2
    simp only [List.length_map, Txt.len_list] at h1 h2
    simp only [List.getElem_map]
    apply UInt8.toNat_inj.1
    rw [low_toNat, low_toNat]
    have := h i h1
    unfold b at this
    rw [dif_pos h1, dif_pos h2] at this
    exact this
set_option maxRecDepth 100000 in
set_option maxHeartbeats 1000000 in
theorem same_any (s t : ByteArray) (w : World) (hs : s.size ≤ 9223372036854775807) :
    Calls Tryd.prog 22 #[.string s, .string t] w fun e w' => e = .returned (.bool (sameS s t)) ∧ ∃ n, w' = w.drewN n := by
  by_cases hl : s.size = t.size
  · have heq : ((s.size : Int) != (t.size : Int)) = false := by simp [hl]
    obtain ⟨n, hn⟩ : ∃ n, s.size = n := ⟨_, rfl⟩
    have hm : t.size = n := by omega
    have HL := Lib.hid hn
    have HM := Lib.hid hm
    obtain ⟨R, hR⟩ : ∃ R, sameS s t = R := ⟨_, rfl⟩
    have HR := Lib.hid hR
    rw [hR]
    rw [hn] at hs
    clear hn hm hR hl
    go_enter Tryd.func22, Tryd.ntmps22
    go_wp2_with fail
    go_loopw [13] (fun i u => ∃ k : Nat, k ≤ n ∧ i = .int .i64 k ∧ (∀ j, j < k → lowN (b s j) = lowN (b t j)) ∧ ∃ m, u = w.drewN m) (fun i _ => n - (intOf i).toNat)
    case atStart => exact ⟨0, by omega, rfl, fun j hj => absurd hj (by omega), 0, rfl⟩
    case round =>
      obtain ⟨k, hk, rfl, hsame, m, hu⟩ := hrel
      have HS := Lib.hid hsame
      have HU := Lib.hid hu
      clear hsame hu
      by_cases hlt : k < n
      · have k0 : (0 : Int) ≤ k := by omega
        have k1 : (k : Int) < n := by omega
        have hks : k < s.size := by have := HL.out; omega
        have hkt : k < t.size := by have := HM.out; omega
        have k2 : (k : Int) < s.size := by omega
        have k3 : (k : Int) < t.size := by omega
        have b1 := b_eq s k hks
        have b2 := b_eq t k hkt
        have l1 := b_lt s k
        have l2 := b_lt t k
        obtain ⟨c, hc⟩ : ∃ c, b s k = c := ⟨_, rfl⟩
        obtain ⟨d, hd⟩ : ∃ d, b t k = d := ⟨_, rfl⟩
        rw [hc] at b1 l1
        rw [hd] at b2 l2
        have c1 := fun w => lower_any c l1 w
        have c2 := fun w => lower_any d l2 w
        obtain ⟨X, hX⟩ : ∃ X, lowN c = X := ⟨_, rfl⟩
        obtain ⟨Y, hY⟩ : ∃ Y, lowN d = Y := ⟨_, rfl⟩
        rw [hX] at c1
        rw [hY] at c2
        have C1 := Lib.hid c1
        have C2 := Lib.hid c2
        clear c1 c2
        have HC := Lib.hid hc
        have HD := Lib.hid hd
        have HX := Lib.hid hX
        have HY := Lib.hid hY
        clear hc hd hX hY
        by_cases hxy : X = Y
        · have hbeq : ((X : Int) != (Y : Int)) = false := by simp [hxy]
          have HXY := Lib.hid hxy
          clear hxy
          go_wp2_with fail
          go_quiet ((first | (with_reducible exact Calls.quiet_of_same (C1.out _)) | (with_reducible exact Calls.quiet_of_same (C2.out _))))
          go_wp2
          refine ⟨⟨k + 1, by omega, by go_num, fun j hj => ?_, m + nq, by rw [HU.out, World.drewN_drewN]⟩, ?_⟩
          · by_cases e : j = k
            · subst e; rw [HC.out, HD.out, HX.out, HY.out]; exact HXY.out
            · exact HS.out j (by omega)
          · simp [intOf]; omega
        · have hbeq : ((X : Int) != (Y : Int)) = true := by simp; omega
          have HXY := Lib.hid hxy
          clear hxy
          go_wp2_with fail
          go_quiet ((first | (with_reducible exact Calls.quiet_of_same (C1.out _)) | (with_reducible exact Calls.quiet_of_same (C2.out _))))
          go_wp2
          go_ret
          refine ⟨?_, m + nq, by rw [HU.out, World.drewN_drewN]⟩
          rw [← HR.out, sameS_no hks hkt (by rw [HC.out, HD.out, HX.out, HY.out]; exact HXY.out)]
          rfl
      · obtain rfl : k = n := by omega
        have k2 : ¬ (k : Int) < (s.size : Int) := by have := HL.out; omega
        go_wp2
        go_ret
        refine ⟨?_, m, HU.out⟩
        rw [← HR.out, sameS_yes (by rw [HL.out, HM.out]) (by rw [HL.out]; exact HS.out)]
        rfl
  · have hne : ((s.size : Int) != (t.size : Int)) = true := by simp; omega
    rw [sameS_len hl]
    clear hl
    go_enter Tryd.func22, Tryd.ntmps22
    go_wp2_with fail
    go_ret
    exact ⟨rfl, 0, rfl⟩
set_option maxRecDepth 100000 in
set_option maxHeartbeats 1000000 in
theorem ysame_any (s t : ByteArray) (w : World) (hs : s.size ≤ 9223372036854775807) :
    Calls Tryd.prog 19 #[.string s, .string t] w fun e w' => e = .returned (.bool (sameS s t)) ∧ ∃ n, w' = w.drewN n := by
  by_cases hl : s.size = t.size
  · have heq : ((s.size : Int) != (t.size : Int)) = false := by simp [hl]
    obtain ⟨n, hn⟩ : ∃ n, s.size = n := ⟨_, rfl⟩
    have hm : t.size = n := by omega
    have HL := Lib.hid hn
    have HM := Lib.hid hm
    obtain ⟨R, hR⟩ : ∃ R, sameS s t = R := ⟨_, rfl⟩
    have HR := Lib.hid hR
    rw [hR]
    rw [hn] at hs
    clear hn hm hR hl
    go_enter Tryd.func19, Tryd.ntmps19
    go_wp2_with fail
    go_loopw [13] (fun i u => ∃ k : Nat, k ≤ n ∧ i = .int .i64 k ∧ (∀ j, j < k → lowN (b s j) = lowN (b t j)) ∧ ∃ m, u = w.drewN m) (fun i _ => n - (intOf i).toNat)
    case atStart => exact ⟨0, by omega, rfl, fun j hj => absurd hj (by omega), 0, rfl⟩
    case round =>
      obtain ⟨k, hk, rfl, hsame, m, hu⟩ := hrel
      have HS := Lib.hid hsame
      have HU := Lib.hid hu
      clear hsame hu
      by_cases hlt : k < n
      · have k0 : (0 : Int) ≤ k := by omega
        have k1 : (k : Int) < n := by omega
        have hks : k < s.size := by have := HL.out; omega
        have hkt : k < t.size := by have := HM.out; omega
        have k2 : (k : Int) < s.size := by omega
        have k3 : (k : Int) < t.size := by omega
        have b1 := b_eq s k hks
        have b2 := b_eq t k hkt
        have l1 := b_lt s k
        have l2 := b_lt t k
        obtain ⟨c, hc⟩ : ∃ c, b s k = c := ⟨_, rfl⟩
        obtain ⟨d, hd⟩ : ∃ d, b t k = d := ⟨_, rfl⟩
        rw [hc] at b1 l1
        rw [hd] at b2 l2
        have c1 := fun w => ylow_any c l1 w
        have c2 := fun w => ylow_any d l2 w
        obtain ⟨X, hX⟩ : ∃ X, lowN c = X := ⟨_, rfl⟩
        obtain ⟨Y, hY⟩ : ∃ Y, lowN d = Y := ⟨_, rfl⟩
        rw [hX] at c1
        rw [hY] at c2
        have C1 := Lib.hid c1
        have C2 := Lib.hid c2
        clear c1 c2
        have HC := Lib.hid hc
        have HD := Lib.hid hd
        have HX := Lib.hid hX
        have HY := Lib.hid hY
        clear hc hd hX hY
        by_cases hxy : X = Y
        · have hbeq : ((X : Int) != (Y : Int)) = false := by simp [hxy]
          have HXY := Lib.hid hxy
          clear hxy
          go_wp2_with fail
          go_quiet ((first | (with_reducible exact Calls.quiet_of_same (C1.out _)) | (with_reducible exact Calls.quiet_of_same (C2.out _))))
          go_wp2
          refine ⟨⟨k + 1, by omega, by go_num, fun j hj => ?_, m + nq, by rw [HU.out, World.drewN_drewN]⟩, ?_⟩
          · by_cases e : j = k
            · subst e; rw [HC.out, HD.out, HX.out, HY.out]; exact HXY.out
            · exact HS.out j (by omega)
          · simp [intOf]; omega
        · have hbeq : ((X : Int) != (Y : Int)) = true := by simp; omega
          have HXY := Lib.hid hxy
          clear hxy
          go_wp2_with fail
          go_quiet ((first | (with_reducible exact Calls.quiet_of_same (C1.out _)) | (with_reducible exact Calls.quiet_of_same (C2.out _))))
          go_wp2
          go_ret
          refine ⟨?_, m + nq, by rw [HU.out, World.drewN_drewN]⟩
          rw [← HR.out, sameS_no hks hkt (by rw [HC.out, HD.out, HX.out, HY.out]; exact HXY.out)]
          rfl
      · obtain rfl : k = n := by omega
        have k2 : ¬ (k : Int) < (s.size : Int) := by have := HL.out; omega
        go_wp2
        go_ret
        refine ⟨?_, m, HU.out⟩
        rw [← HR.out, sameS_yes (by rw [HL.out, HM.out]) (by rw [HL.out]; exact HS.out)]
        rfl
  · have hne : ((s.size : Int) != (t.size : Int)) = true := by simp; omega
    rw [sameS_len hl]
    clear hl
    go_enter Tryd.func19, Tryd.ntmps19
    go_wp2_with fail
    go_ret
    exact ⟨rfl, 0, rfl⟩
/-! ### fieldName: how long the name ahead of a colon is -/
def nameLen (l : Bs) : Int := match cutL l with
  | none => -1
  | some (nm, _) => if nameB nm then (nm.length : Int) else -1
def sgnN (c : Nat) : Bool := decide (33 ≤ c) && decide (c ≤ 126) && !decide (c = 58)
theorem sgn_toNat (c : UInt8) : sgn c = sgnN c.toNat := by
  unfold sgn sgnN
  rw [Bool.eq_iff_iff]
  simp [UInt8.le_iff_toNat_le, ← UInt8.toNat_inj]
/-- The signs ahead of place k may be a name's beginning. -/
def NameTo (s : ByteArray) (k : Nat) : Prop := (∀ j, j < k → sgnN (b s j) = true) ∧ (0 < k → b s 0 ≠ 35 ∧ b s 0 ≠ 45)
theorem bytes_get (s : ByteArray) (k : Nat) (h : k < s.size) : ∃ c, s.data.toList[k]? = some c ∧ c.toNat = b s k := by
  have hl : k < s.data.toList.length := by rw [Txt.len_list]; exact h
  refine ⟨s.data.toList[k], List.getElem?_eq_getElem hl, ?_⟩
  unfold b
  rw [dif_pos h]
  rfl
theorem cut_none {l : Bs} (h : ∀ d ∈ l, d ≠ 58) : cutL l = none := by
  induction l with
  | nil => rfl
  | cons c l ih =>
    show (if c = 58 then some ([], l) else (cutL l).map fun p => (c :: p.1, p.2)) = none
    rw [if_neg (h c (.head _)), ih fun d hd => h d (.tail _ hd)]
    rfl
theorem name_of {s : ByteArray} {k : Nat} (hk : k ≤ s.size) (h : NameTo s k) (h0 : 0 < k) : nameB (s.data.toList.take k) = true := by
  cases hl : s.data.toList with
  | nil =>
    have := congrArg List.length hl
    rw [Txt.len_list, List.length_nil] at this
    omega
  | cons c r =>
    obtain ⟨k, rfl⟩ : ∃ m, k = m + 1 := ⟨k - 1, by omega⟩
    have hget : ∀ j, j < k + 1 → ∃ d, (c :: r)[j]? = some d ∧ d.toNat = b s j := fun j hj => by
      obtain ⟨d, h1, h2⟩ := bytes_get s j (by omega)
      rw [hl] at h1
      exact ⟨d, h1, h2⟩
    obtain ⟨d, h1, h2⟩ := hget 0 (by omega)
    simp at h1
    subst h1
    have h3 := h.2 (by omega)
    rw [List.take_succ_cons]
    unfold nameB
    simp only [Bool.and_eq_true, Bool.not_eq_true', decide_eq_false_iff_not, List.all_eq_true]
    refine ⟨⟨⟨?_, fun e => ?_⟩, fun e => ?_⟩, fun x hx => ?_⟩
    · rw [sgn_toNat, h2]; exact h.1 0 (by omega)
    · rw [e] at h2; exact h3.1 h2.symm
    · rw [e] at h2; exact h3.2 h2.symm
    · obtain ⟨j, hj, rfl⟩ := List.mem_iff_getElem.1 hx
      simp at hj
      obtain ⟨y, h4, h5⟩ := hget (j + 1) (by omega)
      simp at h4
      rw [sgn_toNat]
      simp only [List.getElem_take]
      rw [List.getElem?_eq_getElem (by omega)] at h4
      rw [Option.some.inj h4, h5]
      exact h.1 (j + 1) (by omega)
theorem no_colon {s : ByteArray} {k : Nat} (hk : k ≤ s.size) (h : NameTo s k) : ∀ d ∈ s.data.toList.take k, d ≠ 58 := by
  intro d hd
  obtain ⟨j, hj, rfl⟩ := List.mem_iff_getElem.1 hd
  simp [Txt.len_list] at hj
  obtain ⟨y, h4, h5⟩ := bytes_get s j (by omega)
  rw [List.getElem?_eq_getElem (by rw [Txt.len_list]; omega)] at h4
  simp only [List.getElem_take]
  rw [Option.some.inj h4]
  intro e
  have := h.1 j (by omega)
  rw [← h5, e] at this
  cases this
theorem split_at (s : ByteArray) (k : Nat) (h : k < s.size) : ∃ c, s.data.toList = s.data.toList.take k ++ c :: s.data.toList.drop (k + 1) ∧ c.toNat = b s k := by
  obtain ⟨c, h1, h2⟩ := Txt.drop_cons s k h
  exact ⟨c, by rw [← h1, List.take_append_drop], h2⟩
/-- A colon behind a name's signs. -/
theorem nameLen_at {s : ByteArray} {k : Nat} (hk : k < s.size) (h : NameTo s k) (hc : b s k = 58) : nameLen s.data.toList = if k = 0 then -1 else (k : Int) := by
  obtain ⟨c, h1, h2⟩ := split_at s k hk
  rw [hc] at h2
  have hc' : c = 58 := UInt8.toNat_inj.1 h2
  have hl : (s.data.toList.take k).length = k := by rw [List.length_take, Txt.len_list]; omega
  have hcut : cutL s.data.toList = some (s.data.toList.take k, s.data.toList.drop (k + 1)) := by
    conv => lhs; rw [h1, hc']
    exact cut_app (no_colon (by omega) h) _
  unfold nameLen
  rw [hcut]
  by_cases h0 : k = 0
  · subst h0
    simp [nameB]
  · simp only [name_of (by omega) h (by omega), if_true, hl]
    rw [if_neg h0]
/-- A sign that a name has not. -/
theorem nameLen_bad {s : ByteArray} {k : Nat} (hk : k < s.size) (h : NameTo s k) (hc : b s k ≠ 58) (hbad : sgnN (b s k) = false ∨ (k = 0 ∧ (b s 0 = 35 ∨ b s 0 = 45))) : nameLen s.data.toList = -1 := by
  unfold nameLen
  cases hq : cutL s.data.toList with
  | none => rfl
  | some p =>
    obtain ⟨nm, r⟩ := p
    obtain ⟨h1, h2⟩ := cut_eq hq
    simp only
    split
    · next hn =>
      exfalso
      obtain ⟨c0, q, e0, hs, hne, hall⟩ := name_cons hn
      have hlen : k < nm.length := by
        by_cases hlt : k < nm.length
        · exact hlt
        · exfalso
          by_cases he : k = nm.length
          · obtain ⟨d, h3, h4⟩ := bytes_get s k hk
            rw [h1, he] at h3
            simp at h3
            subst h3
            exact hc (by rw [← h4]; rfl)
          · have hj : nm.length < k := by omega
            have := h.1 nm.length hj
            obtain ⟨d, h3, h4⟩ := bytes_get s nm.length (by omega)
            rw [h1] at h3
            simp at h3
            subst h3
            rw [← h4] at this
            cases this
      obtain ⟨d, h3, h4⟩ := bytes_get s k hk
      rw [h1, List.getElem?_append_left hlen, List.getElem?_eq_getElem hlen] at h3
      have hd : sgn d = true := by rw [← Option.some.inj h3]; exact hall _ (List.getElem_mem hlen)
      rcases hbad with hb | ⟨hk0, hb⟩
      · rw [sgn_toNat, h4, hb] at hd; cases hd
      · subst hk0
        subst e0
        simp at h3
        subst h3
        unfold nameB at hn
        simp only [Bool.and_eq_true, Bool.not_eq_true', decide_eq_false_iff_not] at hn
        rcases hb with hb | hb
        · exact hn.1.1.2 (UInt8.toNat_inj.1 (by rw [h4, hb]; rfl))
        · exact hn.1.2 (UInt8.toNat_inj.1 (by rw [h4, hb]; rfl))
    · rfl
theorem nameLen_end {s : ByteArray} (h : NameTo s s.size) : nameLen s.data.toList = -1 := by
  unfold nameLen
  rw [cut_none]
  have := no_colon (Nat.le_refl _) h
  rw [List.take_of_length_le (by rw [Txt.len_list]; omega)] at this
  exact this
theorem NameTo.more {s : ByteArray} {k : Nat} (h : NameTo s k) (h1 : sgnN (b s k) = true) (h2 : k = 0 → b s 0 ≠ 35 ∧ b s 0 ≠ 45) : NameTo s (k + 1) :=
  ⟨fun j hj => by
    by_cases e : j = k
    · subst e; exact h1
    · exact h.1 j (by omega), fun _ => by
    by_cases e : k = 0
    · exact h2 e
    · exact h.2 (by omega)⟩
end Stz
end Go.Proofs.YtgolnfgkoolpoaaDoor

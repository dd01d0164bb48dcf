/-
What is no good text, and where it begins: text.Good and its reference's Good by one function of the bytes.
-/
import Derived.Test.YtgolnfgkoolpoaaDoorTextSmall
import Derived.Deep.LoopGhost
import Derived.Lib.OthersKept
namespace Go.Proofs.YtgolnfgkoolpoaaDoor
open Go.RowKit
set_option linter.unusedSimpArgs false
set_option linter.unusedVariables false
namespace Txt
/-- The place of the first byte at which s is no good text, from i on. -/
def goodN (s : ByteArray) : Nat → Nat → Int
  | 0, _ => -1
  | f + 1, i => if i < s.size then (if sz s i = 0 ∨ ctl (b s i) = true then (i : Int) else goodN s f (i + sz s i)) else -1
def good (s : ByteArray) : Int := goodN s s.size 0
theorem sz_le (s : ByteArray) (i : Nat) (h : i < s.size) : i + sz s i ≤ s.size := by
  by_cases hb : b s i < 128
  · have : sz s i = 1 := by unfold sz; rw [if_pos hb]
    omega
  · rcases dec_high s i h (by omega) with ⟨h0, _⟩ | ⟨_, h1, _⟩ <;> omega
theorem sz_one (s : ByteArray) (i : Nat) (hb : b s i < 128) : sz s i = 1 := by unfold sz; rw [if_pos hb]
theorem decode_drop (s : ByteArray) (i : Nat) (h : i < s.size) : Lib.decodeGo (s.extract i s.size) = Utf8.decode s i := by
  have hsz : (s.extract i s.size).size = s.size - i := by simp [ByteArray.size_extract]
  unfold Lib.decodeGo
  rw [if_neg (by omega)]
  rw [Lib.decode_at, Lib.decode_at, hsz]
  have e : ∀ k, i + k < s.size → ((s.extract i s.size).get! k).toNat = (s.get! (i + k)).toNat := fun k hk => by
    rw [b_get _ _ hk, b_get _ _ (by omega), b_drop s i k (by omega)]
  have e0 := e 0 (by omega)
  rw [Nat.add_zero] at e0
  have o : ∀ k, ¬ i + k < s.size → ((s.extract i s.size).get! k).toNat = (s.get! (i + k)).toNat := fun k hk => by
    have h1 : ¬ k < (s.extract i s.size).size := by omega
    show ((s.extract i s.size).data[k]!).toNat = (s.data[i + k]!).toNat
    rw [getElem!_neg _ _ (by exact h1), getElem!_neg _ _ (by exact hk)]
  have a : ∀ k, ((s.extract i s.size).get! k).toNat = (s.get! (i + k)).toNat := fun k => by
    by_cases hk : i + k < s.size
    · exact e k hk
    · exact o k hk
  rw [e0, a 1, a 2, a 3, Nat.sub_zero]
theorem tabs_below {w w' : World} {B : Nat} (h : Lib.Utf8Tabs 1 2 w) (hb : Below B w w') (hB : 1 < B ∧ 2 < B) : Lib.Utf8Tabs 1 2 w' := by
  refine ⟨fun c hc => ?_, fun i hi => ?_⟩
  · rw [hb.cell (p := ⟨1, c, none⟩) hB.1]; exact h.1 c hc
  · obtain ⟨h1, h2⟩ := h.2 i hi
    exact ⟨by rw [hb.cell hB.2]; exact h1, by rw [hb.cell hB.2]; exact h2⟩
theorem lt_cell {w : World} {p : Addr} {v : Value} (h : w.cell? p = some v) : p.block < w.heap.size := by
  by_cases hc : p.block < w.heap.size
  · exact hc
  · exfalso
    unfold World.cell? at h
    rw [Array.getElem?_eq_none (by omega)] at h
    cases h
theorem tabs_lt {w : World} (h : Lib.Utf8Tabs 1 2 w) : 1 < w.heap.size ∧ 2 < w.heap.size := by
  constructor
  · have := h.1 0 (by omega)
    exact lt_cell this
  · exact lt_cell (h.2 0 (by omega)).1
theorem written_any (s : ByteArray) (w : World) (hT : Lib.Utf8Tabs 1 2 w) : Calls Tryd.prog 71 #[.string s] w fun e w' => e = .returned (.bool (decide (1 < (Lib.decodeGo s).2))) ∧ Below w.heap.size w w' := by
  have c := Tryd.utf8_DecodeRuneInString s w hT
  obtain ⟨R, hR⟩ : ∃ R, (Lib.decodeGo s).1 = R := ⟨_, rfl⟩
  obtain ⟨K, hK⟩ : ∃ K, (Lib.decodeGo s).2 = K := ⟨_, rfl⟩
  rw [hR, hK] at c
  rw [hK]
  clear hR hK hT
  go_enter Tryd.func71, Tryd.ntmps71
  go_wp2_with fail
  refine c.mono ?_
  rintro e w' ⟨rfl, hb⟩
  go_wp2_with fail
  go_ret
  refine ⟨?_, hb⟩
  show Ending.returned (Value.bool (decide (1 < (K : Int)))) = _
  rw [Bool.eq_iff_iff.2 (show decide (1 < (K : Int)) = true ↔ decide (1 < K) = true by simp; omega)]
set_option maxRecDepth 100000 in
set_option maxHeartbeats 2000000 in
theorem good_any (s : ByteArray) (w : World) (hs : s.size ≤ 9223372036854775807) (hT : Lib.Utf8Tabs 1 2 w) :
    Calls Tryd.prog 56 #[.string s] w fun e w' => e = .returned (.int .i64 (good s)) ∧ Below w.heap.size w w' := by
  obtain ⟨G, hG⟩ : ∃ G, good s = G := ⟨_, rfl⟩
  have HG := Lib.hid hG
  rw [hG]
  clear hG
  go_enter Tryd.func56, Tryd.ntmps56
  go_wp2
  go_loopg [3] s.size (fun gf s3 wx => ∃ pos : Nat, wx.heap[w.heap.size]? = some (.stringIter s pos) ∧ Below w.heap.size w wx ∧ Hid (goodN s gf pos = G) ∧ s.size ≤ pos + gf ∧ pos ≤ s.size)
  case atStart => exact ⟨0, World.iter_heap w s 0, (Below.refl _ _).alloc (Nat.le_refl _) _, HG.out, by omega, by omega⟩
  case round =>
    obtain ⟨pos, hit, hbw, HN, hfu, hps⟩ := hrel
    by_cases hlt : pos < s.size
    · obtain ⟨g', rfl⟩ : ∃ g', gk = g' + 1 := ⟨gk - 1, by omega⟩
      have hnx : ∀ ty, (Instr.next (.pointer (some ⟨w.heap.size, 0, none⟩)) true ty).run Tryd.prog wr = _ := fun ty => Lib.run_next_any_at wr w.heap.size s pos ty hit hlt
      obtain ⟨W, hW⟩ : ∃ W, wr.iterAt w.heap.size s (pos + (Utf8.decode s pos).2) = W := ⟨_, rfl⟩
      have hit2 := Lib.iterAt_heap wr w.heap.size s pos (pos + (Utf8.decode s pos).2) hit
      have hbw2 := Lib.below_iterAt hbw (k := w.heap.size) (Nat.le_refl _) s (pos + (Utf8.decode s pos).2)
      rw [hW] at hnx hit2 hbw2
      have hlt0 := tabs_lt hT
      have hT2 := tabs_below hT hbw2 hlt0
      have hN := HN.out
      simp only [goodN, hlt, if_true] at hN
      have hle := sz_le s pos hlt
      have CW := written_any (s.extract pos s.size) W hT2
      rw [decode_drop s pos hlt] at CW
      clear hW hit hbw hT hlt0 hT2 HN
      by_cases hb : b s pos < 128
      · have h1 := sz_one s pos hb
        rw [dec_low s pos hlt hb] at hnx hit2 CW
        rw [h1] at hN hle
        obtain ⟨c, hc⟩ : ∃ c, b s pos = c := ⟨_, rfl⟩
        rw [hc] at hnx hN hb
        clear hc CW h1
        go_wp2_with fail
        refine (control_any _ _).mono ?_
        rintro e w' ⟨rfl, rfl⟩
        cases hk : ctl c
        · simp only [hk, Bool.false_eq_true, or_false] at hN
          rw [if_neg (by omega)] at hN
          have HN := Lib.hid hN
          clear hN
          go_wp2_with fail
          go_roundg g'
          case measure => omega
          case rel => exact ⟨pos + 1, hit2, hbw2, HN, by omega, hle⟩
        · rw [if_pos (Or.inr hk)] at hN
          subst hN
          go_wp2_with fail
          go_ret
          exact ⟨rfl, hbw2⟩
      · rcases dec_high s pos hlt (by omega) with ⟨h0, hd⟩ | ⟨h0, h1, hd, hr⟩
        · rw [hd] at hnx hit2 CW
          rw [if_pos (Or.inl h0)] at hN
          subst hN
          have hp : (pos : Int) ≤ (s.size : Int) := by omega
          rw [show decide (1 < ((65533, 1) : Nat × Nat).2) = false from rfl] at CW
          go_wp2_with fail
          refine (control_any 65533 _).mono ?_
          rintro e w' ⟨rfl, rfl⟩
          rw [show ctl 65533 = false by decide]
          go_wp2_with fail
          refine CW.mono ?_
          rintro e w8 ⟨rfl, b8⟩
          go_wp2_with fail
          go_ret
          exact ⟨rfl, hbw2.trans (b8.mono hbw2.size)⟩
        · have hk : ctl (b s pos) = false := by unfold ctl; simp; omega
          rw [if_neg (by rw [hk]; simp; omega)] at hN
          have HN := Lib.hid hN
          obtain ⟨R, hR⟩ : ∃ R, (Utf8.decode s pos).1 = R := ⟨_, rfl⟩
          rw [hR] at hnx hr
          rw [hd] at hit2 CW
          have hp : (pos : Int) ≤ (s.size : Int) := by omega
          rw [show decide (1 < sz s pos) = true from decide_eq_true (by omega)] at CW
          clear hN hR
          go_wp2_with fail
          refine (control_any _ _).mono ?_
          rintro e w' ⟨rfl, rfl⟩
          rw [show ctl R = false by unfold ctl; simp; omega]
          by_cases hr5 : R = 65533
          · subst hr5
            go_wp2_with fail
            refine CW.mono ?_
            rintro e w8 ⟨rfl, b8⟩
            go_wp2_with fail
            go_roundg g'
            case measure => omega
            case rel => exact ⟨pos + sz s pos, (b8.block _ (Array.getElem?_eq_some_iff.1 hit2).1).trans hit2, hbw2.trans (b8.mono hbw2.size), HN, by omega, hle⟩
          · have hr5' : ¬ ((R : Int) = 65533) := by omega
            go_wp2_with fail
            go_roundg g'
            case measure => omega
            case rel => exact ⟨pos + sz s pos, hit2, hbw2, HN, by omega, hle⟩
    · have hne : ∀ ty, (Instr.next (.pointer (some ⟨w.heap.size, 0, none⟩)) true ty).run Tryd.prog wr = _ := fun ty => Lib.run_next_end_at wr w.heap.size s pos ty hit hlt
      go_wp2_with fail
      go_ret
      have := HN.out
      refine ⟨?_, hbw⟩
      rw [← this]
      cases gk <;> simp [goodN, hlt]
set_option maxRecDepth 100000 in
set_option maxHeartbeats 2000000 in
theorem ygood_any (s : ByteArray) (w : World) (hs : s.size ≤ 9223372036854775807) :
    Calls Tryd.prog 45 #[.string s] w fun e w' => e = .returned (.int .i64 (good s)) ∧ w' = w := by
  obtain ⟨G, hG⟩ : ∃ G, good s = G := ⟨_, rfl⟩
  have HG := Lib.hid hG
  rw [hG]
  clear hG
  go_enter Tryd.func45, Tryd.ntmps45
  go_wp2
  go_loopg [3] s.size (fun gf s3 wx => ∃ pos : Nat, s3 = .int .i64 pos ∧ wx = w ∧ Hid (goodN s gf pos = G) ∧ s.size ≤ pos + gf ∧ pos ≤ s.size)
  case atStart => exact ⟨0, rfl, rfl, HG.out, by omega, by omega⟩
  case round =>
    obtain ⟨pos, rfl, rfl, HN, hfu, hps⟩ := hrel
    by_cases hlt : pos < s.size
    · obtain ⟨g', rfl⟩ : ∃ g', gk = g' + 1 := ⟨gk - 1, by omega⟩
      have hN := HN.out
      simp only [goodN, hlt, if_true] at hN
      have hle := sz_le s pos hlt
      have hb := b_eq s
      have hsz : (s.extract pos s.size).size = s.size - pos := by simp [ByteArray.size_extract]
      have CS := size_any (s.extract pos s.size) wr (by omega)
      rw [sz_drop s pos (by omega)] at CS
      have hbl := b_lt s pos
      have hp : (pos : Int) ≤ (s.size : Int) := by omega
      have hlt' : (pos : Int) < (s.size : Int) := by omega
      clear hsz
      go_wp2_with fail
      refine CS.mono ?_
      rintro e w8 ⟨rfl, rfl⟩
      by_cases h0 : sz s pos = 0
      · rw [if_pos (Or.inl h0)] at hN
        subst hN
        rw [h0]
        go_wp2_with fail
        go_ret
        exact ⟨rfl, rfl⟩
      · obtain ⟨n, hn⟩ : ∃ n, sz s pos = n := ⟨_, rfl⟩
        rw [hn] at h0 hN hle ⊢
        have h0' : ¬ ((n : Int) = 0) := by omega
        simp only [h0, false_or] at hN
        clear CS hn
        by_cases hk : ctl (b s pos) = true
        · rw [if_pos hk] at hN
          subst hN
          clear HN
          have hk2 : (b s pos < 32 ∧ ¬ b s pos = 9) ∨ b s pos = 127 := by
            unfold ctl at hk; simp at hk; omega
          clear hk
          obtain ⟨c, hc⟩ : ∃ c, b s pos = c := ⟨_, rfl⟩
          have hbc := hb pos hlt
          rw [hc] at hbc hk2 hbl
          clear hb hc
          rcases hk2 with ⟨k1, k2⟩ | k1
          · have k1' : (c : Int) < 32 := by omega
            have k2' : ¬ ((c : Int) = 9) := by omega
            go_wp2_with fail
            all_goals
              go_ret
              exact ⟨rfl, rfl⟩
          · subst k1
            go_wp2_with fail
            all_goals
              go_ret
              exact ⟨rfl, rfl⟩
        · rw [if_neg hk] at hN
          have HN := Lib.hid hN
          have hk2 : (32 ≤ b s pos ∨ b s pos = 9) ∧ ¬ b s pos = 127 := by
            unfold ctl at hk; simp at hk; omega
          clear hk hN
          obtain ⟨c, hc⟩ : ∃ c, b s pos = c := ⟨_, rfl⟩
          have hbc := hb pos hlt
          rw [hc] at hbc hk2 hbl
          clear hb hc
          obtain ⟨k1, k2⟩ := hk2
          have k2' : ¬ ((c : Int) = 127) := by omega
          rcases k1 with k1 | k1
          · have k1' : ¬ ((c : Int) < 32) := by omega
            have e1 : ((n : Int) == 0) = false := by simp; omega
            have e2 : ((c : Int) == 127) = false := by simp; omega
            have e3 : ((n : Int) == 0 || (c : Int) == 127) = false := by rw [e1, e2]; rfl
            go_wp2_with fail
            go_roundg g'
            case measure => omega
            case rel => exact ⟨pos + n, by go_num, rfl, HN, by omega, hle⟩
          · subst k1
            go_wp2_with fail
            go_roundg g'
            case measure => omega
            case rel => exact ⟨pos + n, by go_num, rfl, HN, by omega, hle⟩
    · have hge : (s.size : Int) ≤ (pos : Int) := by omega
      go_wp2_with fail
      go_ret
      have := HN.out
      refine ⟨?_, rfl⟩
      rw [← this]
      cases gk <;> simp [goodN, hlt]
end Txt
end Go.Proofs.YtgolnfgkoolpoaaDoor

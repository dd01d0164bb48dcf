/-
The reference's Number, and the texts that every program must know.
-/
import Derived.Test.YtapmpdljapbpeaaGreatDoorTextSmallK
namespace Go.Proofs.YtapmpdljapbpeaaGreatDoor
open Go.RowKit
set_option linter.unusedSimpArgs false
set_option linter.unusedVariables false
namespace Txt
set_option maxRecDepth 100000 in
set_option maxHeartbeats 2000000 in
theorem ynumber_any (s : ByteArray) (w : World) (hs : s.size ≤ 9223372036854775807) :
    Calls Tryz.prog 68 #[.string s] w fun e w' => e = .returned (.tuple #[.int .i64 (numOf s), .bool (decide (numOK s))]) ∧ w' = w := by
  obtain ⟨G, hG⟩ : ∃ G, (numOf s, decide (numOK s)) = G := ⟨_, rfl⟩
  have HG := Lib.hid hG
  obtain ⟨g1, g2⟩ := G
  obtain ⟨e1, e2⟩ := Prod.mk.inj hG
  rw [e1, e2]
  clear e1 e2 hG
  go_enter Tryz.func68, Tryz.ntmps68
  go_wp2
  go_loopg [4, 8] s.size (fun gf s4 s8 wx => ∃ pos : Nat, s4 = .int .i64 (valP s pos) ∧ s8 = .int .i64 pos ∧ wx = w ∧ Hid (∀ j, j < pos → dgt (b s j) = true) ∧ s.size ≤ pos + gf ∧ pos ≤ s.size ∧ pos ≤ 9)
  case atStart => exact ⟨0, rfl, rfl, rfl, fun j hj => by omega, by omega, by omega, by omega⟩
  case round =>
    obtain ⟨pos, rfl, rfl, rfl, HN, hfu, hps, hp9⟩ := hrel
    have hv := valP_le s pos (by omega) HN.out
    have hvs : valP s (pos + 1) = 10 * valP s pos + (b s pos - 48) := rfl
    by_cases hlt : pos < s.size
    · obtain ⟨v, hvv⟩ : ∃ v, valP s pos = v := ⟨_, rfl⟩
      rw [hvv] at hv hvs ⊢
      clear hvv
      obtain ⟨g', rfl⟩ : ∃ g', gk = g' + 1 := ⟨gk - 1, by omega⟩
      have hlt' : (pos : Int) < (s.size : Int) := by omega
      have hbc := b_eq s pos hlt
      have hbl := b_lt s pos
      by_cases hb : dgt (b s pos) = true
      · have HM := Lib.hid (more HN.out hb)
        have hd : 48 ≤ b s pos ∧ b s pos ≤ 57 := by unfold dgt at hb; simp at hb; omega
        by_cases h9 : pos = 9
        · have h9' : 9 ≤ (pos : Int) := by omega
          obtain ⟨rfl, rfl⟩ := Prod.mk.inj (num_no HG.out fun h => by have := h.1.1.2; omega)
          obtain ⟨c, hc⟩ : ∃ c, b s pos = c := ⟨_, rfl⟩
          rw [hc] at hbc hbl hvs hb
          clear hc HN HG HM hvs hd h9
          go_wp2_with fail
          refine (ydigit_any _ _).mono ?_
          rintro e w' ⟨rfl, rfl⟩
          rw [hb]
          clear hb
          go_wp2_with fail
          go_ret2
          exact ⟨rfl, rfl⟩
        · have h9' : ¬ 9 ≤ (pos : Int) := by omega
          obtain ⟨c, hc⟩ : ∃ c, b s pos = c := ⟨_, rfl⟩
          rw [hc] at hbc hbl hd hvs hb
          have hd1 : 48 ≤ (c : Int) := by omega
          have hd2 : (c : Int) ≤ 57 := by omega
          have hv1 : (v : Int) ≤ 999999999 := by omega
          clear hc HN
          go_wp2_with fail
          refine (ydigit_any _ _).mono ?_
          rintro e w' ⟨rfl, rfl⟩
          rw [hb]
          clear hb
          go_wp2_with fail
          go_roundg g'
          case measure => omega
          case rel => exact ⟨pos + 1, by rw [hvs]; go_num, by go_num, rfl, HM, by omega, by omega, by omega⟩
      · obtain ⟨rfl, rfl⟩ := Prod.mk.inj (num_no HG.out fun h => hb (h.2 pos hlt))
        have hr : dgt (b s pos) = false := Bool.eq_false_iff.2 hb
        obtain ⟨c, hc⟩ : ∃ c, b s pos = c := ⟨_, rfl⟩
        rw [hc] at hbc hbl hr
        clear hc HG HN hb hvs
        go_wp2_with fail
        refine (ydigit_any _ _).mono ?_
        rintro e w' ⟨rfl, rfl⟩
        rw [hr]
        clear hr
        go_wp2_with fail
        go_ret2
        exact ⟨rfl, rfl⟩
    · have hpe : pos = s.size := by omega
      subst hpe
      clear hvs
      by_cases h0 : s.size = 0
      · obtain ⟨rfl, rfl⟩ := Prod.mk.inj (num_no HG.out fun h => by have := h.1.1.1; omega)
        rw [h0]
        clear HN HG
        go_wp2_with fail
        go_ret2
        exact ⟨rfl, rfl⟩
      · have h0' : ¬ ((s.size : Int) = 0) := by omega
        have hbc := b_eq s 0 (by omega)
        have hbl := b_lt s 0
        have hp0 : (0 : Int) < (s.size : Int) := by omega
        by_cases hn : 1 < s.size ∧ b s 0 = 48
        · obtain ⟨rfl, rfl⟩ := Prod.mk.inj (num_no HG.out fun h => h.1.2 hn)
          obtain ⟨hn1, hn2⟩ := hn
          rw [hn2] at hbc
          have hn1' : 1 < (s.size : Int) := by omega
          clear HG HN hn2
          go_wp2_with fail
          go_ret2
          exact ⟨rfl, rfl⟩
        · have hy : numOK s := ⟨⟨⟨by omega, hp9⟩, hn⟩, HN.out⟩
          obtain ⟨rfl, rfl⟩ := Prod.mk.inj (num_yes HG.out hy)
          by_cases h1 : 1 < s.size
          · have h1' : 1 < (s.size : Int) := by omega
            have h48 : ¬ b s 0 = 48 := fun h => hn ⟨h1, h⟩
            obtain ⟨c, hc⟩ : ∃ c, b s 0 = c := ⟨_, rfl⟩
            rw [hc] at hbc hbl h48
            have h48' : ¬ ((c : Int) = 48) := by omega
            have h48b : ((c : Int) == 48) = false := by simp; omega
            have h0b : ((s.size : Int) == 0) = false := beq_eq_false_iff_ne.2 h0'
            clear HG HN hn hc hy
            go_wp2_with fail
            go_ret2
            exact ⟨rfl, rfl⟩
          · have h1' : ¬ 1 < (s.size : Int) := by omega
            have h0b : ((s.size : Int) == 0) = false := beq_eq_false_iff_ne.2 h0'
            clear HG HN hn hy
            go_wp2_with fail
            go_ret2
            exact ⟨rfl, rfl⟩
theorem lib_name : decide (nameOK ⟨#[108, 105, 98, 99, 54]⟩) = true := by decide +kernel
theorem c_name : decide (nameOK ⟨#[67]⟩) = false := by decide +kernel
theorem lit_good : good ⟨#[97, 195, 169, 255]⟩ = 3 := by decide +kernel
end Txt
end Go.Proofs.YtapmpdljapbpeaaGreatDoor

/-
The small functions of package text and of its reference: signs by runes and by bytes; is a byte at a place; how long a character is. What is no good text, and where it begins: text.Good and its reference's Good by one function of the bytes. Names and numbers: text.Name, text.Number and their references by one reading of the bytes; the texts that every program must know.
-/
import Derived.Test.YtapmpdljapbpeaaGreatDoorProg
import Derived.Test.YtapmpdljapbpeaaGreatDoorShelf
import Derived.Test.YtapmpdljapbpeaaGreatDoorTextUtf
import Derived.WalkKit
import Derived.ProofKit
import Derived.Below
import Derived.Lib.Hide
import Derived.Deep.LoopGhost
import Derived.Lib.OthersKept
namespace Go.Proofs.YtapmpdljapbpeaaGreatDoor
open Go.RowKit
set_option linter.unusedSimpArgs false
set_option linter.unusedVariables false
namespace Txt
def ctl (r : Nat) : Bool := (decide (r < 32) && !decide (r = 9)) || decide (r = 127)
def ltr (r : Nat) : Bool := decide (97 ≤ r) && decide (r ≤ 122)
def dgt (r : Nat) : Bool := decide (48 ≤ r) && decide (r ≤ 57)
def mrk (r : Nat) : Bool := decide (r = 43) || decide (r = 45) || decide (r = 46)
theorem ret_bool {a b : Bool} {w : World} (h : a = true ↔ b = true) : Ending.returned (Value.bool a) = Ending.returned (.bool b) ∧ w = w := ⟨by rw [Bool.eq_iff_iff.2 h], rfl⟩
theorem letter_any (r : Nat) (w : World) : Calls Tryz.prog 105 #[.int .i32 r] w fun e w' => e = .returned (.bool (ltr r)) ∧ w' = w := by
  go_enter Tryz.func105, Tryz.ntmps105
  go_wp2_with fail
  all_goals
    go_ret
    refine ret_bool ?_
    simp [ltr]
    try omega
theorem digit_any (r : Nat) (w : World) : Calls Tryz.prog 106 #[.int .i32 r] w fun e w' => e = .returned (.bool (dgt r)) ∧ w' = w := by
  go_enter Tryz.func106, Tryz.ntmps106
  go_wp2_with fail
  all_goals
    go_ret
    refine ret_bool ?_
    simp [dgt]
    try omega
theorem mark_any (r : Nat) (w : World) : Calls Tryz.prog 107 #[.int .i32 r] w fun e w' => e = .returned (.bool (mrk r)) ∧ w' = w := by
  go_enter Tryz.func107, Tryz.ntmps107
  go_wp2_with fail
  all_goals
    go_ret
    refine ret_bool ?_
    simp [mrk]
    try omega
end Txt
end Go.Proofs.YtapmpdljapbpeaaGreatDoor
namespace Go.Proofs.YtapmpdljapbpeaaGreatDoor
open Go.RowKit
set_option linter.unusedSimpArgs false
set_option linter.unusedVariables false
namespace Txt
/-- The place of the first byte at which s is no good text, from i on. -/
def goodN (s : ByteArray) : Nat → Nat → Int
  | 0, _ => -1
  | f + 1, i => if i < s.size then (if sz s i = 0 ∨ ctl (b s i) = true then (i : Int) else goodN s f (i + sz s i)) else -1
def good (s : ByteArray) : Int := goodN s s.size 0
theorem sz_le (s : ByteArray) (i : Nat) (h : i < s.size) : i + sz s i ≤ s.size := by
  by_cases hb : b s i < 128
  · have : sz s i = 1 := by unfold sz; rw [if_pos hb]
    omega
  · rcases dec_high s i h (by omega) with ⟨h0, _⟩ | ⟨_, h1, _⟩ <;> omega
theorem sz_one (s : ByteArray) (i : Nat) (hb : b s i < 128) : sz s i = 1 := by unfold sz; rw [if_pos hb]
theorem lt_cell {w : World} {p : Addr} {v : Value} (h : w.cell? p = some v) : p.block < w.heap.size := by
  by_cases hc : p.block < w.heap.size
  · exact hc
  · exfalso
    unfold World.cell? at h
    rw [Array.getElem?_eq_none (by omega)] at h
    cases h
end Txt
end Go.Proofs.YtapmpdljapbpeaaGreatDoor
namespace Go.Proofs.YtapmpdljapbpeaaGreatDoor
open Go.RowKit
set_option linter.unusedSimpArgs false
set_option linter.unusedVariables false
namespace Txt
/-- May the byte at i stand in a name? -/
def okAt (s : ByteArray) (i : Nat) : Bool := ltr (b s i) || dgt (b s i) || (!decide (i = 0) && mrk (b s i))
def nameOK (s : ByteArray) : Prop := (2 ≤ s.size ∧ s.size ≤ 24) ∧ ∀ j, j < s.size → okAt s j = true
instance (s : ByteArray) : Decidable (nameOK s) := inferInstanceAs (Decidable (_ ∧ _))
theorem okAt_high {s : ByteArray} {i : Nat} (h : 128 ≤ b s i) : okAt s i = false := by
  unfold okAt ltr dgt mrk
  simp
  omega
theorem more {p : Nat → Bool} {i : Nat} (h : ∀ j, j < i → p j = true) (hi : p i = true) : ∀ j, j < i + 1 → p j = true := fun j hj => by
  by_cases e : j = i
  · subst e; exact hi
  · exact h j (by omega)
set_option maxRecDepth 100000 in
set_option maxHeartbeats 2000000 in
theorem name_any (s : ByteArray) (w : World) (hs : s.size ≤ 9223372036854775807) :
    Calls Tryz.prog 82 #[.string s] w fun e w' => e = .returned (.bool (decide (nameOK s))) ∧ Below w.heap.size w w' := by
  by_cases h2 : s.size < 2
  · have h2' : (s.size : Int) < 2 := by omega
    rw [decide_eq_false (fun h => by have := h.1.1; omega)]
    go_enter Tryz.func82, Tryz.ntmps82
    go_wp2_with fail
    go_ret
    exact ⟨rfl, Below.refl _ _⟩
  have h2' : ¬ (s.size : Int) < 2 := by omega
  by_cases h24 : 24 < s.size
  · have h24' : 24 < (s.size : Int) := by omega
    rw [decide_eq_false (fun h => by have := h.1.2; omega)]
    go_enter Tryz.func82, Tryz.ntmps82
    go_wp2_with fail
    go_ret
    exact ⟨rfl, Below.refl _ _⟩
  have h24' : ¬ 24 < (s.size : Int) := by omega
  obtain ⟨G, hG⟩ : ∃ G, decide (nameOK s) = G := ⟨_, rfl⟩
  have HG := Lib.hid hG
  rw [hG]
  clear hG
  go_enter Tryz.func82, Tryz.ntmps82
  go_wp2
  go_loopg [3] s.size (fun gf s3 wx => ∃ pos : Nat, wx.heap[w.heap.size]? = some (.stringIter s pos) ∧ Below w.heap.size w wx ∧ Hid (∀ j, j < pos → okAt s j = true) ∧ s.size ≤ pos + gf ∧ pos ≤ s.size)
  case atStart => exact ⟨0, World.iter_heap w s 0, (Below.refl _ _).alloc (Nat.le_refl _) _, fun j hj => by omega, by omega, by omega⟩
  case round =>
    obtain ⟨pos, hit, hbw, HN, hfu, hps⟩ := hrel
    by_cases hlt : pos < s.size
    · obtain ⟨g', rfl⟩ : ∃ g', gk = g' + 1 := ⟨gk - 1, by omega⟩
      have hnx : ∀ ty, (Instr.next (.pointer (some ⟨w.heap.size, 0, none⟩)) true ty).run Tryz.prog wr = _ := fun ty => Lib.run_next_any_at wr w.heap.size s pos ty hit hlt
      obtain ⟨W, hW⟩ : ∃ W, wr.iterAt w.heap.size s (pos + (Utf8.decode s pos).2) = W := ⟨_, rfl⟩
      have hit2 := Lib.iterAt_heap wr w.heap.size s pos (pos + (Utf8.decode s pos).2) hit
      have hbw2 := Lib.below_iterAt hbw (k := w.heap.size) (Nat.le_refl _) s (pos + (Utf8.decode s pos).2)
      rw [hW] at hnx hit2 hbw2
      have hpz : (pos : Int) = 0 ∨ ¬ (pos : Int) = 0 := by omega
      clear hW hit hbw
      by_cases hb : b s pos < 128
      · rw [dec_low s pos hlt hb] at hnx hit2
        have hok : okAt s pos = (ltr (b s pos) || dgt (b s pos) || (!decide (pos = 0) && mrk (b s pos))) := rfl
        obtain ⟨c, hc⟩ : ∃ c, b s pos = c := ⟨_, rfl⟩
        rw [hc] at hnx hb hok
        clear hc
        go_wp2_with fail
        refine (letter_any _ _).mono ?_
        rintro e w' ⟨rfl, rfl⟩
        cases hl : ltr c
        · go_wp2_with fail
          refine (digit_any _ _).mono ?_
          rintro e w' ⟨rfl, rfl⟩
          cases hd : dgt c
          · rcases hpz with hz | hz
            · have hz0 : pos = 0 := by omega
              subst hz0
              have hF : G = false := by
                rw [← HG.out]
                exact decide_eq_false fun h => by
                  have := h.2 0 hlt
                  rw [hok, hl, hd] at this
                  simp at this
              subst hF
              clear hok HG
              go_wp2_with fail
              go_ret
              exact ⟨rfl, hbw2⟩
            · have hz0 : ¬ pos = 0 := by omega
              go_wp2_with fail
              refine (mark_any _ _).mono ?_
              rintro e w' ⟨rfl, rfl⟩
              cases hm : mrk c
              · have hF : G = false := by
                  rw [← HG.out]
                  exact decide_eq_false fun h => by
                    have := h.2 pos hlt
                    rw [hok, hl, hd, hm] at this
                    simp at this
                subst hF
                clear hok HG
                go_wp2_with fail
                go_ret
                exact ⟨rfl, hbw2⟩
              · have hT : okAt s pos = true := by rw [hok, hm]; simp [hz0]
                have HM := Lib.hid (more HN.out hT)
                clear hok HN hT
                go_wp2_with fail
                go_roundg g'
                case measure => omega
                case rel => exact ⟨pos + 1, hit2, hbw2, HM, by omega, by omega⟩
          · have hT : okAt s pos = true := by rw [hok, hd]; simp
            have HM := Lib.hid (more HN.out hT)
            clear hok HN hT
            go_wp2_with fail
            go_roundg g'
            case measure => omega
            case rel => exact ⟨pos + 1, hit2, hbw2, HM, by omega, by omega⟩
        · have hT : okAt s pos = true := by rw [hok, hl]; simp
          have HM := Lib.hid (more HN.out hT)
          clear hok HN hT
          go_wp2_with fail
          go_roundg g'
          case measure => omega
          case rel => exact ⟨pos + 1, hit2, hbw2, HM, by omega, by omega⟩
      · have hr : 128 ≤ (Utf8.decode s pos).1 := by
          rcases dec_high s pos hlt (by omega) with ⟨_, hd⟩ | ⟨_, _, _, hr⟩
          · rw [hd]; decide
          · exact hr
        have hF : G = false := by
          rw [← HG.out]
          exact decide_eq_false fun h => by
            have := h.2 pos hlt
            rw [okAt_high (by omega)] at this
            simp at this
        subst hF
        obtain ⟨R, hR⟩ : ∃ R, (Utf8.decode s pos).1 = R := ⟨_, rfl⟩
        rw [hR] at hnx hr
        obtain ⟨N, hNN⟩ : ∃ N, (Utf8.decode s pos).2 = N := ⟨_, rfl⟩
        rw [hNN] at hit2
        clear hR HG hNN HN
        go_wp2_with fail
        refine (letter_any _ _).mono ?_
        rintro e w' ⟨rfl, rfl⟩
        rw [show ltr R = false by unfold ltr; simp; omega]
        go_wp2_with fail
        refine (digit_any _ _).mono ?_
        rintro e w' ⟨rfl, rfl⟩
        rw [show dgt R = false by unfold dgt; simp; omega]
        rcases hpz with hz | hz
        · go_wp2_with fail
          go_ret
          exact ⟨rfl, hbw2⟩
        · go_wp2_with fail
          refine (mark_any _ _).mono ?_
          rintro e w' ⟨rfl, rfl⟩
          rw [show mrk R = false by unfold mrk; simp; omega]
          go_wp2_with fail
          go_ret
          exact ⟨rfl, hbw2⟩
    · have hne : ∀ ty, (Instr.next (.pointer (some ⟨w.heap.size, 0, none⟩)) true ty).run Tryz.prog wr = _ := fun ty => Lib.run_next_end_at wr w.heap.size s pos ty hit hlt
      have hT : G = true := by
        rw [← HG.out]
        exact decide_eq_true ⟨⟨by omega, by omega⟩, fun j hj => HN.out j (by omega)⟩
      subst hT
      go_wp2_with fail
      go_ret
      exact ⟨rfl, hbw⟩
/-- The number that the first i bytes are. -/
def valP (s : ByteArray) : Nat → Nat
  | 0 => 0
  | i + 1 => 10 * valP s i + (b s i - 48)
def numOK (s : ByteArray) : Prop := ((1 ≤ s.size ∧ s.size ≤ 9) ∧ ¬ (1 < s.size ∧ b s 0 = 48)) ∧ ∀ j, j < s.size → dgt (b s j) = true
instance (s : ByteArray) : Decidable (numOK s) := inferInstanceAs (Decidable (_ ∧ _))
def numOf (s : ByteArray) : Nat := if numOK s then valP s s.size else 0
theorem valP_lt (s : ByteArray) : ∀ i, (∀ j, j < i → dgt (b s j) = true) → valP s i + 1 ≤ 10 ^ i
  | 0, _ => by simp [valP]
  | i + 1, h => by
    have h1 := valP_lt s i fun j hj => h j (by omega)
    have h2 := h i (by omega)
    have h3 : b s i - 48 ≤ 9 := by unfold dgt at h2; simp at h2; omega
    show 10 * valP s i + (b s i - 48) + 1 ≤ _
    rw [Nat.pow_succ]; omega
theorem valP_le (s : ByteArray) (i : Nat) (hi : i ≤ 9) (h : ∀ j, j < i → dgt (b s j) = true) : valP s i ≤ 999999999 := by
  have h1 := valP_lt s i h
  have h2 : 10 ^ i ≤ 10 ^ 9 := Nat.pow_le_pow_right (by omega) hi
  have h3 : (10 : Nat) ^ 9 = 1000000000 := by decide
  omega
theorem num_no {s : ByteArray} {G : Nat × Bool} (h : (numOf s, decide (numOK s)) = G) (hn : ¬ numOK s) : G = (0, false) := by
  rw [← h, decide_eq_false hn]; unfold numOf; rw [if_neg hn]
theorem num_yes {s : ByteArray} {G : Nat × Bool} (h : (numOf s, decide (numOK s)) = G) (hn : numOK s) : G = (valP s s.size, true) := by
  rw [← h, decide_eq_true hn]; unfold numOf; rw [if_pos hn]
set_option maxRecDepth 100000 in
set_option maxHeartbeats 2000000 in
theorem number_any (s : ByteArray) (w : World) (hs : s.size ≤ 9223372036854775807) :
    Calls Tryz.prog 88 #[.string s] w fun e w' => e = .returned (.tuple #[.int .i64 (numOf s), .bool (decide (numOK s))]) ∧ Below w.heap.size w w' := by
  obtain ⟨G, hG⟩ : ∃ G, (numOf s, decide (numOK s)) = G := ⟨_, rfl⟩
  have HG := Lib.hid hG
  obtain ⟨g1, g2⟩ := G
  obtain ⟨e1, e2⟩ := Prod.mk.inj hG
  rw [e1, e2]
  clear e1 e2 hG
  have hb := b_eq s
  go_enter Tryz.func88, Tryz.ntmps88
  by_cases h0 : s.size = 0
  · obtain ⟨rfl, rfl⟩ := Prod.mk.inj (num_no HG.out fun h => by have := h.1.1.1; omega)
    have hne : s.toList.isEmpty = true := by
      rw [Lib.toList_data]
      have : s.data.toList = [] := List.eq_nil_of_length_eq_zero (by rw [← Lib.size_eq]; exact h0)
      rw [this]; rfl
    have h1' : ¬ 1 < (s.size : Int) := by omega
    go_wp2_with fail
    go_ret2
    exact ⟨rfl, Below.refl _ _⟩
  have hne : s.toList.isEmpty = false := by
    rw [Lib.toList_data]
    cases h : s.data.toList with
    | nil => exact absurd (by rw [Lib.size_eq, h]; rfl) h0
    | cons _ _ => rfl
  have hp0 : (0 : Int) < (s.size : Int) := by omega
  have hb0 := hb 0 (by omega)
  have hbl := b_lt s 0
  obtain ⟨c, hc⟩ : ∃ c, b s 0 = c := ⟨_, rfl⟩
  rw [hc] at hb0 hbl
  by_cases hn : 1 < s.size ∧ c = 48
  · obtain ⟨rfl, rfl⟩ := Prod.mk.inj (num_no HG.out fun h => h.1.2 ⟨hn.1, by rw [hc]; exact hn.2⟩)
    obtain ⟨hn1, rfl⟩ := hn
    have hn1' : 1 < (s.size : Int) := by omega
    clear hb hc HG
    by_cases h9 : 9 < s.size
    · have h9' : 9 < (s.size : Int) := by omega
      go_wp2_with fail
      go_ret2
      exact ⟨rfl, Below.refl _ _⟩
    · have h9' : ¬ 9 < (s.size : Int) := by omega
      go_wp2_with fail
      go_ret2
      exact ⟨rfl, Below.refl _ _⟩
  · have hcase : ¬ (1 < (s.size : Int)) ∨ (1 < (s.size : Int) ∧ ¬ ((c : Int) = 48) ∧ ((c : Int) == 48) = false) := by
      by_cases h1 : 1 < s.size
      · exact .inr ⟨by omega, by omega, by simp; omega⟩
      · exact .inl (by omega)
    by_cases h9 : 9 < s.size
    · have h9' : 9 < (s.size : Int) := by omega
      obtain ⟨rfl, rfl⟩ := Prod.mk.inj (num_no HG.out fun h => by have := h.1.1.2; omega)
      clear hb hc HG hn
      rcases hcase with h1 | ⟨h1, h2, h3⟩
      · omega
      · go_wp2_with fail
        go_ret2
        exact ⟨rfl, Below.refl _ _⟩
    · have h9' : ¬ 9 < (s.size : Int) := by omega
      have HYES := Lib.hid (show (∀ j, j < s.size → dgt (b s j) = true) → numOK s from fun h => ⟨⟨⟨by omega, by omega⟩, by rw [hc]; exact hn⟩, h⟩)
      clear hb hc hn
      rcases hcase with h1 | ⟨h1, h2, h3⟩
      all_goals
        go_wp2_with fail
        clear hb0 hbl
        go_loopg [5] s.size (fun gf s5 wx => ∃ pos : Nat, s5 = .int .i64 (valP s pos) ∧ wx.heap[w.heap.size]? = some (.stringIter s pos) ∧ Below w.heap.size w wx ∧ Hid (∀ j, j < pos → dgt (b s j) = true) ∧ s.size ≤ pos + gf ∧ pos ≤ s.size)
        case atStart => exact ⟨0, rfl, World.iter_heap w s 0, (Below.refl _ _).alloc (Nat.le_refl _) _, fun j hj => by omega, by omega, by omega⟩
        case round =>
          obtain ⟨pos, rfl, hit, hbw, HN, hfu, hps⟩ := hrel
          by_cases hlt : pos < s.size
          · obtain ⟨g', rfl⟩ : ∃ g', gk = g' + 1 := ⟨gk - 1, by omega⟩
            have hnx : ∀ ty, (Instr.next (.pointer (some ⟨w.heap.size, 0, none⟩)) true ty).run Tryz.prog wr = _ := fun ty => Lib.run_next_any_at wr w.heap.size s pos ty hit hlt
            obtain ⟨W, hW⟩ : ∃ W, wr.iterAt w.heap.size s (pos + (Utf8.decode s pos).2) = W := ⟨_, rfl⟩
            have hit2 := Lib.iterAt_heap wr w.heap.size s pos (pos + (Utf8.decode s pos).2) hit
            have hbw2 := Lib.below_iterAt hbw (k := w.heap.size) (Nat.le_refl _) s (pos + (Utf8.decode s pos).2)
            rw [hW] at hnx hit2 hbw2
            clear hW hit hbw
            have hv := valP_le s pos (by omega) HN.out
            have hvs : valP s (pos + 1) = 10 * valP s pos + (b s pos - 48) := rfl
            obtain ⟨v, hvv⟩ : ∃ v, valP s pos = v := ⟨_, rfl⟩
            rw [hvv] at hv hvs ⊢
            clear hvv
            by_cases hb : dgt (b s pos) = true
            · have hd : 48 ≤ b s pos ∧ b s pos ≤ 57 := by unfold dgt at hb; simp at hb; omega
              rw [dec_low s pos hlt (by omega)] at hnx hit2
              have HM := Lib.hid (more HN.out hb)
              obtain ⟨c, hc⟩ : ∃ c, b s pos = c := ⟨_, rfl⟩
              rw [hc] at hnx hd hvs hb
              have hd1 : 48 ≤ (c : Int) := by omega
              have hd2 : (c : Int) ≤ 57 := by omega
              have hv1 : (v : Int) ≤ 999999999 := by omega
              clear hc HN
              go_wp2_with fail
              refine (digit_any _ _).mono ?_
              rintro e w' ⟨rfl, rfl⟩
              rw [hb]
              clear hb
              go_wp2_with fail
              go_roundg g'
              case measure => omega
              case rel => exact ⟨pos + 1, by rw [hvs]; go_num, hit2, hbw2, HM, by omega, by omega⟩
            · obtain ⟨rfl, rfl⟩ := Prod.mk.inj (num_no HG.out fun h => hb (h.2 pos hlt))
              have hr : dgt (Utf8.decode s pos).1 = false := by
                by_cases hl : b s pos < 128
                · rw [dec_low s pos hlt hl]; exact Bool.eq_false_iff.2 hb
                · rcases dec_high s pos hlt (by omega) with ⟨_, hd⟩ | ⟨_, _, _, hr⟩
                  · rw [hd]; decide
                  · unfold dgt; simp; omega
              obtain ⟨R, hR⟩ : ∃ R, (Utf8.decode s pos).1 = R := ⟨_, rfl⟩
              rw [hR] at hnx hr
              obtain ⟨N, hNN⟩ : ∃ N, (Utf8.decode s pos).2 = N := ⟨_, rfl⟩
              rw [hNN] at hit2
              clear hR HG hNN HN hb hvs
              go_wp2_with fail
              refine (digit_any _ _).mono ?_
              rintro e w' ⟨rfl, rfl⟩
              rw [hr]
              clear hr
              go_wp2_with fail
              go_ret2
              exact ⟨rfl, hbw2⟩
          · have hne : ∀ ty, (Instr.next (.pointer (some ⟨w.heap.size, 0, none⟩)) true ty).run Tryz.prog wr = _ := fun ty => Lib.run_next_end_at wr w.heap.size s pos ty hit hlt
            have hpe : pos = s.size := by omega
            subst hpe
            obtain ⟨rfl, rfl⟩ := Prod.mk.inj (num_yes HG.out (HYES.out HN.out))
            clear HG HYES HN
            go_wp2_with fail
            go_ret2
            exact ⟨rfl, hbw⟩
end Txt
end Go.Proofs.YtapmpdljapbpeaaGreatDoor

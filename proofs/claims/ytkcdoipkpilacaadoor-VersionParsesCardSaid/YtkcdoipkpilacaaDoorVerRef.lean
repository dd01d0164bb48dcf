/-
The reference's Part: by ranks, sign by sign, and by digits behind the noughts.
-/
import Derived.Test.YtkcdoipkpilacaaDoorVerPart
import Derived.Deep.QuietTactic
namespace Go.Proofs.YtkcdoipkpilacaaDoor
open Go.RowKit
set_option linter.unusedSimpArgs false
set_option linter.unusedVariables false
namespace Ver
open Txt (b b_eq b_lt)
def rkd : Bs → Int
  | [] => 0
  | c :: _ => if dig c then 0 else rk c
theorem at_sigs (l : Bs) (i : Nat) (h : i ≤ spn false l) : rkd (l.drop i) = rk0 ((sigs l).drop i) := by
  have hl := spn_le false l
  by_cases e : i = spn false l
  · subst e
    have h1 := spn_drop false l
    change headIs true (l.drop _) at h1
    rw [show (sigs l).drop (spn false l) = [] from List.drop_eq_nil_of_le (by unfold sigs; rw [List.length_take]; omega)]
    cases hb : l.drop (spn false l) with
    | nil => rfl
    | cons c r =>
      rw [hb] at h1
      have h1' : dig c = true := h1
      show (if dig c then 0 else rk c) = 0
      rw [if_pos h1']
  · have hi : i < l.length := by omega
    have hs : i < (sigs l).length := by unfold sigs; rw [List.length_take]; omega
    rw [List.drop_eq_getElem_cons hi, List.drop_eq_getElem_cons hs]
    have hg : (sigs l)[i] = l[i] := List.getElem_take
    rw [hg]
    have := spn_take false l (l[i]) (by
      change _ ∈ sigs l
      rw [← hg]; exact List.getElem_mem hs)
    show (if dig l[i] then 0 else rk l[i]) = rk l[i]
    rw [if_neg (by rw [this]; simp)]
theorem sigs_len (l : Bs) : (sigs l).length = spn false l := by unfold sigs; rw [List.length_take]; have := spn_le false l; omega
theorem rk0_zero {x : Bs} (h : rk0 x = 0) : x = [] := by
  cases x with
  | nil => rfl
  | cons c x => exact absurd h (rk_ne c)
theorem strip_app : ∀ (d r : Bs), headNo dig r → strip (d ++ r) = strip d ++ r
  | [], r, h => by
    cases r with
    | nil => rfl
    | cons c r =>
      have hc : dig c = false := h
      have : c ≠ 48 := fun e => by subst e; exact absurd hc (by decide)
      show strip (c :: r) = c :: r
      unfold strip; rw [if_neg this]
  | c :: d, r, h => by
    rw [List.cons_append]
    unfold strip
    by_cases e : c = 48
    · rw [if_pos e, if_pos e, strip_app d r h]
    · rw [if_neg e, if_neg e]; rfl
theorem spn_app : ∀ (d r : Bs), (∀ c ∈ d, dig c = true) → headNo dig r → spn true (d ++ r) = d.length
  | [], r, _, h => by
    cases r with
    | nil => rfl
    | cons c r =>
      have hc : dig c = false := h
      show spn true (c :: r) = 0
      unfold spn; rw [if_neg (by rw [hc]; simp)]
  | c :: d, r, hd, h => by
    rw [List.cons_append]
    unfold spn
    rw [if_pos (hd c (.head _)), spn_app d r (fun x hx => hd x (.tail _ hx)) h, List.length_cons]
theorem behind_nums (l : Bs) : behind l = nums l ++ rest l := by unfold nums rest; rw [List.take_append_drop]
theorem nums_dig (l : Bs) : ∀ c ∈ nums l, dig c = true := spn_take true (behind l)
theorem strip_behind (l : Bs) : strip (behind l) = strip (nums l) ++ rest l := by rw [behind_nums l, strip_app _ _ (rest_head l)]
theorem run_skip (l : Bs) : spn true (strip (behind l)) = (strip (nums l)).length := by
  rw [strip_behind, spn_app _ _ (fun c h => nums_dig l c (strip_sub _ c h)) (rest_head l)]
set_option maxRecDepth 100000 in
theorem yrank_any (s : ByteArray) (i : Nat) (w : World) (hs : s.size ≤ 9223372036854775807) :
    Calls Tryd.prog 40 #[.string s, .int .i64 i] w fun e w' => e = .returned (.int .i64 (rkd ((li s).drop i))) ∧ w' = w := by
  obtain ⟨G, hG⟩ : ∃ G, rkd ((li s).drop i) = G := ⟨_, rfl⟩
  have HG := Lib.hid hG
  rw [hG]
  clear hG
  by_cases hlt : i < s.size
  · have hlt' : (i : Int) < (s.size : Int) := by omega
    have hge : ¬ (s.size : Int) ≤ (i : Int) := by omega
    have hG : G = if digN (b s i) = true then 0 else if b s i = 126 then -1 else if alfN (b s i) = true then 1 + (b s i : Int) else 300 + (b s i : Int) := by
      obtain ⟨c, hc, hb⟩ := li_drop s i hlt
      rw [← HG.out, hc, ← hb]
      show (if dig c then 0 else rk c) = _
      rw [dig_n]
      unfold rk
      rw [alf_n]
      have : (c = 126) = (c.toNat = 126) := by rw [← UInt8.toNat_inj]; rfl
      simp only [this]
    have hbc := b_eq s i hlt
    have hbl := b_lt s i
    obtain ⟨c, hc⟩ : ∃ c, b s i = c := ⟨_, rfl⟩
    rw [hc] at hbc hbl hG
    clear hc HG
    go_enter Tryd.func40, Tryd.ntmps40
    go_wp2_with fail
    refine (ydigit_any _ _).mono ?_
    rintro e w' ⟨rfl, rfl⟩
    cases hd : digN c
    · rw [hd, if_neg (by simp)] at hG
      by_cases h126 : c = 126
      · subst h126
        rw [if_pos rfl] at hG
        subst hG
        go_wp2_with fail
        go_ret
        exact ⟨rfl, rfl⟩
      · rw [if_neg h126] at hG
        have h126' : ¬ (c : Int) = 126 := by omega
        go_wp2_with fail
        refine (yletter_any _ _).mono ?_
        rintro e w' ⟨rfl, rfl⟩
        cases ha : alfN c
        · rw [ha, if_neg (by simp)] at hG
          go_wp2_with fail
          go_ret
          subst hG
          exact ⟨by first | rfl | (congr 2; omega), rfl⟩
        · rw [ha, if_pos rfl] at hG
          go_wp2_with fail
          go_ret
          subst hG
          exact ⟨by first | rfl | (congr 2; omega), rfl⟩
    · rw [hd, if_pos rfl] at hG
      subst hG
      go_wp2_with fail
      go_ret
      exact ⟨rfl, rfl⟩
  · have hge : (s.size : Int) ≤ (i : Int) := by omega
    have hG : G = 0 := by rw [← HG.out, List.drop_eq_nil_of_le (by rw [li_len]; omega)]; rfl
    subst hG
    clear HG
    go_enter Tryd.func40, Tryd.ntmps40
    go_wp2_with fail
    go_ret
    exact ⟨rfl, rfl⟩
theorem ysign_any (x y : Int) (w : World) : Calls Tryd.prog 41 #[.int .i64 x, .int .i64 y] w fun e w' => e = .returned (.int .i64 (sgn x y)) ∧ w' = w := by
  by_cases h1 : x < y
  · rw [show sgn x y = -1 by unfold sgn; rw [if_pos h1]]
    go_enter Tryd.func41, Tryd.ntmps41
    go_wp2_with fail
    go_ret
    exact ⟨rfl, rfl⟩
  · by_cases h2 : y < x
    · rw [show sgn x y = 1 by unfold sgn; rw [if_neg h1, if_pos h2]]
      go_enter Tryd.func41, Tryd.ntmps41
      go_wp2_with fail
      go_ret
      exact ⟨rfl, rfl⟩
    · rw [show sgn x y = 0 by unfold sgn; rw [if_neg h1, if_neg h2]]
      go_enter Tryd.func41, Tryd.ntmps41
      go_wp2_with fail
      go_ret
      exact ⟨rfl, rfl⟩
set_option maxRecDepth 100000 in
theorem yrun_any (s : ByteArray) (w : World) (hs : s.size ≤ 4611686018427387904) :
    Calls Tryd.prog 43 #[.string s] w fun e w' => e = .returned (.int .i64 (spn true (li s))) ∧ w' = w := by
  obtain ⟨G, hG⟩ : ∃ G, spn true (li s) = G := ⟨_, rfl⟩
  have HG := Lib.hid hG
  rw [hG]
  clear hG
  go_enter Tryd.func43, Tryd.ntmps43
  go_wp2
  go_loopg [3] s.size (fun gf s3 wx => ∃ pos : Nat, s3 = .int .i64 pos ∧ wx = w ∧ Hid (pos + spn true ((li s).drop pos) = G) ∧ s.size ≤ pos + gf ∧ pos ≤ s.size)
  case atStart => exact ⟨0, rfl, rfl, (by rw [List.drop_zero, Nat.zero_add]; exact HG.out), by omega, by omega⟩
  case round =>
    obtain ⟨pos, rfl, rfl, HN, hfu, hps⟩ := hrel
    by_cases hlt : pos < s.size
    · obtain ⟨g', rfl⟩ : ∃ g', gk = g' + 1 := ⟨gk - 1, by omega⟩
      have hlt' : (pos : Int) < (s.size : Int) := by omega
      have hbc := b_eq s pos hlt
      have hbl := b_lt s pos
      have hm := fun h => spn_more hlt h HN.out
      have ht := fun h => spn_stop hlt h HN.out
      obtain ⟨c, hc⟩ : ∃ c, b s pos = c := ⟨_, rfl⟩
      rw [hc] at hbc hbl hm ht
      clear hc
      go_wp2_with fail
      refine (ydigit_any _ _).mono ?_
      rintro e w' ⟨rfl, rfl⟩
      cases hd : digN c
      · obtain rfl := ht (by rw [hd]; simp)
        clear hm ht HN HG
        go_wp2_with fail
        go_ret
        exact ⟨rfl, rfl⟩
      · have HM := Lib.hid (hm hd)
        clear hm ht HN
        go_wp2_with fail
        go_roundg g'
        case measure => omega
        case rel => exact ⟨pos + 1, by go_num, rfl, HM, by omega, by omega⟩
    · have hge : ¬ (pos : Int) < (s.size : Int) := by omega
      obtain rfl := spn_end hlt HN.out
      clear HN HG
      go_wp2_with fail
      go_ret
      exact ⟨rfl, rfl⟩
theorem behind_more {c : UInt8} {r : Bs} (h : dig c = false) : behind (c :: r) = behind r := by
  unfold behind
  rw [show spn false (c :: r) = spn false r + 1 by rw [spn, if_pos h], List.drop_succ_cons]
theorem behind_stop {l : Bs} (h : headIs true l) : behind l = l := by
  unfold behind
  cases l with
  | nil => rfl
  | cons c r =>
    have hc : dig c = true := h
    rw [show spn false (c :: r) = 0 by rw [spn, if_neg (by rw [hc]; simp)], List.drop_zero]
set_option maxRecDepth 100000 in
set_option maxHeartbeats 2000000 in
theorem yskip_any (s : ByteArray) (w : World) (hs : s.size ≤ 4611686018427387904) :
    Calls Tryd.prog 42 #[.string s] w fun e w' => ∃ t, e = .returned (.string t) ∧ li t = strip (behind (li s)) ∧ w' = w := by
  obtain ⟨G, hG⟩ : ∃ G, strip (behind (li s)) = G := ⟨_, rfl⟩
  have HG := Lib.hid hG
  rw [hG]
  clear hG
  go_enter Tryd.func42, Tryd.ntmps42
  go_wp2
  go_loopg [0] s.size (fun gf s0 wx => ∃ x : ByteArray, s0 = .string x ∧ wx = w ∧ Hid (strip (behind (li x)) = G) ∧ x.size ≤ gf ∧ x.size ≤ s.size)
  case atStart => exact ⟨s, rfl, rfl, HG.out, by omega, by omega⟩
  case round =>
    obtain ⟨x, rfl, rfl, HN, hfu, hxs⟩ := hrel
    by_cases h0 : x.size = 0
    · obtain ⟨e1, e2⟩ := empty_is h0
      have hG : G = [] := by rw [← HN.out, e2]; rfl
      subst hG
      have HE := Lib.hid e2
      clear HN HG e2 h0
      go_wp2_with fail
      go_loopg [0] 0 (fun gf s0 wx => s0 = .string x ∧ wx = wr)
      case atStart => exact ⟨rfl, rfl⟩
      case round =>
        obtain ⟨rfl, rfl⟩ := hrel
        go_wp2_with fail
        go_ret
        exact ⟨x, rfl, HE.out, rfl⟩
    · obtain ⟨e1, e2⟩ := empty_no h0
      obtain ⟨c, hc, hcb⟩ := li_drop x 0 (by omega)
      rw [List.drop_zero] at hc
      have hlt : (0 : Int) < (x.size : Int) := by omega
      have hbc := b_eq x 0 (by omega)
      rw [← hcb] at hbc
      have hbl := UInt8.toNat_lt c
      have hd1 : li (x.extract 1 x.size) = (li x).drop 1 := li_ext_end x 1
      have hz1 : (x.extract 1 x.size).size = x.size - 1 := by simp [ByteArray.size_extract]
      obtain ⟨g', rfl⟩ : ∃ g', gk = g' + 1 := ⟨gk - 1, by omega⟩
      cases hd : digN c.toNat
      · have hb : strip (behind (li (x.extract 1 x.size))) = G := by
          rw [hd1, ← HN.out, hc, behind_more (by rw [dig_n]; exact hd)]
          rfl
        have HB := Lib.hid hb
        have HZ := Lib.hid hz1
        have cd := ydigit_any c.toNat wr
        rw [hd] at cd
        have h1 : (1 : Int) ≤ (x.size : Int) := by omega
        clear hb hz1 hd1 hc HN e2 hcb hd
        go_wp2_with fail
        refine cd.mono ?_
        rintro e w' ⟨rfl, rfl⟩
        go_wp2_with fail
        go_roundg g'
        case measure => omega
        case rel => exact ⟨_, rfl, rfl, HB, by rw [HZ.out]; omega, by rw [HZ.out]; omega⟩
      · have hb : strip (li x) = G := by
          rw [← HN.out, behind_stop (by rw [hc]; show dig c = true; rw [dig_n]; exact hd)]
        have HB := Lib.hid hb
        have cd := ydigit_any c.toNat wr
        rw [hd] at cd
        clear hb hz1 hd1 hc HN e2 hcb hd HG
        go_wp2_with fail
        refine cd.mono ?_
        rintro e w' ⟨rfl, rfl⟩
        clear cd hbc hlt e1 hbl
        go_wp2_with fail
        go_loopg [0] x.size (fun gf s0 wx => ∃ y : ByteArray, s0 = .string y ∧ wx = w' ∧ Hid (strip (li y) = G) ∧ y.size ≤ gf ∧ y.size ≤ s.size)
        case atStart => exact ⟨x, rfl, rfl, HB.out, by omega, by omega⟩
        case round =>
          obtain ⟨y, rfl, rfl, HN, hfu2, hys⟩ := hrel
          by_cases k0 : y.size = 0
          · obtain ⟨e1, e2⟩ := empty_is k0
            have hG : G = [] := by rw [← HN.out, e2]; rfl
            subst hG
            have HE := Lib.hid e2
            clear HN e2 k0
            go_wp2_with fail
            go_ret
            exact ⟨y, rfl, HE.out, rfl⟩
          · obtain ⟨e1, e2⟩ := empty_no k0
            obtain ⟨d, hc, hcb⟩ := li_drop y 0 (by omega)
            rw [List.drop_zero] at hc
            have hlt : (0 : Int) < (y.size : Int) := by omega
            have hbc := b_eq y 0 (by omega)
            rw [← hcb] at hbc
            have hbl := UInt8.toNat_lt d
            have hd1 : li (y.extract 1 y.size) = (li y).drop 1 := li_ext_end y 1
            have hz1 : (y.extract 1 y.size).size = y.size - 1 := by simp [ByteArray.size_extract]
            have hN := HN.out
            rw [hc] at hN
            rw [hc, List.drop_succ_cons, List.drop_zero] at hd1
            unfold strip at hN
            obtain ⟨g2, rfl⟩ : ∃ g2, gk = g2 + 1 := ⟨gk - 1, by omega⟩
            have h1 : (1 : Int) ≤ (y.size : Int) := by omega
            by_cases h48 : d.toNat = 48
            · have h48' : d = 48 := UInt8.toNat_inj.1 (by simpa using h48)
              rw [if_pos h48', ← hd1] at hN
              have HB := Lib.hid hN
              have HZ := Lib.hid hz1
              rw [h48] at hbc
              clear hN hz1 hd1 hc HN e2 hcb h48 h48'
              go_wp2_with fail
              go_roundg g2
              case measure => omega
              case rel => exact ⟨_, rfl, rfl, HB, by rw [HZ.out]; omega, by rw [HZ.out]; omega⟩
            · have h48' : d ≠ 48 := fun e => h48 (by subst e; rfl)
              rw [if_neg h48'] at hN
              have HB := Lib.hid (hc.trans hN)
              have h48i : ¬ (d.toNat : Int) = 48 := by omega
              have h48b : ((d.toNat : Int) == 48) = false := by simp; omega
              clear hN hz1 hd1 hc HN e2 hcb h48 h48'
              go_wp2_with fail
              go_ret
              exact ⟨y, rfl, HB.out, rfl⟩
end Ver
end Go.Proofs.YtkcdoipkpilacaaDoor

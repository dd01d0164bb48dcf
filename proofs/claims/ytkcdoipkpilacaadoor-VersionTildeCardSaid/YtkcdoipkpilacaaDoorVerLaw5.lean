/-
With a sign and more behind it: the walk of the law VersionTilde.
-/
import Derived.Test.YtkcdoipkpilacaaDoorVerAwake
namespace Go.Proofs.YtkcdoipkpilacaaDoor
open Go.RowKit
set_option linter.unusedSimpArgs false
set_option linter.unusedVariables false
namespace Ver
open Txt (b b_eq b_lt)
theorem cut1_app (x : UInt8) (y : Bs) (h : x ∉ y) : ∀ l : Bs, cut1 x (l ++ y) = (cut1 x l).map fun p => (p.1, p.2 ++ y)
  | [] => by rw [List.nil_append, cut1_no x y h]; rfl
  | c :: l => by
    rw [List.cons_append, cut1, cut1]
    by_cases hc : c = x
    · rw [if_pos hc, if_pos hc]; rfl
    · rw [if_neg hc, if_neg hc, cut1_app x y h l]
      cases cut1 x l <;> rfl
theorem cutZ_app (x : UInt8) (y : Bs) (h : x ∉ y) : ∀ l : Bs, cutZ x (l ++ y) = (cutZ x l).map fun p => (p.1, p.2 ++ y)
  | [] => by rw [List.nil_append, cutZ_no x y h]; rfl
  | c :: l => by
    rw [List.cons_append, cutZ, cutZ, cutZ_app x y h l]
    cases cutZ x l with
    | some p => rfl
    | none =>
      by_cases hc : c = x
      · simp [hc]
      · simp [hc]
theorem epF_app (l y : Bs) (h : (58 : UInt8) ∉ y) : epF (l ++ y) = ((epF l).1, (epF l).2.1 ++ y, (epF l).2.2) := by
  unfold epF
  rw [cut1_app 58 y h]
  cases cut1 58 l <;> rfl
theorem parse_split {l : Bs} {p : Bs × Bs × Bs} (h : parse l = some p) : (epF l).2.2 = true ∧ (rvF (epF l).2.1).2.2 = true ∧ p = ((epF l).1, (rvF (epF l).2.1).1, (rvF (epF l).2.1).2.1) := by
  by_cases hl : 1 ≤ l.length ∧ l.length ≤ 48
  · cases he : (epF l).2.2
    · rw [parse_ep he] at h; cases h
    · cases hr : (rvF (epF l).2.1).2.2
      · rw [parse_rv he hr] at h; cases h
      · rw [parse_up hl he hr] at h
        cases hu : upOK (rvF (epF l).2.1).1
        · rw [hu] at h; simp at h
        · rw [hu, if_pos rfl] at h
          cases h
          exact ⟨rfl, rfl, rfl⟩
  · rw [parse_size hl] at h; cases h
theorem parse_rev_len {l : Bs} {p : Bs × Bs × Bs} (h : parse l = some p) : p.2.2.length ≤ l.length := by
  obtain ⟨_, _, rfl⟩ := parse_split h
  have l1 := epF_len l
  have l3 : (rvF (epF l).2.1).2.1.length ≤ (epF l).2.1.length := by
    unfold rvF
    cases hc : cutZ 45 (epF l).2.1 with
    | none => exact Nat.zero_le _
    | some p =>
      have := congrArg List.length (cutZ_parts _ _ p.1 p.2 hc)
      rw [List.length_append, List.length_cons] at this
      show p.2.length ≤ _
      omega
  show (rvF (epF l).2.1).2.1.length ≤ _
  omega
theorem orr_self_left (p : Int) : orr 0 p = p := orr_zero p
theorem cmp_more {l t : Bs} {c : UInt8} (hc : dig c = false) (h45 : (45 : UInt8) ∉ c :: t) (h58 : (58 : UInt8) ∉ c :: t) (h1 : (parse l).isSome = true) (h2 : (parse (l ++ c :: t)).isSome = true) : cmpV (l ++ c :: t) l = sgn (rk c) 0 := by
  unfold cmpV
  cases hp : parse l with
  | none => rw [hp] at h1; cases h1
  | some p =>
    cases hq : parse (l ++ c :: t) with
    | none => rw [hq] at h2; cases h2
    | some q =>
      show cmpP q p = _
      obtain ⟨_, _, rfl⟩ := parse_split hp
      obtain ⟨_, _, rfl⟩ := parse_split hq
      unfold cmpP
      rw [epF_app l _ h58]
      simp only
      rw [show part (epF l).1 (epF l).1 = 0 from lex_self _, orr_zero]
      unfold rvF
      rw [cutZ_app 45 _ h45]
      cases cutZ 45 (epF l).2.1 with
      | none =>
        simp only [Option.map_none]
        rw [part_more _ t c hc, orr_ne (sgn_ne (rk_ne c))]
      | some r =>
        simp only [Option.map_some]
        rw [show part r.1 r.1 = 0 from lex_self _, orr_zero, part_more _ t c hc]
theorem li_app (x y : ByteArray) : li (x ++ y) = li x ++ li y := by
  show (x ++ y).data.toList = _
  rw [ByteArray.data_append, Array.toList_append]
theorem no_marks {t : ByteArray} (h : ∀ j, j < t.size → b t j ≠ 45 ∧ b t j ≠ 58) : (45 : UInt8) ∉ li t ∧ (58 : UInt8) ∉ li t := by
  have e : ((li t).drop 0).take (t.size - 0) = li t := by
    rw [List.drop_zero, Nat.sub_zero, List.take_of_length_le (by rw [li_len]; exact Nat.le_refl _)]
  have h1 := no_mem (s := t) (x := 45) (i := 0) (j := t.size) fun k _ hk _ => (h k hk).1
  have h2 := no_mem (s := t) (x := 58) (i := 0) (j := t.size) fun k _ hk _ => (h k hk).2
  rw [e] at h1 h2
  exact ⟨h1, h2⟩
set_option maxRecDepth 100000 in
set_option maxHeartbeats 8000000 in
theorem tilde_walk (s0 s1 : ByteArray) (w : World) (w0 : s0.size ≤ 140737488351232) (w1 : s1.size ≤ 140737488351232) (hm : MaxLen w) :
    Calls Tryd.prog 9 #[.string s0, .string s1] w fun e w' => e = .returned (.bool true) ∧ Below w.heap.size w w' := by
  have zx : ∀ c : UInt8, (s0 ++ (⟨#[c]⟩ : ByteArray) ++ s1).size = s0.size + 1 + s1.size := fun c => by
    rw [ByteArray.size_append, ByteArray.size_append]; rfl
  have lx : ∀ c : UInt8, li (s0 ++ (⟨#[c]⟩ : ByteArray) ++ s1) = li s0 ++ c :: li s1 := fun c => by
    rw [li_app, li_app, List.append_assoc]; rfl
  have q1 : ¬ (s0.size + 1 > 9223372036854775807) := by omega
  have q2 : ¬ (s0.size + 1 + s1.size > 9223372036854775807) := by omega
  have ca := parse_any s0 w (by omega) hm
  have cb := fun w hm => parse_any (s0 ++ (⟨#[126]⟩ : ByteArray) ++ s1) w (by rw [zx]; omega) hm
  have cc := fun w hm => parse_any (s0 ++ (⟨#[43]⟩ : ByteArray) ++ s1) w (by rw [zx]; omega) hm
  have cd := fun w hm => compare_any (s0 ++ (⟨#[126]⟩ : ByteArray) ++ s1) s0 w (by rw [zx]; omega) (by omega) hm
  have ce := fun w hm => compare_any (s0 ++ (⟨#[43]⟩ : ByteArray) ++ s1) s0 w (by rw [zx]; omega) (by omega) hm
  rw [lx] at cb cc cd ce
  have hg : ∃ x y z : ByteArray, ∃ n : Int, toldV (parse (li s0)) = .tuple #[.string x, .string y, .string z, .int .i64 n] ∧ ((parse (li s0)).isSome = true ↔ n = 0) ∧ (n = 0 ∨ n = 3) ∧ (n = 0 → z.size ≤ s0.size) := by
    cases hp : parse (li s0) with
    | none => exact ⟨_, _, _, 3, rfl, by simp, .inr rfl, fun h => by omega⟩
    | some p => exact ⟨_, _, _, 0, rfl, by simp, .inl rfl, fun _ => by rw [S_size, ← li_len]; exact parse_rev_len hp⟩
  obtain ⟨a1, a2, a3, na, ea, ia, ja, za⟩ := hg
  obtain ⟨b1, b2, b3, nb, eb, ib, jb⟩ := told_shape (parse (li s0 ++ 126 :: li s1))
  obtain ⟨c1, c2, c3, nc, ec, ic, jc⟩ := told_shape (parse (li s0 ++ 43 :: li s1))
  rw [ea] at ca
  rw [eb] at cb
  rw [ec] at cc
  have hT : na = 0 → nb = 0 → (∀ j, j < s1.size → b s1 j ≠ 45 ∧ b s1 j ≠ 58) → cmpV (li s0 ++ 126 :: li s1) (li s0) = -1 := fun h1 h2 h3 => by
    obtain ⟨m1, m2⟩ := no_marks h3
    rw [cmp_more (by decide) (by simp [m1]) (by simp [m2]) (ia.2 h1) (ib.2 h2)]
    decide +kernel
  have hP : na = 0 → nc = 0 → (∀ j, j < s1.size → b s1 j ≠ 45 ∧ b s1 j ≠ 58) → cmpV (li s0 ++ 43 :: li s1) (li s0) = 1 := fun h1 h2 h3 => by
    obtain ⟨m1, m2⟩ := no_marks h3
    rw [cmp_more (by decide) (by simp [m1]) (by simp [m2]) (ia.2 h1) (ic.2 h2)]
    decide +kernel
  have HT := Lib.hid hT
  have HP := Lib.hid hP
  have HM := Lib.hid hm
  clear ea eb ec ia ib ic hT hP zx lx hm
  generalize cmpV (li s0 ++ 126 :: li s1) (li s0) = x at *
  generalize cmpV (li s0 ++ 43 :: li s1) (li s0) = y at *
  go_enter Tryd.func9, Tryd.ntmps9
  go_wp2_with fail
  refine ca.mono ?_
  rintro e u1 ⟨rfl, k1⟩
  clear ca
  go_wp2_with fail
  refine (cb _ (HM.out.on k1)).mono ?_
  rintro e u2 ⟨rfl, k⟩
  have k2 := k1.trans (k.mono k1.size)
  clear k k1 cb
  by_cases hok : na = 0 ∧ nb = 0
  · obtain ⟨rfl, rfl⟩ := hok
    have hz := za rfl
    clear za ja jb
    go_wp2_with fail
    go_loopg [44] s1.size (fun gf s44 wx => ∃ pos : Nat, s44 = .int .i64 pos ∧ wx = u2 ∧ Hid (∀ j, j < pos → b s1 j ≠ 45 ∧ b s1 j ≠ 58) ∧ s1.size ≤ pos + gf ∧ pos ≤ s1.size)
    case atStart => exact ⟨0, rfl, rfl, fun j hj => by omega, by omega, by omega⟩
    case round =>
      obtain ⟨pos, rfl, hwu, HN, hfu, hps⟩ := hrel
      have HWU := Lib.hid hwu
      rw [← hwu] at k2
      clear hwu
      by_cases hlt : pos < s1.size
      · obtain ⟨g', rfl⟩ : ∃ g', gk = g' + 1 := ⟨gk - 1, by omega⟩
        have hlt' : (pos : Int) < (s1.size : Int) := by omega
        have hbc := b_eq s1 pos hlt
        have hbl := b_lt s1 pos
        have hm2 : b s1 pos ≠ 45 → b s1 pos ≠ 58 → ∀ j, j < pos + 1 → b s1 j ≠ 45 ∧ b s1 j ≠ 58 := fun h1 h2 j hj => by
          by_cases e : j = pos
          · subst e; exact ⟨h1, h2⟩
          · exact HN.out j (by omega)
        obtain ⟨c, hcc⟩ : ∃ c, b s1 pos = c := ⟨_, rfl⟩
        rw [hcc] at hbc hbl hm2
        have HM2 := Lib.hid hm2
        clear hcc hm2 HN
        have aw := awake_any wr (HM.out.on k2)
        by_cases h45 : c = 45
        · subst h45
          clear HM2
          go_wp2_with fail
          refine aw.mono ?_
          rintro e u3 ⟨rfl, k⟩
          go_wp2_with fail
          go_ret
          exact ⟨rfl, k2.trans (k.mono k2.size)⟩
        · by_cases h58 : c = 58
          · subst h58
            clear HM2
            go_wp2_with fail
            refine aw.mono ?_
            rintro e u3 ⟨rfl, k⟩
            go_wp2_with fail
            go_ret
            exact ⟨rfl, k2.trans (k.mono k2.size)⟩
          · have HM3 := Lib.hid (HM2.out h45 h58)
            have r1 : ((c : Int) == 45) = false := by rw [beq_eq_false_iff_ne]; omega
            have r2 : ((c : Int) == 58) = false := by rw [beq_eq_false_iff_ne]; omega
            clear HM2 aw
            go_wp2_with fail
            go_roundg g'
            case measure => omega
            case rel => exact ⟨pos + 1, by go_num, HWU.out, HM3, by omega, by omega⟩
      · have hge : ¬ (pos : Int) < (s1.size : Int) := by omega
        have hall : ∀ j, j < s1.size → b s1 j ≠ 45 ∧ b s1 j ≠ 58 := fun j hj => HN.out j (by omega)
        have hx := HT.out (by simp) (by simp) hall
        have hy := fun h => HP.out (by simp) h hall
        subst hx
        clear HN hall HT HP
        go_wp2_with fail
        refine (cc _ (HM.out.on k2)).mono ?_
        rintro e u3 ⟨rfl, k⟩
        have k3 := k2.trans (k.mono k2.size)
        clear k cc
        go_wp2_with fail
        refine (cd _ (HM.out.on k3)).mono ?_
        rintro e u4 ⟨rfl, k⟩
        have k4 := k3.trans (k.mono k3.size)
        have aw := awake_any u4 (HM.out.on k4)
        clear k cd
        have hz' : (a3.size : Int) ≤ (s0.size : Int) := by omega
        rcases jc with rfl | rfl
        · have hy1 := hy rfl
          subst hy1
          clear hy
          go_wp2_with fail
          refine (ce _ (HM.out.on k4)).mono ?_
          rintro e u5 ⟨rfl, k⟩
          have k5 := k4.trans (k.mono k4.size)
          have aw5 := awake_any u5 (HM.out.on k5)
          clear k ce aw
          go_wp2_with fail
          refine aw5.mono ?_
          rintro e u6 ⟨rfl, k⟩
          go_wp2_with fail
          go_ret
          exact ⟨rfl, k5.trans (k.mono k5.size)⟩
        · clear hy ce
          go_wp2_with fail
          refine aw.mono ?_
          rintro e u6 ⟨rfl, k⟩
          go_wp2_with fail
          go_ret
          exact ⟨rfl, k4.trans (k.mono k4.size)⟩
  · have hne : na = 3 ∨ (na = 0 ∧ nb = 3) := by omega
    have aw := awake_any u2 (HM.out.on k2)
    clear za ja jb hok
    rcases hne with rfl | ⟨rfl, rfl⟩
    all_goals
      go_wp2_with fail
      refine aw.mono ?_
      rintro e u3 ⟨rfl, k⟩
      go_wp2_with fail
      go_ret
      exact ⟨rfl, k2.trans (k.mono k2.size)⟩
end Ver
end Go.Proofs.YtkcdoipkpilacaaDoor

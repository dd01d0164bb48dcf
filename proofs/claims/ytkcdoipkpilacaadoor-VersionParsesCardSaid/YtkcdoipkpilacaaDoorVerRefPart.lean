/-
The reference's Part.
-/
import Derived.Test.YtkcdoipkpilacaaDoorVerRef
namespace Go.Proofs.YtkcdoipkpilacaaDoor
open Go.RowKit
set_option linter.unusedSimpArgs false
set_option linter.unusedVariables false
namespace Ver
open Txt (b b_eq b_lt)
theorem cmp_step (x y : Bs) (i : Nat) (h1 : i < x.length) (h2 : i < y.length) : Lib.compareBytes (x.drop i) (y.drop i) = orr (sgn (x[i].toNat : Int) (y[i].toNat : Int)) (Lib.compareBytes (x.drop (i + 1)) (y.drop (i + 1))) := by
  rw [List.drop_eq_getElem_cons h1, List.drop_eq_getElem_cons h2, Lib.compareBytes]
  generalize x[i] = c
  generalize y[i] = d
  unfold sgn orr
  have e1 : (c < d) = ((c.toNat : Int) < d.toNat) := by rw [UInt8.lt_iff_toNat_lt]; simp
  have e2 : (d < c) = ((d.toNat : Int) < c.toNat) := by rw [UInt8.lt_iff_toNat_lt]; simp
  simp only [e1, e2]
  (repeat' split) <;> simp_all
theorem get_b (s : ByteArray) (i : Nat) (h : i < s.size) (h' : i < (li s).length) : (li s)[i].toNat = b s i := by
  unfold b; rw [dif_pos h]; rfl
theorem strip_len : ∀ d : Bs, (strip d).length ≤ d.length
  | [] => Nat.le_refl _
  | c :: d => by
    unfold strip
    split
    · exact Nat.le_trans (strip_len d) (by simp)
    · exact Nat.le_refl _
set_option maxRecDepth 100000 in
set_option maxHeartbeats 8000000 in
theorem ypart_any (s t : ByteArray) (w : World) (hs : s.size ≤ 4611686018427387904) (ht : t.size ≤ 4611686018427387904) :
    Calls Tryd.prog 17 #[.string s, .string t] w fun e w' => e = .returned (.int .i64 (part (li s) (li t))) ∧ Below w.heap.size w w' := by
  obtain ⟨G, hG⟩ : ∃ G, part (li s) (li t) = G := ⟨_, rfl⟩
  have HG := Lib.hid hG
  rw [hG]
  clear hG
  go_enter Tryd.func17, Tryd.ntmps17
  go_wp2
  go_loopg [0, 1] (s.size + t.size) (fun gf s0 s1 wx => ∃ x y : ByteArray, s0 = .string x ∧ s1 = .string y ∧ Below w.heap.size w wx ∧ Hid (part (li x) (li y) = G) ∧ x.size + y.size ≤ gf ∧ x.size ≤ s.size ∧ y.size ≤ t.size)
  case atStart => exact ⟨s, t, rfl, rfl, Below.refl _ _, HG.out, by omega, by omega, by omega⟩
  case round =>
    obtain ⟨x, y, rfl, rfl, hbw, HN, hfu, hx, hy⟩ := hrel
    by_cases h0 : x.size = 0 ∧ y.size = 0
    · obtain ⟨e1, e2⟩ := empty_is h0.1
      obtain ⟨e3, e4⟩ := empty_is h0.2
      have hG : G = 0 := by rw [← HN.out, e2, e4]; rfl
      subst hG
      clear HN HG e2 e4 h0
      go_wp2_with fail
      go_ret
      exact ⟨rfl, hbw⟩
    · have hstep := part_step (li x) (li y)
      rw [HN.out] at hstep
      have HS := Lib.hid hstep
      have hsel : x.toList.isEmpty = false ∨ (x.toList.isEmpty = true ∧ y.toList.isEmpty = false) := by
        by_cases hx0 : x.size = 0
        · exact .inr ⟨(empty_is hx0).1, (empty_no (by omega)).1⟩
        · exact .inl (empty_no hx0).1
      have hlen : (rest (li x)).length + (rest (li y)).length < x.size + y.size ∧ (rest (li x)).length ≤ x.size ∧ (rest (li y)).length ≤ y.size := by
        have a1 := rest_le (li x)
        have a2 := rest_le (li y)
        by_cases hx0 : x.size = 0
        · have := rest_lt (empty_no (s := y) (by omega)).2
          rw [li_len] at a1 a2 this
          omega
        · have := rest_lt (empty_no hx0).2
          rw [li_len] at a1 a2 this
          omega
      have l1 : spn false (li x) ≤ x.size := by rw [← li_len]; exact spn_le _ _
      have l2 : spn false (li y) ≤ y.size := by rw [← li_len]; exact spn_le _ _
      obtain ⟨g', rfl⟩ : ∃ g', gk = g' + 1 := ⟨gk - 1, by omega⟩
      obtain ⟨p1, hp1⟩ : ∃ p1, lex ((sigs (li x)).map rk) ((sigs (li y)).map rk) = p1 := ⟨_, rfl⟩
      have HP1 := Lib.hid hp1
      rw [hp1] at hstep
      have HS1 := Lib.hid hstep
      clear hstep HS HN hp1 HG h0
      have HLEN := Lib.hid hlen
      clear hlen
      rcases hsel with he | ⟨he1, he2⟩
      all_goals
        go_wp2_with fail
        go_loopg [5] x.size (fun gf s5 wx => ∃ i : Nat, s5 = .int .i64 i ∧ Below w.heap.size w wx ∧ Hid (lex (((sigs (li x)).drop i).map rk) (((sigs (li y)).drop i).map rk) = p1) ∧ x.size ≤ i + gf ∧ i ≤ spn false (li x) ∧ i ≤ spn false (li y))
        case atStart => exact ⟨0, rfl, hbw, (by rw [List.drop_zero, List.drop_zero]; exact HP1.out), by omega, by omega, by omega⟩
        case round =>
          obtain ⟨i, rfl, hbi, HN, hfi, hi1, hi2⟩ := hrel
          have r1 := fun w => yrank_any x i w (by omega)
          have r2 := fun w => yrank_any y i w (by omega)
          rw [at_sigs _ _ hi1] at r1
          rw [at_sigs _ _ hi2] at r2
          have k1 : rk0 ((sigs (li x)).drop i) = 0 ↔ i = spn false (li x) := by
            constructor
            · intro h
              have := List.drop_eq_nil_iff.1 (rk0_zero h)
              rw [sigs_len] at this; omega
            · intro h
              rw [List.drop_eq_nil_of_le (by rw [sigs_len]; omega)]; rfl
          have k2 : rk0 ((sigs (li y)).drop i) = 0 ↔ i = spn false (li y) := by
            constructor
            · intro h
              have := List.drop_eq_nil_iff.1 (rk0_zero h)
              rw [sigs_len] at this; omega
            · intro h
              rw [List.drop_eq_nil_of_le (by rw [sigs_len]; omega)]; rfl
          have hst : rk0 ((sigs (li x)).drop i) ≠ 0 ∨ rk0 ((sigs (li y)).drop i) ≠ 0 → orr (sgn (rk0 ((sigs (li x)).drop i)) (rk0 ((sigs (li y)).drop i))) (lex (((sigs (li x)).drop (i + 1)).map rk) (((sigs (li y)).drop (i + 1)).map rk)) = p1 := by
            intro h
            have h3 : (sigs (li x)).drop i ≠ [] ∨ (sigs (li y)).drop i ≠ [] := by
              rcases h with h | h
              · left; intro hn; rw [hn] at h; exact h rfl
              · right; intro hn; rw [hn] at h; exact h rfl
            have h4 := lex_map_step _ _ h3
            rw [tail_drop, tail_drop, HN.out] at h4
            exact h4.symm
          have hend : rk0 ((sigs (li x)).drop i) = 0 → rk0 ((sigs (li y)).drop i) = 0 → p1 = 0 := by
            intro h h'
            rw [← HN.out, rk0_zero h, rk0_zero h']; rfl
          generalize rk0 ((sigs (li x)).drop i) = A at *
          generalize rk0 ((sigs (li y)).drop i) = B at *
          by_cases hA : A = 0
          · by_cases hB : B = 0
            · have hp := hend hA hB
              have HS2 := Lib.hid (orr_of_zero HS1.out.symm hp)
              subst hA
              subst hB
              clear hend hst k1 k2 HN HS1 HP1 hp hi1 hi2
              go_wp2_with fail
              refine (r1 _).mono ?_
              rintro e w1 ⟨rfl, rfl⟩
              go_wp2_with fail
              refine (r2 _).mono ?_
              rintro e w2 ⟨rfl, rfl⟩
              clear r1 r2
              go_wp2_with fail
              refine (yskip_any x _ (by omega)).mono ?_
              rintro e w3 ⟨x1, rfl, hx1, rfl⟩
              go_wp2_with fail
              refine (yskip_any y _ (by omega)).mono ?_
              rintro e w4 ⟨y1, rfl, hy1, rfl⟩
              have m1 : spn true (li x1) = (strip (nums (li x))).length := by rw [hx1, run_skip]
              have m2 : spn true (li y1) = (strip (nums (li y))).length := by rw [hy1, run_skip]
              have sx1 : x1.size = (strip (nums (li x))).length + (rest (li x)).length := by rw [← li_len, hx1, strip_behind, List.length_append]
              have sy1 : y1.size = (strip (nums (li y))).length + (rest (li y)).length := by rw [← li_len, hy1, strip_behind, List.length_append]
              rw [strip_behind] at hx1 hy1
              have bx1 : x1.size ≤ x.size := by
                have := congrArg List.length (pieces (li x))
                rw [li_len, List.length_append, List.length_append] at this
                have h2 : (strip (nums (li x))).length ≤ (nums (li x)).length := strip_len _
                omega
              have by1 : y1.size ≤ y.size := by
                have := congrArg List.length (pieces (li y))
                rw [li_len, List.length_append, List.length_append] at this
                have h2 : (strip (nums (li y))).length ≤ (nums (li y)).length := strip_len _
                omega
              have q1 := fun w => yrun_any x1 w (by omega)
              have q2 := fun w => yrun_any y1 w (by omega)
              rw [m1] at q1
              rw [m2] at q2
              clear m1 m2
              have hs2 := HS2.out
              unfold numB at hs2
              rw [orr_orr] at hs2
              obtain ⟨hl1, hl2, hl3⟩ := HLEN.out
              generalize strip (nums (li x)) = dx at *
              generalize strip (nums (li y)) = dy at *
              have HX1 := Lib.hid hx1
              have HY1 := Lib.hid hy1
              have HS3 := Lib.hid hs2
              clear hs2 HS2 hx1 hy1
              generalize rest (li x) = rx at *
              generalize rest (li y) = ry at *
              have HSX := Lib.hid sx1
              have HSY := Lib.hid sy1
              clear HLEN
              have hdx : dx.length ≤ x1.size := by omega
              have hdy : dy.length ≤ y1.size := by omega
              have hdx' : (dx.length : Int) ≤ x1.size := by omega
              have hdy' : (dy.length : Int) ≤ y1.size := by omega
              have hbx : x1.size ≤ 4611686018427387904 := by omega
              have hby : y1.size ≤ 4611686018427387904 := by omega
              obtain ⟨n1, hn1⟩ : ∃ n1, dx.length = n1 := ⟨_, rfl⟩
              obtain ⟨n2, hn2⟩ : ∃ n2, dy.length = n2 := ⟨_, rfl⟩
              rw [hn1] at q1 hdx hdx'
              rw [hn2] at q2 hdy hdy'
              have HN1 := Lib.hid hn1
              have HN2 := Lib.hid hn2
              clear sx1 sy1 hn1 hn2
              go_wp2_with fail
              refine (q1 _).mono ?_
              rintro e w5 ⟨rfl, rfl⟩
              go_wp2_with fail
              refine (q2 _).mono ?_
              rintro e w6 ⟨rfl, rfl⟩
              clear q1 q2
              by_cases hmn : n1 = n2
              · subst hmn
                have hq := orr_of_zero HS3.out (by rw [HN1.out, HN2.out]; exact sgn_self _)
                have HQ := Lib.hid hq
                clear hq HS3
                go_wp2_with fail
                go_loopg [54] n1 (fun gf s54 wx => ∃ j : Nat, s54 = .int .i64 j ∧ Below w.heap.size w wx ∧ Hid (orr (Lib.compareBytes (dx.drop j) (dy.drop j)) (part rx ry) = G) ∧ n1 ≤ j + gf ∧ j ≤ n1)
                case atStart => exact ⟨0, rfl, hbi, (by rw [List.drop_zero, List.drop_zero]; exact HQ.out), by omega, by omega⟩
                case round =>
                  obtain ⟨j, rfl, hbj, HJ, hfj, hjn⟩ := hrel
                  by_cases hj : j < n1
                  · have hj' : (j : Int) < (n1 : Int) := by omega
                    have jx : j < dx.length := by rw [HN1.out]; exact hj
                    have jy : j < dy.length := by rw [HN2.out]; exact hj
                    have hst := cmp_step dx dy j jx jy
                    have bx : b x1 j = (dx[j]).toNat := by
                      rw [← get_b x1 j (by omega) (by rw [li_len]; omega)]
                      congr 1
                      simp only [HX1.out]
                      rw [List.getElem_append_left]
                    have by' : b y1 j = (dy[j]).toNat := by
                      rw [← get_b y1 j (by omega) (by rw [li_len]; omega)]
                      congr 1
                      simp only [HY1.out]
                      rw [List.getElem_append_left]
                    have hj1 : j < x1.size := by omega
                    have hj2 : j < y1.size := by omega
                    have cx := b_eq x1 j hj1
                    have cy := b_eq y1 j hj2
                    have lx := UInt8.toNat_lt dx[j]
                    have ly := UInt8.toNat_lt dy[j]
                    rw [bx] at cx
                    rw [by'] at cy
                    have jx' : (j : Int) < (x1.size : Int) := by omega
                    have jy' : (j : Int) < (y1.size : Int) := by omega
                    generalize dx[j].toNat = c at *
                    generalize dy[j].toNat = d at *
                    have hJ := HJ.out
                    rw [hst, orr_orr] at hJ
                    have HJ2 := Lib.hid hJ
                    clear hst bx by' hJ HJ jx jy
                    have CS := ysign_any c d
                    by_cases hs0 : sgn (c : Int) (d : Int) = 0
                    · have HJ3 := Lib.hid (orr_of_zero HJ2.out hs0)
                      rw [hs0] at CS
                      obtain ⟨g2, rfl⟩ : ∃ g2, gk = g2 + 1 := ⟨gk - 1, by omega⟩
                      clear HJ2 hs0
                      go_wp2_with fail
                      go_still_tail 8, (by kernel_rfl)
                      change wpList _ _ _ _ _ wr.drew
                      have kq : Below w.heap.size w wr.drew := hbj.trans ((Below.refl _ _).drew.mono hbj.size)
                      generalize wr.drew = wd at *
                      go_wp2_with fail
                      refine (CS _).mono ?_
                      rintro e w7 ⟨rfl, rfl⟩
                      go_wp2_with fail
                      go_roundg g2
                      case measure => omega
                      case rel => exact ⟨j + 1, by go_num, kq, HJ3, by omega, by omega⟩
                    · obtain rfl := orr_of_ne HJ2.out hs0
                      have hs0' : (sgn (c : Int) (d : Int) == 0) = false := by simp; exact hs0
                      clear HJ2
                      go_wp2_with fail
                      go_still_tail 8, (by kernel_rfl)
                      change wpList _ _ _ _ _ wr.drew
                      have kq : Below w.heap.size w wr.drew := hbj.trans ((Below.refl _ _).drew.mono hbj.size)
                      generalize wr.drew = wd at *
                      go_wp2_with fail
                      refine (CS _).mono ?_
                      rintro e w7 ⟨rfl, rfl⟩
                      go_wp2_with fail
                      go_ret
                      exact ⟨rfl, kq⟩
                  · have hj' : ¬ (j : Int) < (n1 : Int) := by omega
                    have hJ := HJ.out
                    rw [List.drop_eq_nil_of_le (by rw [HN1.out]; omega), List.drop_eq_nil_of_le (by rw [HN2.out]; omega)] at hJ
                    have HJ2 := Lib.hid (orr_of_zero hJ rfl)
                    have e1 : li (x1.extract n1 x1.size) = rx := by
                      rw [li_ext_end, HX1.out, ← HN1.out, List.drop_left]
                    have e2 : li (y1.extract n1 y1.size) = ry := by
                      rw [li_ext_end, HY1.out, ← HN2.out, List.drop_left]
                    have z1 : (x1.extract n1 x1.size).size = rx.length := by rw [← li_len, e1]
                    have z2 : (y1.extract n1 y1.size).size = ry.length := by rw [← li_len, e2]
                    have HE1 := Lib.hid e1
                    have HE2 := Lib.hid e2
                    have HZ1 := Lib.hid z1
                    have HZ2 := Lib.hid z2
                    clear hJ HJ e1 e2 z1 z2
                    go_wp2_with fail
                    go_quiet (fail)
                    have kq : Below w.heap.size w (wr.drewN nq) := hbj.trans ((below_drewN _ _).mono hbj.size)
                    generalize wr.drewN nq = wd at *
                    go_wp2_with fail
                    go_roundg g'
                    case measure => omega
                    case rel => exact ⟨_, _, rfl, rfl, kq, by rw [HE1.out, HE2.out]; exact HJ2, by rw [HZ1.out, HZ2.out]; omega, by rw [HZ1.out]; omega, by rw [HZ2.out]; omega⟩
              · have hne : ((n1 : Int) != (n2 : Int)) = true := by simp; omega
                have hne' : ((n1 : Int) == (n2 : Int)) = false := by simp; omega
                have hG : G = sgn (n1 : Int) (n2 : Int) := by
                  have h3 := HS3.out
                  rw [HN1.out, HN2.out, orr_ne (sgn_ne (by omega))] at h3
                  exact h3.symm
                subst hG
                clear HS3
                go_wp2_with fail
                refine (ysign_any _ _ _).mono ?_
                rintro e w7 ⟨rfl, rfl⟩
                go_wp2_with fail
                go_ret
                exact ⟨rfl, hbi⟩
            · have h := hst (.inr hB)
              have hs0 : sgn A B ≠ 0 := sgn_ne (by omega)
              obtain rfl := orr_of_ne h hs0
              obtain rfl := orr_of_ne HS1.out.symm hs0
              subst hA
              have hB' : (B == 0) = false := by simp; omega
              have hs0' : (sgn 0 B == 0) = false := by simp; exact hs0
              clear hend hst k1 k2 HN HS1 HP1 h hi1 hi2
              go_wp2_with fail
              refine (r1 _).mono ?_
              rintro e w1 ⟨rfl, rfl⟩
              go_wp2_with fail
              refine (r2 _).mono ?_
              rintro e w2 ⟨rfl, rfl⟩
              go_wp2_with fail
              refine (r1 _).mono ?_
              rintro e w3 ⟨rfl, rfl⟩
              go_wp2_with fail
              refine (r2 _).mono ?_
              rintro e w4 ⟨rfl, rfl⟩
              go_wp2_with fail
              refine (ysign_any _ _ _).mono ?_
              rintro e w5 ⟨rfl, rfl⟩
              go_wp2_with fail
              go_ret
              exact ⟨rfl, hbi⟩
          · have h := hst (.inl hA)
            have hA' : (A == 0) = false := by simp; omega
            by_cases hs0 : sgn A B = 0
            · have h2 := orr_of_zero h hs0
              have HM := Lib.hid h2
              have hAB : A = B := by
                unfold sgn at hs0
                revert hs0
                (repeat' split) <;> omega
              have hl1 : i < spn false (li x) := by
                have : i ≠ spn false (li x) := fun e => hA (k1.2 e)
                omega
              have hl2 : i < spn false (li y) := by
                have : i ≠ spn false (li y) := fun e => hA (hAB.trans (k2.2 e))
                omega
              have CS := ysign_any A B
              rw [hs0] at CS
              obtain ⟨g2, rfl⟩ : ∃ g2, gk = g2 + 1 := ⟨gk - 1, by omega⟩
              clear hend hst k1 k2 HN h h2 hs0 hAB
              go_wp2_with fail
              refine (r1 _).mono ?_
              rintro e w1 ⟨rfl, rfl⟩
              go_wp2_with fail
              refine (r1 _).mono ?_
              rintro e w3 ⟨rfl, rfl⟩
              go_wp2_with fail
              refine (r2 _).mono ?_
              rintro e w4 ⟨rfl, rfl⟩
              go_wp2_with fail
              refine (CS _).mono ?_
              rintro e w5 ⟨rfl, rfl⟩
              go_wp2_with fail
              go_roundg g2
              case measure => omega
              case rel => exact ⟨i + 1, by go_num, hbi, HM, by omega, by omega, by omega⟩
            · obtain rfl := orr_of_ne h hs0
              obtain rfl := orr_of_ne HS1.out.symm hs0
              have hs0' : (sgn A B == 0) = false := by simp; exact hs0
              clear hend hst k1 k2 HN HS1 HP1 h hi1 hi2
              go_wp2_with fail
              refine (r1 _).mono ?_
              rintro e w1 ⟨rfl, rfl⟩
              go_wp2_with fail
              refine (r1 _).mono ?_
              rintro e w3 ⟨rfl, rfl⟩
              go_wp2_with fail
              refine (r2 _).mono ?_
              rintro e w4 ⟨rfl, rfl⟩
              go_wp2_with fail
              refine (ysign_any _ _ _).mono ?_
              rintro e w5 ⟨rfl, rfl⟩
              go_wp2_with fail
              go_ret
              exact ⟨rfl, hbi⟩
end Ver
end Go.Proofs.YtkcdoipkpilacaaDoor

/-
Part, and what a round of it takes.
-/
import Derived.Test.YtkcdoipkpilacaaDoorVerOr
import Derived.StillTail
import Derived.StillTailTactics
namespace Go.Proofs.YtkcdoipkpilacaaDoor
open Go.RowKit
set_option linter.unusedSimpArgs false
set_option linter.unusedVariables false
namespace Ver
open Txt (b b_eq b_lt)
def sigs (l : Bs) : Bs := l.take (spn false l)
def behind (l : Bs) : Bs := l.drop (spn false l)
def nums (l : Bs) : Bs := (behind l).take (spn true (behind l))
def rest (l : Bs) : Bs := (behind l).drop (spn true (behind l))
theorem pieces (l : Bs) : l = sigs l ++ (nums l ++ rest l) := by
  unfold sigs nums rest
  rw [List.take_append_drop]
  unfold behind
  rw [List.take_append_drop]
theorem nums_nil {l : Bs} (h : nums l = []) : rest l = [] := by
  unfold nums at h
  have h0 : spn true (behind l) = 0 := by
    have := spn_le true (behind l)
    have h2 := congrArg List.length h
    rw [List.length_take, List.length_nil] at h2
    omega
  unfold rest
  rw [h0, List.drop_zero]
  have h1 := spn_drop false l
  change headIs true (behind l) at h1
  cases hb : behind l with
  | nil => rfl
  | cons c r =>
    rw [hb] at h0 h1
    have h1' : dig c = true := h1
    simp [spn, h1'] at h0
theorem rest_head (l : Bs) : headNo dig (rest l) := by
  have h := spn_drop true (behind l)
  change headIs false (rest l) at h
  cases hb : rest l with
  | nil => trivial
  | cons c r => rw [hb] at h; exact h
theorem part_step (x y : Bs) : part x y = orr (lex ((sigs x).map rk) ((sigs y).map rk)) (orr (numB (nums x) (nums y)) (part (rest x) (rest y))) := by
  have hd : ∀ l : Bs, ∀ c ∈ nums l, dig c = true := fun l => spn_take true (behind l)
  have hs : ∀ l : Bs, ∀ c ∈ sigs l, dig c = false := fun l => spn_take false l
  rw [num_val (hd x) (hd y)]
  have := part_round (sigs x) (nums x) (rest x) (sigs y) (nums y) (rest y) (hs x) (hd x) (rest_head x) nums_nil (hs y) (hd y) (rest_head y) nums_nil
  rwa [← pieces, ← pieces] at this
theorem rest_le (l : Bs) : (rest l).length ≤ l.length := by
  unfold rest behind
  rw [List.length_drop, List.length_drop]; omega
theorem rest_lt {l : Bs} (h : l ≠ []) : (rest l).length < l.length := by
  unfold rest
  rw [List.length_drop]
  have h2 : (behind l).length = l.length - spn false l := by unfold behind; rw [List.length_drop]
  have h1 := spn_drop false l
  change headIs true (behind l) at h1
  have hl := spn_le false l
  have h0 : 0 < l.length := List.length_pos_iff.2 h
  cases hb : behind l with
  | nil => rw [hb] at h2; simp at h2 ⊢; omega
  | cons c r =>
    rw [hb] at h1 h2
    have h1' : dig c = true := h1
    have : spn true (c :: r) = spn true r + 1 := by rw [spn, if_pos h1']
    rw [this]
    simp only [List.length_cons] at h2 ⊢
    omega
theorem empty_is {s : ByteArray} (h : s.size = 0) : s.toList.isEmpty = true ∧ li s = [] := by
  have : li s = [] := List.eq_nil_of_length_eq_zero (by rw [li_len, h])
  rw [Lib.toList_data]
  exact ⟨by rw [show s.data.toList = [] from this]; rfl, this⟩
theorem empty_no {s : ByteArray} (h : s.size ≠ 0) : s.toList.isEmpty = false ∧ li s ≠ [] := by
  have : li s ≠ [] := fun e => h (by rw [← li_len, e]; rfl)
  rw [Lib.toList_data]
  refine ⟨?_, this⟩
  cases hq : s.data.toList with
  | nil => exact absurd hq this
  | cons _ _ => rfl
/-- A text's pieces by slices of it. -/
theorem slice_sigs (s : ByteArray) : li (s.extract 0 (spn false (li s))) = sigs (li s) := li_ext_zero _ _ (by rw [← li_len]; exact spn_le _ _)
theorem slice_behind (s : ByteArray) : li (s.extract (spn false (li s)) s.size) = behind (li s) := li_ext_end _ _
theorem below_drewN (w : World) : ∀ n, Below w.heap.size w (w.drewN n)
  | 0 => Below.refl _ _
  | n + 1 => ⟨rfl, rfl, rfl, Nat.le_refl _, fun _ _ => rfl⟩
set_option maxRecDepth 100000 in
set_option maxHeartbeats 4000000 in
theorem part_any (s t : ByteArray) (w : World) (hs : s.size ≤ 4611686018427387904) (ht : t.size ≤ 4611686018427387904) :
    Calls Tryd.prog 16 #[.string s, .string t] w fun e w' => e = .returned (.int .i64 (part (li s) (li t))) ∧ Below w.heap.size w w' := by
  obtain ⟨G, hG⟩ : ∃ G, part (li s) (li t) = G := ⟨_, rfl⟩
  have HG := Lib.hid hG
  rw [hG]
  clear hG
  go_enter Tryd.func16, Tryd.ntmps16
  go_wp2
  go_loopg [0, 1] (s.size + t.size) (fun gf s0 s1 wx => ∃ x y : ByteArray, s0 = .string x ∧ s1 = .string y ∧ Below w.heap.size w wx ∧ Hid (part (li x) (li y) = G) ∧ x.size + y.size ≤ gf ∧ x.size ≤ s.size ∧ y.size ≤ t.size)
  case atStart => exact ⟨s, t, rfl, rfl, Below.refl _ _, HG.out, by omega, by omega, by omega⟩
  case round =>
    obtain ⟨x, y, rfl, rfl, hbw, HN, hfu, hx, hy⟩ := hrel
    by_cases h0 : x.size = 0 ∧ y.size = 0
    · obtain ⟨e1, e2⟩ := empty_is h0.1
      obtain ⟨e3, e4⟩ := empty_is h0.2
      have hG : G = 0 := by rw [← HN.out, e2, e4]; rfl
      subst hG
      clear HN HG e2 e4 h0
      go_wp2_with fail
      go_ret
      exact ⟨rfl, hbw⟩
    · have c1 := fun w => span_any x false w (by omega)
      have c2 := fun w => span_any y false w (by omega)
      have l1 : spn false (li x) ≤ x.size := by rw [← li_len]; exact spn_le _ _
      have l2 : spn false (li y) ≤ y.size := by rw [← li_len]; exact spn_le _ _
      have c3 := fun w => compareSigns_any (x.extract 0 (spn false (li x))) (y.extract 0 (spn false (li y))) w (by simp [ByteArray.size_extract]; omega) (by simp [ByteArray.size_extract]; omega)
      simp only [slice_sigs] at c3
      have b1 := slice_behind x
      have b2 := slice_behind y
      have z1 : (x.extract (spn false (li x)) x.size).size = x.size - spn false (li x) := by simp [ByteArray.size_extract]
      have z2 : (y.extract (spn false (li y)) y.size).size = y.size - spn false (li y) := by simp [ByteArray.size_extract]
      have c4 := fun w => span_any (x.extract (spn false (li x)) x.size) true w (by omega)
      have c5 := fun w => span_any (y.extract (spn false (li y)) y.size) true w (by omega)
      have l4 : spn true (behind (li x)) ≤ x.size - spn false (li x) := by rw [← z1, ← li_len, b1]; exact spn_le _ _
      have l5 : spn true (behind (li y)) ≤ y.size - spn false (li y) := by rw [← z2, ← li_len, b2]; exact spn_le _ _
      have n1 := li_ext_zero (x.extract (spn false (li x)) x.size) (spn true (behind (li x))) (by omega)
      have n2 := li_ext_zero (y.extract (spn false (li y)) y.size) (spn true (behind (li y))) (by omega)
      have r1 := li_ext_end (x.extract (spn false (li x)) x.size) (spn true (behind (li x)))
      have r2 := li_ext_end (y.extract (spn false (li y)) y.size) (spn true (behind (li y)))
      rw [b1] at n1 r1
      rw [b2] at n2 r2
      rw [b1] at c4
      rw [b2] at c5
      have hstep := part_step (li x) (li y)
      rw [HN.out] at hstep
      have c6 := fun w => compareNumbers_any ((x.extract (spn false (li x)) x.size).extract 0 (spn true (behind (li x)))) ((y.extract (spn false (li y)) y.size).extract 0 (spn true (behind (li y)))) w (by simp [ByteArray.size_extract]; omega) (by simp [ByteArray.size_extract]; omega)
      rw [n1, n2] at c6
      change ∀ w, Calls _ _ _ _ fun e w' => e = .returned (.int .i64 (numB (nums (li x)) (nums (li y)))) ∧ Below w.heap.size w w' at c6
      change _ = rest (li x) at r1
      change _ = rest (li y) at r2
      have hlen : (rest (li x)).length + (rest (li y)).length < x.size + y.size := by
        have a1 := rest_le (li x)
        have a2 := rest_le (li y)
        by_cases hx0 : x.size = 0
        · have := rest_lt (empty_no (s := y) (by omega)).2
          rw [li_len] at a1 a2 this
          omega
        · have := rest_lt (empty_no hx0).2
          rw [li_len] at a1 a2 this
          omega
      have hsel : x.toList.isEmpty = false ∨ (x.toList.isEmpty = true ∧ y.toList.isEmpty = false) := by
        by_cases hx0 : x.size = 0
        · exact .inr ⟨(empty_is hx0).1, (empty_no (by omega)).1⟩
        · exact .inl (empty_no hx0).1
      clear n1 n2 b1 b2 HN HG
      have HR1 := Lib.hid r1
      have HR2 := Lib.hid r2
      have HS := Lib.hid hstep
      have hrs1 : ((x.extract (spn false (li x)) x.size).extract (spn true (behind (li x))) (x.extract (spn false (li x)) x.size).size).size = (rest (li x)).length := by rw [← r1, li_len]
      have hrs2 : ((y.extract (spn false (li y)) y.size).extract (spn true (behind (li y))) (y.extract (spn false (li y)) y.size).size).size = (rest (li y)).length := by rw [← r2, li_len]
      have HRS1 := Lib.hid hrs1
      have HRS2 := Lib.hid hrs2
      have hle1 : (rest (li x)).length ≤ x.size := by rw [← li_len]; exact rest_le _
      have hle2 : (rest (li y)).length ≤ y.size := by rw [← li_len]; exact rest_le _
      clear r1 r2 hstep hrs1 hrs2
      rw [z1] at HR1 HRS1 
      rw [z2] at HR2 HRS2
      generalize spn true (behind (li x)) = i2 at *
      generalize spn true (behind (li y)) = j2 at *
      generalize spn false (li x) = i1 at *
      generalize spn false (li y) = j1 at *
      generalize numB (nums (li x)) (nums (li y)) = p2 at *
      generalize lex ((sigs (li x)).map rk) ((sigs (li y)).map rk) = p1 at *
      generalize (rest (li x)).length = m1 at *
      generalize (rest (li y)).length = m2 at *
      generalize rest (li x) = q1 at *
      generalize rest (li y) = q2 at *
      have l1' : (i1 : Int) ≤ x.size := by omega
      have l2' : (j1 : Int) ≤ y.size := by omega
      have l4' : (i2 : Int) ≤ (x.extract i1 x.size).size := by omega
      have l5' : (j2 : Int) ≤ (y.extract j1 y.size).size := by omega
      obtain ⟨g', rfl⟩ : ∃ g', gk = g' + 1 := ⟨gk - 1, by omega⟩
      rcases hsel with he | ⟨he1, he2⟩
      all_goals
        go_wp2_with fail
        refine (c1 _).mono ?_
        rintro e w1 ⟨rfl, k1⟩
        go_wp2_with fail
        refine (c2 _).mono ?_
        rintro e w2 ⟨rfl, k2⟩
        have k2' := hbw.trans ((k1.trans (k2.mono k1.size)).mono hbw.size)
        go_wp2_with fail
        go_still_tail 6, (by kernel_rfl)
        change wpList _ _ _ _ _ w2.drew
        have k3' : Below w.heap.size w w2.drew := k2'.trans ((Below.refl _ _).drew.mono k2'.size)
        generalize w2.drew = wd at *
        go_wp2_with fail
        refine (c3 _).mono ?_
        rintro e w3 ⟨rfl, rfl⟩
        by_cases hp1 : p1 = 0
        · subst hp1
          have HS2 := Lib.hid (orr_of_zero HS.out.symm rfl)
          clear HS
          go_wp2_with fail
          go_quiet (fail)
          have kf' : Below w.heap.size w (w3.drewN nq) := k3'.trans ((below_drewN _ _).mono k3'.size)
          generalize w3.drewN nq = wf at *
          go_wp2_with fail
          refine (c4 _).mono ?_
          rintro e w4 ⟨rfl, k4⟩
          go_wp2_with fail
          refine (c5 _).mono ?_
          rintro e w5 ⟨rfl, k5⟩
          have k5' := kf'.trans ((k4.trans (k5.mono k4.size)).mono kf'.size)
          go_wp2_with fail
          go_still_tail 6, (by kernel_rfl)
          change wpList _ _ _ _ _ w5.drew
          have kg' : Below w.heap.size w w5.drew := k5'.trans ((Below.refl _ _).drew.mono k5'.size)
          generalize w5.drew = wg at *
          go_wp2_with fail
          refine (c6 _).mono ?_
          rintro e w6 ⟨rfl, k6⟩
          have k6' := kg'.trans (k6.mono kg'.size)
          by_cases hp2 : p2 = 0
          · subst hp2
            have HS3 := Lib.hid (orr_of_zero HS2.out rfl)
            clear HS2
            go_wp2_with fail
            go_quiet (fail)
            have kh' : Below w.heap.size w (w6.drewN nq) := k6'.trans ((below_drewN _ _).mono k6'.size)
            generalize w6.drewN nq = wh at *
            go_wp2_with fail
            go_roundg g'
            case measure => omega
            case rel => exact ⟨_, _, rfl, rfl, kh', by rw [HR1.out, HR2.out]; exact HS3, by rw [HRS1.out, HRS2.out]; omega, by rw [HRS1.out]; omega, by rw [HRS2.out]; omega⟩
          · obtain rfl := orr_of_ne HS2.out hp2
            clear HS2
            go_wp2_with fail
            go_ret
            exact ⟨rfl, k6'⟩
        · obtain rfl := orr_of_ne HS.out.symm hp1
          clear HS
          go_wp2_with fail
          go_ret
          exact ⟨rfl, k3'⟩
end Ver
end Go.Proofs.YtkcdoipkpilacaaDoor

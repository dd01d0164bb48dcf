/-
The reference's Text (made by gen/relytext.py).
-/
import Derived.Test.YtapmpdljapbpeaaGreatDoorRelBits
import Derived.Test.YtapmpdljapbpeaaGreatDoorRelAtom
import Derived.Laws.Concat
namespace Go.Proofs.YtapmpdljapbpeaaGreatDoor
open Go.RowKit
set_option linter.unusedSimpArgs false
set_option linter.unusedVariables false
namespace Rl
open Ver (Bs li li_len li_drop S S_self S_of S_size S_li below_drewN empty_is empty_no MaxLen Signs)
/-- The first of them, with a sign between. -/
def pj {α : Type} (f : α → Bs) (sep : Bs) (xs : List α) (i : Nat) : Bs := Lib.join ((xs.take i).map f) sep
section
variable {α : Type} {f : α → Bs} {sep : Bs} {xs : List α}
theorem pj_zero : pj f sep xs 0 = [] := rfl
theorem take_getD {i : Nat} (z : α) (h : i < xs.length) : xs.take (i + 1) = xs.take i ++ [xs.getD i z] := by
  rw [List.take_succ_eq_append_getElem h]
  simp [List.getD, List.getElem?_eq_getElem h]
theorem pj_one (z : α) (h : 0 < xs.length) : pj f sep xs 1 = f (xs.getD 0 z) := by
  unfold pj
  rw [take_getD z h, List.take_zero, List.nil_append, List.map_cons, List.map_nil, Lib.join_one]
theorem pj_succ (z : α) {i : Nat} (h0 : 0 < i) (h : i < xs.length) : pj f sep xs (i + 1) = pj f sep xs i ++ (sep ++ f (xs.getD i z)) := by
  unfold pj
  rw [take_getD z h, List.map_append, join_app _ (by
    intro e
    have := congrArg List.length e
    simp at this
    rcases this with h1 | h1
    · omega
    · rw [h1] at h; simp at h) (by simp), List.map_cons, List.map_nil, Lib.join_one]
theorem pj_len {m i : Nat} (hf : ∀ x, (f x).length ≤ m) : (pj f sep xs i).length ≤ i * (m + sep.length) := by
  have := join_len sep m ((xs.take i).map f) fun l hl => by
    obtain ⟨a, _, rfl⟩ := List.mem_map.1 hl
    exact hf a
  rw [List.length_map] at this
  exact Nat.le_trans this (Nat.mul_le_mul_right _ (by rw [List.length_take]; omega))
theorem wrt_all {most : Nat} (z : α) (h : xs.length ≤ most) (hn : ∀ j, j < xs.length → f (xs.getD j z) ≠ []) : wrt most sep f xs = pj f sep xs xs.length := by
  unfold wrt pj
  rw [if_neg (by omega), if_neg ?_, List.take_length]
  intro h1
  rw [List.any_eq_true] at h1
  obtain ⟨x, hx, he⟩ := h1
  obtain ⟨j, hj, rfl⟩ := List.mem_iff_getElem.1 hx
  rw [List.isEmpty_iff] at he
  have := hn j hj
  rw [show xs.getD j z = xs[j] by simp [List.getD, List.getElem?_eq_getElem hj]] at this
  exact this he
theorem wrt_none {most : Nat} (z : α) {j : Nat} (hj : j < xs.length) (h : f (xs.getD j z) = []) : wrt most sep f xs = [] := by
  unfold wrt
  split
  · rfl
  · rw [if_pos]
    rw [List.any_eq_true]
    refine ⟨xs[j], List.getElem_mem hj, ?_⟩
    rw [show xs[j] = xs.getD j z by simp [List.getD, List.getElem?_eq_getElem hj], h]
    rfl
end
theorem wAt_no {a : At} (h : may a = false) : wAt a = [] := by unfold wAt; rw [h]; rfl
theorem wAt_yes {a : At} (h : may a = true) : wAt a ≠ [] := by unfold wAt; rw [if_pos h]; exact txA_ne h
theorem wCl_yes {c : List At} (h0 : 0 < c.length) (h6 : c.length ≤ 6) (h : ∀ j, j < c.length → may (c.getD j nA) = true) : wCl c = pj wAt [32, 124, 32] c c.length ∧ wCl c ≠ [] := by
  have e := wrt_all (f := wAt) (sep := [32, 124, 32]) nA h6 (fun j hj => wAt_yes (h j hj))
  refine ⟨e, ?_⟩
  rw [show wCl c = _ from e]
  unfold pj
  rw [List.take_length]
  cases c with
  | nil => simp at h0
  | cons a r =>
    have h1 := wAt_yes (h 0 (by simp))
    have h2 : (a :: r).getD 0 nA = a := rfl
    rw [h2] at h1
    rw [List.map_cons, Lib.join_cons]
    intro e2
    exact h1 (List.append_eq_nil_iff.1 e2).1
theorem wCl_empty {c : List At} (h : c.length = 0) : wCl c = [] := by
  rw [List.eq_nil_of_length_eq_zero h]; rfl
theorem wCl_many {c : List At} (h : 6 < c.length) : wCl c = [] := by
  unfold wCl wrt
  rw [if_pos h]
theorem S_nil : S [] = ⟨#[]⟩ := rfl
theorem s2 : (⟨#[44, 32]⟩ : ByteArray).size = 2 := rfl
theorem s3 : (⟨#[32, 124, 32]⟩ : ByteArray).size = 3 := rfl
set_option maxRecDepth 100000 in
set_option maxHeartbeats 16000000 in
theorem ytext_any (v : Value) (l : List (List At)) (w : World) (h : Clss w v l) (hL : LimC l) :
    Calls Tryz.prog 74 #[v] w fun e w' => e = .returned (.string (S (text l))) ∧ Below w.heap.size w w' := by
  obtain ⟨h0, a0, b0, rfl, hcap, hr⟩ := id h
  have HR := Lib.hid hr
  have HH := Lib.hid h
  have HL := Lib.hid hL
  obtain ⟨N, hN⟩ : ∃ N, l.length = N := ⟨_, rfl⟩
  have HN := Lib.hid hN
  rw [hN] at h0 hcap ⊢
  obtain ⟨T, hT⟩ : ∃ T, S (text l) = T := ⟨_, rfl⟩
  have HT := Lib.hid hT
  rw [hT]
  clear hN hT hr h hL
  go_enter Tryz.func74, Tryz.ntmps74
  by_cases h12 : 12 < N
  · have h12' : (12 : Int) < (N : Int) := by omega
    go_wp2_with fail
    go_ret
    refine ⟨?_, Below.refl _ _⟩
    rw [← HT.out, show text l = [] by unfold text wrt; rw [if_pos (by rw [HN.out]; exact h12)]]
    rfl
  have h12' : ¬ (12 : Int) < (N : Int) := by omega
  go_wp2_with fail
  go_loopg [3, 13] N (fun gf s3 s13 wx => ∃ (i : Nat) (X : ByteArray), s13 = .int .i64 i ∧ s3 = .string X ∧ Hid (X = S (pj wCl [44, 32] l i)) ∧ X.size ≤ 602 * i ∧ Hid (∀ j, j < i → wCl (l.getD j []) ≠ []) ∧ i ≤ N ∧ N ≤ i + gf ∧ Hid (Below w.heap.size w wx))
  case atStart => exact ⟨0, _, rfl, rfl, Lib.hid rfl, Nat.le_refl 0, Lib.hid (fun j hj => absurd hj (by omega)), by omega, by omega, Lib.hid (Below.refl _ _)⟩
  case round =>
    obtain ⟨i, X, rfl, rfl, HX, hXs, HP, hi1, hi2, HB⟩ := hrel
    by_cases hi : i < N
    · have hi' : (i : Int) < (N : Int) := by omega
      have hil : i < l.length := by rw [HN.out]; exact hi
      obtain ⟨og, rfl⟩ : ∃ og, gk = og + 1 := ⟨gk - 1, by omega⟩
      obtain ⟨ob, oo, rfl, hat⟩ := HR.out (by omega)
      obtain ⟨u, x0, hc⟩ := hat i hil
      rw [Nat.one_mul] at x0
      have y0 := cell_on x0 HB.out
      have hlc := HL.out _ (mem_getD (z := []) hil)
      obtain ⟨c, hcc⟩ : ∃ c, l.getD i [] = c := ⟨_, rfl⟩
      rw [hcc] at hc hlc
      have hnone : wCl c = [] → T = ⟨#[]⟩ := fun e => by
        rw [← HT.out, show text l = [] from wrt_none (z := []) hil (by rw [hcc]; exact e)]
        rfl
      obtain ⟨hcl, ca, cc, rfl, hccap, hcr⟩ := id hc
      have HCR := Lib.hid hcr
      have HCC := Lib.hid hcc
      have HLC := Lib.hid hlc
      obtain ⟨M, hM⟩ : ∃ M, c.length = M := ⟨_, rfl⟩
      have HM := Lib.hid hM
      have HNONE := Lib.hid hnone
      have HIL := Lib.hid hil
      rw [hM] at y0 hcl hccap
      clear hat hc hcr hcc hlc hM hnone x0 hil
      have e0 := fun w => run_string_add_sum (P := Tryz.prog) w X ⟨#[44, 32]⟩ (by simp only [s2, maxLen]; omega)
      by_cases hi0 : i = 0
      · have hii : ¬ (0 : Int) < (i : Int) := by omega
        have HI0 := Lib.hid hi0
        clear hi0
        by_cases hM0 : M = 0
        · have hM0' : (M : Int) = 0 := by omega
          go_wp2_with fail
          go_ret
          refine ⟨?_, HB.out⟩
          rw [HNONE.out (wCl_empty (by rw [HM.out]; exact hM0))]
          rfl
        have hM0' : ¬ (M : Int) = 0 := by omega
        by_cases hM6 : 6 < M
        · have hM6' : (6 : Int) < (M : Int) := by omega
          go_wp2_with fail
          go_ret
          refine ⟨?_, HB.out⟩
          rw [HNONE.out (wCl_many (by rw [HM.out]; exact hM6))]
          rfl
        have hM6' : ¬ (6 : Int) < (M : Int) := by omega
        obtain ⟨B, hB, hBs⟩ : ∃ B : Bs, X = S B ∧ B.length ≤ 7300 := ⟨pj wCl [44, 32] l i, HX.out, by rw [← S_size, ← HX.out]; omega⟩
        have HBB := Lib.hid hB
        go_wp2_with fail
        try rw [hB]
        clear hB e0
        go_loopg [3, 32] M (fun gf s3 s32 wx => ∃ (k : Nat) (Y : ByteArray), s32 = .int .i64 k ∧ s3 = .string Y ∧ Hid (Y = S (B ++ pj wAt [32, 124, 32] c k)) ∧ Y.size ≤ 7300 + 81 * k ∧ Hid (∀ j, j < k → may (c.getD j nA) = true) ∧ k ≤ M ∧ M ≤ k + gf ∧ Hid (Below w.heap.size w wx))
        case atStart => exact ⟨0, _, rfl, rfl, Lib.hid (by rw [pj_zero, List.append_nil]), (by rw [S_size]; omega), Lib.hid (fun j hj => absurd hj (by omega)), by omega, by omega, HB⟩
        case round =>
          clear HB
          obtain ⟨k, Y, rfl, rfl, HY, hYs, HQ, hk1, hk2, HB⟩ := hrel
          by_cases hk : k < M
          · have hk' : (k : Int) < (M : Int) := by omega
            have hkl : k < c.length := by rw [HM.out]; exact hk
            obtain ⟨cb, co, rfl, hat⟩ := HCR.out (by omega)
            obtain ⟨p0, p1, p2⟩ := hat k hkl
            rw [Nat.mul_comm 3 k] at p0 p1 p2
            have q0 := cell_on p0 HB.out
            have q1 := cell_on p1 HB.out
            have q2 := cell_on p2 HB.out
            have hla := HLC.out _ (mem_getD (z := nA) hkl)
            have hone := pj_one (f := wAt) (sep := [32, 124, 32]) (xs := c) nA (by omega)
            have hsuc := fun h => pj_succ (f := wAt) (sep := [32, 124, 32]) (xs := c) nA (i := k) h hkl
            obtain ⟨a, haa⟩ : ∃ a, c.getD k nA = a := ⟨_, rfl⟩
            rw [haa] at q0 q1 q2 hla hsuc
            have HSUC := Lib.hid hsuc
            have HONE := Lib.hid hone
            have HAA := Lib.hid haa
            have HKL := Lib.hid hkl
            have cm := fun w => ymayAtom_any a w (by omega) (by omega)
            have ct := fun w => yatom_any a w (by omega) (by omega)
            have hwl := wAt_len a
            have hws : (S (wAt a)).size ≤ 78 := by rw [S_size]; exact hwl
            have f1 := fun w => run_string_add_sum (P := Tryz.prog) w Y ⟨#[32, 124, 32]⟩ (by simp only [s3, maxLen]; omega)
            have f2 := fun w => run_string_add_sum (P := Tryz.prog) w (Y ++ ⟨#[32, 124, 32]⟩) (S (wAt a)) (by simp only [ByteArray.size_append, s3, maxLen]; omega)
            have f3 := fun w => run_string_add_sum (P := Tryz.prog) w Y (S (wAt a)) (by first | omega | (simp only [maxLen]; omega))
            unfold aV at cm ct
            have hz2 : (Y ++ ⟨#[32, 124, 32]⟩ ++ S (wAt a)).size ≤ 7300 + 81 * (k + 1) := by simp only [ByteArray.size_append, s3]; omega
            have hz3 : (Y ++ S (wAt a)).size ≤ 7300 + 81 * (k + 1) := by simp only [ByteArray.size_append, s3]; omega
            have HZ := Lib.hid (⟨hz2, hz3⟩ : _ ∧ _)
            clear hat p0 p1 p2 hla hone hsuc haa hkl hwl hws hz2 hz3
            have bW : Below wr.heap.size wr (wr.alloc (.cells #[.string (S a.1), .int .i64 a.2.1, .string (S a.2.2)] 82)) := (Below.refl _ _).alloc (Nat.le_refl _) _
            obtain ⟨i0, i1, i2⟩ := cells3 (Blk.Is.new wr 82 #[.string (S a.1), .int .i64 a.2.1, .string (S a.2.2)])
            have BW := Lib.hid (HB.out.trans (bW.mono HB.out.size))
            obtain ⟨bb, hbb⟩ : ∃ bb, wr.heap.size = bb := ⟨_, rfl⟩
            rw [hbb] at i0 i1 i2
            clear bW HB
            obtain ⟨A, hA⟩ : ∃ A, S (wAt a) = A := ⟨_, rfl⟩
            have HA := Lib.hid hA
            rw [hA] at ct f2 f3 HZ
            clear hA
            by_cases hk0 : k = 0
            · have hkk : ¬ (0 : Int) < (k : Int) := by omega
              have HK0 := Lib.hid hk0
              clear hk0
              go_wp2_with fail
              refine (cm _).mono ?_
              rintro e w1 ⟨rfl, k1⟩
              have j0 := cell_on i0 k1
              have j1 := cell_on i1 k1
              have j2 := cell_on i2 k1
              have B1 := Lib.hid (tr BW.out k1)
              cases hmay : may a with
              | false =>
                go_wp2_with fail
                go_ret
                refine ⟨?_, B1.out⟩
                have hno : wCl c = [] := wrt_none (z := nA) HKL.out (by rw [HAA.out]; exact wAt_no hmay)
                rw [HNONE.out hno]
                rfl
              | true =>
                have HMAY := Lib.hid hmay
                clear hmay
                go_wp2_with fail
                refine (ct _).mono ?_
                rintro e w2 ⟨rfl, k2⟩
                have B2 := Lib.hid (tr B1.out k2)
                clear k2 k1 j0 j1 j2
                go_wp2_with fail
                go_roundg (gk - 1)
                case measure => omega
                case rel =>
                  refine ⟨k + 1, _, by go_num, rfl, Lib.hid ?_, HZ.out.2, Lib.hid (fun j hj => ?_), by omega, by omega, B2⟩
                  · have hk0 := HK0.out
                    subst hk0
                    rw [HY.out, ← HA.out, HONE.out, HAA.out, pj_zero, List.append_nil, S_app]
                  · by_cases hj' : j < k
                    · exact HQ.out j hj'
                    · obtain rfl : j = k := by omega
                      rw [HAA.out]
                      exact HMAY.out
            have hkk : (0 : Int) < (k : Int) := by omega
            have HK0 := Lib.hid hk0
            clear hk0
            go_wp2_with fail
            refine (cm _).mono ?_
            rintro e w1 ⟨rfl, k1⟩
            have j0 := cell_on i0 k1
            have j1 := cell_on i1 k1
            have j2 := cell_on i2 k1
            have B1 := Lib.hid (tr BW.out k1)
            cases hmay : may a with
            | false =>
              go_wp2_with fail
              go_ret
              refine ⟨?_, B1.out⟩
              have hno : wCl c = [] := wrt_none (z := nA) HKL.out (by rw [HAA.out]; exact wAt_no hmay)
              rw [HNONE.out hno]
              rfl
            | true =>
              have HMAY := Lib.hid hmay
              clear hmay
              go_wp2_with fail
              refine (ct _).mono ?_
              rintro e w2 ⟨rfl, k2⟩
              have B2 := Lib.hid (tr B1.out k2)
              clear k2 k1 j0 j1 j2
              go_wp2_with fail
              go_roundg (gk - 1)
              case measure => omega
              case rel =>
                refine ⟨k + 1, _, by go_num, rfl, Lib.hid ?_, HZ.out.1, Lib.hid (fun j hj => ?_), by omega, by omega, B2⟩
                · rw [HY.out, ← HA.out, HSUC.out (by have := HK0.out; omega), show (⟨#[32, 124, 32]⟩ : ByteArray) = S [32, 124, 32] from rfl, S_app, S_app]
                  exact congrArg S (by simp)
                · by_cases hj' : j < k
                  · exact HQ.out j hj'
                  · obtain rfl : j = k := by omega
                    rw [HAA.out]
                    exact HMAY.out
          · obtain rfl : k = M := by omega
            have hk' : ¬ (k : Int) < (k : Int) := by omega
            obtain ⟨hw1, hw2⟩ := wCl_yes (c := c) (by rw [HM.out]; omega) (by rw [HM.out]; omega) (fun j hj => HQ.out j (by rw [← HM.out]; exact hj))
            rw [HM.out] at hw1
            have HW := Lib.hid (⟨hw1, hw2⟩ : _ ∧ _)
            clear hw1 hw2
            go_wp2_with fail
            go_roundg og
            case measure => omega
            case rel =>
              have hE : Y = S (pj wCl [44, 32] l (i + 1)) := by
                have hi0 := HI0.out
                subst hi0
                have hB0 : B = [] := by
                  have := congrArg ByteArray.size HBB.out
                  rw [S_size] at this
                  exact List.eq_nil_of_length_eq_zero (by omega)
                rw [HY.out, hB0, List.nil_append, ← HW.out.1, pj_one (f := wCl) (sep := [44, 32]) [] HIL.out, HCC.out]
              refine ⟨i + 1, _, by go_num, rfl, Lib.hid hE, ?_, Lib.hid (fun j hj => ?_), by omega, by omega, HB⟩
              · have hlen := pj_len (f := wCl) (sep := [44, 32]) (xs := l) (i := i + 1) wCl_len
                simp only [List.length_cons, List.length_nil] at hlen
                rw [hE, S_size]
                omega
              · by_cases hj' : j < i
                · exact HP.out j hj'
                · obtain rfl : j = i := by omega
                  rw [HCC.out]
                  exact HW.out.2
      have hii : (0 : Int) < (i : Int) := by omega
      have HI0 := Lib.hid hi0
      clear hi0
      by_cases hM0 : M = 0
      · have hM0' : (M : Int) = 0 := by omega
        go_wp2_with fail
        go_ret
        refine ⟨?_, HB.out⟩
        rw [HNONE.out (wCl_empty (by rw [HM.out]; exact hM0))]
        rfl
      have hM0' : ¬ (M : Int) = 0 := by omega
      by_cases hM6 : 6 < M
      · have hM6' : (6 : Int) < (M : Int) := by omega
        go_wp2_with fail
        go_ret
        refine ⟨?_, HB.out⟩
        rw [HNONE.out (wCl_many (by rw [HM.out]; exact hM6))]
        rfl
      have hM6' : ¬ (6 : Int) < (M : Int) := by omega
      obtain ⟨B, hB, hBs⟩ : ∃ B : Bs, X ++ ⟨#[44, 32]⟩ = S B ∧ B.length ≤ 7300 := ⟨pj wCl [44, 32] l i ++ [44, 32], by rw [← S_app, ← HX.out]; rfl, by rw [List.length_append, ← S_size, ← HX.out]; simp only [List.length_cons, List.length_nil]; omega⟩
      have HBB := Lib.hid hB
      go_wp2_with fail
      try rw [hB]
      clear hB e0
      go_loopg [3, 32] M (fun gf s3 s32 wx => ∃ (k : Nat) (Y : ByteArray), s32 = .int .i64 k ∧ s3 = .string Y ∧ Hid (Y = S (B ++ pj wAt [32, 124, 32] c k)) ∧ Y.size ≤ 7300 + 81 * k ∧ Hid (∀ j, j < k → may (c.getD j nA) = true) ∧ k ≤ M ∧ M ≤ k + gf ∧ Hid (Below w.heap.size w wx))
      case atStart => exact ⟨0, _, rfl, rfl, Lib.hid (by rw [pj_zero, List.append_nil]), (by rw [S_size]; omega), Lib.hid (fun j hj => absurd hj (by omega)), by omega, by omega, HB⟩
      case round =>
        clear HB
        obtain ⟨k, Y, rfl, rfl, HY, hYs, HQ, hk1, hk2, HB⟩ := hrel
        by_cases hk : k < M
        · have hk' : (k : Int) < (M : Int) := by omega
          have hkl : k < c.length := by rw [HM.out]; exact hk
          obtain ⟨cb, co, rfl, hat⟩ := HCR.out (by omega)
          obtain ⟨p0, p1, p2⟩ := hat k hkl
          rw [Nat.mul_comm 3 k] at p0 p1 p2
          have q0 := cell_on p0 HB.out
          have q1 := cell_on p1 HB.out
          have q2 := cell_on p2 HB.out
          have hla := HLC.out _ (mem_getD (z := nA) hkl)
          have hone := pj_one (f := wAt) (sep := [32, 124, 32]) (xs := c) nA (by omega)
          have hsuc := fun h => pj_succ (f := wAt) (sep := [32, 124, 32]) (xs := c) nA (i := k) h hkl
          obtain ⟨a, haa⟩ : ∃ a, c.getD k nA = a := ⟨_, rfl⟩
          rw [haa] at q0 q1 q2 hla hsuc
          have HSUC := Lib.hid hsuc
          have HONE := Lib.hid hone
          have HAA := Lib.hid haa
          have HKL := Lib.hid hkl
          have cm := fun w => ymayAtom_any a w (by omega) (by omega)
          have ct := fun w => yatom_any a w (by omega) (by omega)
          have hwl := wAt_len a
          have hws : (S (wAt a)).size ≤ 78 := by rw [S_size]; exact hwl
          have f1 := fun w => run_string_add_sum (P := Tryz.prog) w Y ⟨#[32, 124, 32]⟩ (by simp only [s3, maxLen]; omega)
          have f2 := fun w => run_string_add_sum (P := Tryz.prog) w (Y ++ ⟨#[32, 124, 32]⟩) (S (wAt a)) (by simp only [ByteArray.size_append, s3, maxLen]; omega)
          have f3 := fun w => run_string_add_sum (P := Tryz.prog) w Y (S (wAt a)) (by first | omega | (simp only [maxLen]; omega))
          unfold aV at cm ct
          have hz2 : (Y ++ ⟨#[32, 124, 32]⟩ ++ S (wAt a)).size ≤ 7300 + 81 * (k + 1) := by simp only [ByteArray.size_append, s3]; omega
          have hz3 : (Y ++ S (wAt a)).size ≤ 7300 + 81 * (k + 1) := by simp only [ByteArray.size_append, s3]; omega
          have HZ := Lib.hid (⟨hz2, hz3⟩ : _ ∧ _)
          clear hat p0 p1 p2 hla hone hsuc haa hkl hwl hws hz2 hz3
          have bW : Below wr.heap.size wr (wr.alloc (.cells #[.string (S a.1), .int .i64 a.2.1, .string (S a.2.2)] 82)) := (Below.refl _ _).alloc (Nat.le_refl _) _
          obtain ⟨i0, i1, i2⟩ := cells3 (Blk.Is.new wr 82 #[.string (S a.1), .int .i64 a.2.1, .string (S a.2.2)])
          have BW := Lib.hid (HB.out.trans (bW.mono HB.out.size))
          obtain ⟨bb, hbb⟩ : ∃ bb, wr.heap.size = bb := ⟨_, rfl⟩
          rw [hbb] at i0 i1 i2
          clear bW HB
          obtain ⟨A, hA⟩ : ∃ A, S (wAt a) = A := ⟨_, rfl⟩
          have HA := Lib.hid hA
          rw [hA] at ct f2 f3 HZ
          clear hA
          by_cases hk0 : k = 0
          · have hkk : ¬ (0 : Int) < (k : Int) := by omega
            have HK0 := Lib.hid hk0
            clear hk0
            go_wp2_with fail
            refine (cm _).mono ?_
            rintro e w1 ⟨rfl, k1⟩
            have j0 := cell_on i0 k1
            have j1 := cell_on i1 k1
            have j2 := cell_on i2 k1
            have B1 := Lib.hid (tr BW.out k1)
            cases hmay : may a with
            | false =>
              go_wp2_with fail
              go_ret
              refine ⟨?_, B1.out⟩
              have hno : wCl c = [] := wrt_none (z := nA) HKL.out (by rw [HAA.out]; exact wAt_no hmay)
              rw [HNONE.out hno]
              rfl
            | true =>
              have HMAY := Lib.hid hmay
              clear hmay
              go_wp2_with fail
              refine (ct _).mono ?_
              rintro e w2 ⟨rfl, k2⟩
              have B2 := Lib.hid (tr B1.out k2)
              clear k2 k1 j0 j1 j2
              go_wp2_with fail
              go_roundg (gk - 1)
              case measure => omega
              case rel =>
                refine ⟨k + 1, _, by go_num, rfl, Lib.hid ?_, HZ.out.2, Lib.hid (fun j hj => ?_), by omega, by omega, B2⟩
                · have hk0 := HK0.out
                  subst hk0
                  rw [HY.out, ← HA.out, HONE.out, HAA.out, pj_zero, List.append_nil, S_app]
                · by_cases hj' : j < k
                  · exact HQ.out j hj'
                  · obtain rfl : j = k := by omega
                    rw [HAA.out]
                    exact HMAY.out
          have hkk : (0 : Int) < (k : Int) := by omega
          have HK0 := Lib.hid hk0
          clear hk0
          go_wp2_with fail
          refine (cm _).mono ?_
          rintro e w1 ⟨rfl, k1⟩
          have j0 := cell_on i0 k1
          have j1 := cell_on i1 k1
          have j2 := cell_on i2 k1
          have B1 := Lib.hid (tr BW.out k1)
          cases hmay : may a with
          | false =>
            go_wp2_with fail
            go_ret
            refine ⟨?_, B1.out⟩
            have hno : wCl c = [] := wrt_none (z := nA) HKL.out (by rw [HAA.out]; exact wAt_no hmay)
            rw [HNONE.out hno]
            rfl
          | true =>
            have HMAY := Lib.hid hmay
            clear hmay
            go_wp2_with fail
            refine (ct _).mono ?_
            rintro e w2 ⟨rfl, k2⟩
            have B2 := Lib.hid (tr B1.out k2)
            clear k2 k1 j0 j1 j2
            go_wp2_with fail
            go_roundg (gk - 1)
            case measure => omega
            case rel =>
              refine ⟨k + 1, _, by go_num, rfl, Lib.hid ?_, HZ.out.1, Lib.hid (fun j hj => ?_), by omega, by omega, B2⟩
              · rw [HY.out, ← HA.out, HSUC.out (by have := HK0.out; omega), show (⟨#[32, 124, 32]⟩ : ByteArray) = S [32, 124, 32] from rfl, S_app, S_app]
                exact congrArg S (by simp)
              · by_cases hj' : j < k
                · exact HQ.out j hj'
                · obtain rfl : j = k := by omega
                  rw [HAA.out]
                  exact HMAY.out
        · obtain rfl : k = M := by omega
          have hk' : ¬ (k : Int) < (k : Int) := by omega
          obtain ⟨hw1, hw2⟩ := wCl_yes (c := c) (by rw [HM.out]; omega) (by rw [HM.out]; omega) (fun j hj => HQ.out j (by rw [← HM.out]; exact hj))
          rw [HM.out] at hw1
          have HW := Lib.hid (⟨hw1, hw2⟩ : _ ∧ _)
          clear hw1 hw2
          go_wp2_with fail
          go_roundg og
          case measure => omega
          case rel =>
            have hE : Y = S (pj wCl [44, 32] l (i + 1)) := by
              rw [HY.out, pj_succ (f := wCl) (sep := [44, 32]) [] (by have := HI0.out; omega) HIL.out, HCC.out, HW.out.1, ← S_app, ← HBB.out, HX.out, show (⟨#[44, 32]⟩ : ByteArray) = S [44, 32] from rfl, S_app, S_app]
              exact congrArg S (by simp)
            refine ⟨i + 1, _, by go_num, rfl, Lib.hid hE, ?_, Lib.hid (fun j hj => ?_), by omega, by omega, HB⟩
            · have hlen := pj_len (f := wCl) (sep := [44, 32]) (xs := l) (i := i + 1) wCl_len
              simp only [List.length_cons, List.length_nil] at hlen
              rw [hE, S_size]
              omega
            · by_cases hj' : j < i
              · exact HP.out j hj'
              · obtain rfl : j = i := by omega
                rw [HCC.out]
                exact HW.out.2
    · obtain rfl : i = N := by omega
      have hi' : ¬ (i : Int) < (i : Int) := by omega
      go_wp2_with fail
      go_ret
      refine ⟨?_, HB.out⟩
      rw [← HT.out, show text l = _ from wrt_all (z := []) (by rw [HN.out]; omega) (fun j hj => HP.out j (by rw [← HN.out]; exact hj)), HN.out, HX.out]
      rfl
end Rl
end Go.Proofs.YtapmpdljapbpeaaGreatDoor

/-
The walk of the law RelationBack (made by gen/relback.py).
-/
import Derived.Test.YtddfjndclgapcaaDoorRelUni
import Derived.Test.YtddfjndclgapcaaDoorRelWriteP
import Derived.Test.YtddfjndclgapcaaDoorRelBack
import Derived.Test.YtddfjndclgapcaaDoorRelLight
namespace Go.Proofs.YtddfjndclgapcaaDoor
open Go.RowKit
set_option linter.unusedSimpArgs false
set_option linter.unusedVariables false
namespace Rl
open Ver (Bs li li_len li_drop S S_self S_of S_size S_li below_drewN empty_is empty_no MaxLen Signs)
theorem tr3 {w a b : World} (h : Below w.heap.size w a) (k : Below a.heap.size a b) : Below w.heap.size w b := h.trans (k.mono h.size)
theorem wrt_len {α : Type} {most m : Nat} {sep : Bs} {f : α → Bs} (l : List α) (h : ∀ x, (f x).length ≤ m) : (wrt most sep f l).length ≤ most * (m + sep.length) := by
  unfold wrt
  split
  · simp
  · split
    · simp
    · rename_i h0 _
      have := join_len sep m (l.map f) fun l hl => by
        obtain ⟨a, _, rfl⟩ := List.mem_map.1 hl
        exact h a
      rw [List.length_map] at this
      exact Nat.le_trans this (Nat.mul_le_mul_right _ (by omega))
theorem text_sz (l : List (List At)) : (S (text l)).size ≤ 10000 := by
  rw [S_size]
  exact Nat.le_trans (wrt_len l wCl_len) (by decide)
theorem atoms_sz (l : List At) : (S (atoms l)).size ≤ 10000 := by
  rw [S_size]
  exact Nat.le_trans (wrt_len l wAt_len) (by decide)
theorem provs_sz (l : List Pv) : (S (provs l)).size ≤ 10000 := by
  rw [S_size]
  exact Nat.le_trans (wrt_len l fun p => wAt_len (pvA p)) (by decide)
theorem bParse (l : List (List At)) (w : World) (h : text l ≠ [] ∨ l = []) (hv : Vars w) : Calls Tryd.prog 9 #[.string (S (text l))] w fun e w' => Below w.heap.size w w' ∧ ∃ v, e = .returned (.tuple #[v, .int .i64 0]) ∧ Clss w' v l := by
  have := uParse (S (text l)) w (by have := text_sz l; omega) hv
  unfold UC at this
  rw [S_li, text_own h] at this
  exact this
theorem bAtoms (l : List At) (w : World) (h : atoms l ≠ [] ∨ l = []) (hv : Vars w) : Calls Tryd.prog 11 #[.string (S (atoms l))] w fun e w' => Below w.heap.size w w' ∧ ∃ v, e = .returned (.tuple #[v, .int .i64 0]) ∧ Ats w' v l := by
  have := uAtoms (S (atoms l)) w (by have := atoms_sz l; omega) hv
  unfold UA at this
  rw [S_li, atoms_own h] at this
  exact this
theorem bProvides (l : List Pv) (w : World) (h : provs l ≠ [] ∨ l = []) (hv : Vars w) : Calls Tryd.prog 13 #[.string (S (provs l))] w fun e w' => Below w.heap.size w w' ∧ ∃ v, e = .returned (.tuple #[v, .int .i64 0]) ∧ Pvs w' v l := by
  have := uProvides (S (provs l)) w (by have := provs_sz l; omega) hv
  unfold UP at this
  rw [S_li, provs_own h] at this
  exact this
theorem S_none {x : Bs} (h : x = []) : (S x).toList.isEmpty = true := by subst h; exact isEmpty_S []
theorem S_some {x : Bs} (h : x ≠ []) : (S x).toList.isEmpty = false := (empty_no (by rw [S_size]; exact fun e => h (List.eq_nil_of_length_eq_zero e))).1
set_option maxRecDepth 100000 in
set_option maxHeartbeats 64000000 in
theorem back_walk (v0 v1 v2 : Value) (l : List (List At)) (a : List At) (p : List Pv) (w : World) (hl : Clss w v0 l) (ha : Ats w v1 a) (hp : Pvs w v2 p) (kl : LimC l) (ka : LimA a) (kp : LimP p) (hv : Vars w) :
    Calls Tryd.prog 6 #[v0, v1, v2] w fun e w' => e = .returned (.bool true) ∧ Below w.heap.size w w' := by
  obtain ⟨a0, b0, rfl⟩ := hl.shape
  obtain ⟨a1, b1, rfl⟩ := ha.shape
  obtain ⟨a2, b2, rfl⟩ := hp.shape
  have c0 := light_any _ l w hl
  have nl := hl.1
  have na := ha.1
  have np := hp.1
  have HM := Lib.hid (⟨hl, ha, hp⟩ : _ ∧ _ ∧ _)
  have HL := Lib.hid (⟨kl, ka, kp⟩ : _ ∧ _ ∧ _)
  have HV := Lib.hid hv
  have HK := Lib.hid (Below.refl w.heap.size w)
  clear hl ha hp kl ka kp hv
  obtain ⟨L, eL⟩ : ∃ L, l.length = L := ⟨_, rfl⟩
  obtain ⟨A, eA⟩ : ∃ A, a.length = A := ⟨_, rfl⟩
  obtain ⟨P, eP⟩ : ∃ P, p.length = P := ⟨_, rfl⟩
  have EL := Lib.hid (⟨eL, eA, eP⟩ : _ ∧ _ ∧ _)
  rw [eL] at nl c0
  rw [eA] at na
  rw [eP] at np
  rw [eL, eA, eP]
  clear eL eA eP
  obtain ⟨G, hG⟩ : ∃ G, lightB l = G := ⟨_, rfl⟩
  rw [hG] at c0
  clear hG
  obtain ⟨w0, hw0⟩ : ∃ w0, w = w0 := ⟨_, rfl⟩
  have HW := Lib.hid hw0
  clear hw0
  go_enter Tryd.func6, Tryd.ntmps6
  go_wp2_with fail
  refine c0.mono ?_
  rintro e w1 ⟨rfl, hw1⟩
  subst hw1
  clear c0
  cases G with
  | false =>
    go_wp2_with fail
    refine (awake_any _ HV.out).mono ?_
    rintro e w4 ⟨rfl, k4⟩
    have K4 := tr3 HK.out k4
    go_wp2_with fail
    go_ret
    exact ⟨rfl, K4⟩
  | true =>
    by_cases hA : 30 < A
    · have hA' : (30 : Int) < A := by omega
      go_wp2_with fail
      refine (awake_any _ HV.out).mono ?_
      rintro e w4 ⟨rfl, k4⟩
      have K4 := tr3 HK.out k4
      go_wp2_with fail
      go_ret
      exact ⟨rfl, K4⟩
    · have hA' : ¬ (30 : Int) < A := by omega
      by_cases hP : 30 < P
      · have hP' : (30 : Int) < P := by omega
        go_wp2_with fail
        refine (awake_any _ HV.out).mono ?_
        rintro e w4 ⟨rfl, k4⟩
        have K4 := tr3 HK.out k4
        go_wp2_with fail
        go_ret
        exact ⟨rfl, K4⟩
      · have hP' : ¬ (30 : Int) < P := by omega
        go_wp2_with fail
        clear hA hA' hP hP' nl na np
        have ct := Text_any _ l _ HM.out.1 HL.out.1 HV.out
        rw [EL.out.1] at ct
        refine ct.mono ?_
        rintro e w2 ⟨rfl, k2⟩
        clear ct
        have HM2 := Lib.hid (⟨HM.out.1.below k2, HM.out.2.1.below k2, HM.out.2.2.below k2⟩ : _ ∧ _ ∧ _)
        have HV2 := Lib.hid (HV.out.on k2)
        have HK2 := Lib.hid (tr3 HK.out k2)
        clear HM HV HK
        have HM := HM2
        have HV := HV2
        have HK := HK2
        clear HM2 HV2 HK2
        clear k2
        by_cases ht : text l = []
        · have he := S_none ht
          by_cases hx : l = []
          · have hn0 : L = 0 := by rw [← EL.out.1, hx]; rfl
            have hn : (L : Int) = 0 := by omega
            clear hn0
            obtain ⟨T, hT⟩ : ∃ T, S (text l) = T := ⟨_, rfl⟩
            have cp := bParse l _ (.inr hx) HV.out
            have hb : (T.toList == T.toList) = true := beq_self_eq_true _
            rw [hT] at he cp ⊢
            go_wp2_with fail
            refine cp.mono ?_
            rintro e w3 ⟨k3, v3, rfl, m3⟩
            have HC := Lib.hid m3
            have HM2 := Lib.hid (⟨HM.out.1.below k3, HM.out.2.1.below k3, HM.out.2.2.below k3⟩ : _ ∧ _ ∧ _)
            have HV2 := Lib.hid (HV.out.on k3)
            have HK2 := Lib.hid (tr3 HK.out k3)
            clear HM HV HK
            have HM := HM2
            have HV := HV2
            have HK := HK2
            clear HM2 HV2 HK2
            clear k3 cp m3 he
            have cs := sameClauses_any _ v3 _ _ _ HM.out.1 HC.out
            rw [decide_eq_true rfl, EL.out.1] at cs
            obtain ⟨a3, b3, e3⟩ := HC.out.shape
            rw [EL.out.1] at e3
            subst e3
            go_wp2_with fail
            refine cs.mono ?_
            rintro e w5 ⟨rfl, hd5⟩
            have k5 := drewn_below hd5
            have HC2 := Lib.hid (HC.out.below k5)
            have HM2 := Lib.hid (⟨HM.out.1.below k5, HM.out.2.1.below k5, HM.out.2.2.below k5⟩ : _ ∧ _ ∧ _)
            have HV2 := Lib.hid (HV.out.on k5)
            have HK2 := Lib.hid (tr3 HK.out k5)
            clear HM HV HK
            have HM := HM2
            have HV := HV2
            have HK := HK2
            clear HM2 HV2 HK2
            clear hd5 k5 cs HC
            have ct := Text_any _ l _ HC2.out HL.out.1 HV.out
            rw [hT] at ct
            go_wp2_with fail
            refine ct.mono ?_
            rintro e w6 ⟨rfl, k6⟩
            have HM2 := Lib.hid (⟨HM.out.1.below k6, HM.out.2.1.below k6, HM.out.2.2.below k6⟩ : _ ∧ _ ∧ _)
            have HV2 := Lib.hid (HV.out.on k6)
            have HK2 := Lib.hid (tr3 HK.out k6)
            clear HM HV HK
            have HM := HM2
            have HV := HV2
            have HK := HK2
            clear HM2 HV2 HK2
            clear k6 ct
            clear HC2
            go_wp2_with fail
            clear hb hT
            have ct := Atoms_any _ a _ HM.out.2.1 HL.out.2.1 HV.out
            rw [EL.out.2.1] at ct
            refine ct.mono ?_
            rintro e w2 ⟨rfl, k2⟩
            clear ct
            have HM2 := Lib.hid (⟨HM.out.1.below k2, HM.out.2.1.below k2, HM.out.2.2.below k2⟩ : _ ∧ _ ∧ _)
            have HV2 := Lib.hid (HV.out.on k2)
            have HK2 := Lib.hid (tr3 HK.out k2)
            clear HM HV HK
            have HM := HM2
            have HV := HV2
            have HK := HK2
            clear HM2 HV2 HK2
            clear k2
            by_cases ht : atoms a = []
            · have he := S_none ht
              by_cases hx : a = []
              · have hn0 : A = 0 := by rw [← EL.out.2.1, hx]; rfl
                have hn : (A : Int) = 0 := by omega
                clear hn0
                obtain ⟨T, hT⟩ : ∃ T, S (atoms a) = T := ⟨_, rfl⟩
                have cp := bAtoms a _ (.inr hx) HV.out
                have hb : (T.toList == T.toList) = true := beq_self_eq_true _
                rw [hT] at he cp ⊢
                go_wp2_with fail
                refine cp.mono ?_
                rintro e w3 ⟨k3, v3, rfl, m3⟩
                have HC := Lib.hid m3
                have HM2 := Lib.hid (⟨HM.out.1.below k3, HM.out.2.1.below k3, HM.out.2.2.below k3⟩ : _ ∧ _ ∧ _)
                have HV2 := Lib.hid (HV.out.on k3)
                have HK2 := Lib.hid (tr3 HK.out k3)
                clear HM HV HK
                have HM := HM2
                have HV := HV2
                have HK := HK2
                clear HM2 HV2 HK2
                clear k3 cp m3 he
                have cs := sameAtoms_any _ v3 _ _ _ HM.out.2.1 HC.out
                rw [decide_eq_true rfl, EL.out.2.1] at cs
                obtain ⟨a3, b3, e3⟩ := HC.out.shape
                rw [EL.out.2.1] at e3
                subst e3
                go_wp2_with fail
                refine cs.mono ?_
                rintro e w5 ⟨rfl, hd5⟩
                have k5 := drewn_below hd5
                have HC2 := Lib.hid (HC.out.below k5)
                have HM2 := Lib.hid (⟨HM.out.1.below k5, HM.out.2.1.below k5, HM.out.2.2.below k5⟩ : _ ∧ _ ∧ _)
                have HV2 := Lib.hid (HV.out.on k5)
                have HK2 := Lib.hid (tr3 HK.out k5)
                clear HM HV HK
                have HM := HM2
                have HV := HV2
                have HK := HK2
                clear HM2 HV2 HK2
                clear hd5 k5 cs HC
                clear HC2
                go_wp2_with fail
                clear hb hT
                have ct := Provides_any _ p _ HM.out.2.2 HL.out.2.2 HV.out
                rw [EL.out.2.2] at ct
                refine ct.mono ?_
                rintro e w2 ⟨rfl, k2⟩
                clear ct
                have HM2 := Lib.hid (⟨HM.out.1.below k2, HM.out.2.1.below k2, HM.out.2.2.below k2⟩ : _ ∧ _ ∧ _)
                have HV2 := Lib.hid (HV.out.on k2)
                have HK2 := Lib.hid (tr3 HK.out k2)
                clear HM HV HK
                have HM := HM2
                have HV := HV2
                have HK := HK2
                clear HM2 HV2 HK2
                clear k2
                by_cases ht : provs p = []
                · have he := S_none ht
                  by_cases hx : p = []
                  · have hn0 : P = 0 := by rw [← EL.out.2.2, hx]; rfl
                    have hn : (P : Int) = 0 := by omega
                    clear hn0
                    obtain ⟨T, hT⟩ : ∃ T, S (provs p) = T := ⟨_, rfl⟩
                    have cp := bProvides p _ (.inr hx) HV.out
                    have hb : (T.toList == T.toList) = true := beq_self_eq_true _
                    rw [hT] at he cp ⊢
                    go_wp2_with fail
                    refine cp.mono ?_
                    rintro e w3 ⟨k3, v3, rfl, m3⟩
                    have HC := Lib.hid m3
                    have HM2 := Lib.hid (⟨HM.out.1.below k3, HM.out.2.1.below k3, HM.out.2.2.below k3⟩ : _ ∧ _ ∧ _)
                    have HV2 := Lib.hid (HV.out.on k3)
                    have HK2 := Lib.hid (tr3 HK.out k3)
                    clear HM HV HK
                    have HM := HM2
                    have HV := HV2
                    have HK := HK2
                    clear HM2 HV2 HK2
                    clear k3 cp m3 he
                    have cs := sameProvides_any _ v3 _ _ _ HM.out.2.2 HC.out
                    rw [decide_eq_true rfl, EL.out.2.2] at cs
                    obtain ⟨a3, b3, e3⟩ := HC.out.shape
                    rw [EL.out.2.2] at e3
                    subst e3
                    go_wp2_with fail
                    refine cs.mono ?_
                    rintro e w5 ⟨rfl, hd5⟩
                    have k5 := drewn_below hd5
                    have HC2 := Lib.hid (HC.out.below k5)
                    have HM2 := Lib.hid (⟨HM.out.1.below k5, HM.out.2.1.below k5, HM.out.2.2.below k5⟩ : _ ∧ _ ∧ _)
                    have HV2 := Lib.hid (HV.out.on k5)
                    have HK2 := Lib.hid (tr3 HK.out k5)
                    clear HM HV HK
                    have HM := HM2
                    have HV := HV2
                    have HK := HK2
                    clear HM2 HV2 HK2
                    clear hd5 k5 cs HC
                    clear HC2
                    go_wp2_with fail
                    clear hb hT
                    refine (awake_any _ HV.out).mono ?_
                    rintro e w4 ⟨rfl, k4⟩
                    have K4 := tr3 HK.out k4
                    go_wp2_with fail
                    go_ret
                    exact ⟨rfl, K4⟩
                  · have hn0 : P ≠ 0 := fun e => hx (List.eq_nil_of_length_eq_zero (by rw [EL.out.2.2, e]))
                    have hn : (P : Int) ≠ 0 := by omega
                    clear hn0
                    generalize S (provs p) = T at *
                    go_wp2_with fail
                    clear he hn
                    refine (awake_any _ HV.out).mono ?_
                    rintro e w4 ⟨rfl, k4⟩
                    have K4 := tr3 HK.out k4
                    go_wp2_with fail
                    go_ret
                    exact ⟨rfl, K4⟩
                · have he := S_some ht
                  obtain ⟨T, hT⟩ : ∃ T, S (provs p) = T := ⟨_, rfl⟩
                  have cp := bProvides p _ (.inl ht) HV.out
                  have hb : (T.toList == T.toList) = true := beq_self_eq_true _
                  rw [hT] at he cp ⊢
                  go_wp2_with fail
                  refine cp.mono ?_
                  rintro e w3 ⟨k3, v3, rfl, m3⟩
                  have HC := Lib.hid m3
                  have HM2 := Lib.hid (⟨HM.out.1.below k3, HM.out.2.1.below k3, HM.out.2.2.below k3⟩ : _ ∧ _ ∧ _)
                  have HV2 := Lib.hid (HV.out.on k3)
                  have HK2 := Lib.hid (tr3 HK.out k3)
                  clear HM HV HK
                  have HM := HM2
                  have HV := HV2
                  have HK := HK2
                  clear HM2 HV2 HK2
                  clear k3 cp m3 he
                  have cs := sameProvides_any _ v3 _ _ _ HM.out.2.2 HC.out
                  rw [decide_eq_true rfl, EL.out.2.2] at cs
                  obtain ⟨a3, b3, e3⟩ := HC.out.shape
                  rw [EL.out.2.2] at e3
                  subst e3
                  go_wp2_with fail
                  refine cs.mono ?_
                  rintro e w5 ⟨rfl, hd5⟩
                  have k5 := drewn_below hd5
                  have HC2 := Lib.hid (HC.out.below k5)
                  have HM2 := Lib.hid (⟨HM.out.1.below k5, HM.out.2.1.below k5, HM.out.2.2.below k5⟩ : _ ∧ _ ∧ _)
                  have HV2 := Lib.hid (HV.out.on k5)
                  have HK2 := Lib.hid (tr3 HK.out k5)
                  clear HM HV HK
                  have HM := HM2
                  have HV := HV2
                  have HK := HK2
                  clear HM2 HV2 HK2
                  clear hd5 k5 cs HC
                  clear HC2
                  go_wp2_with fail
                  clear hb hT
                  refine (awake_any _ HV.out).mono ?_
                  rintro e w4 ⟨rfl, k4⟩
                  have K4 := tr3 HK.out k4
                  go_wp2_with fail
                  go_ret
                  exact ⟨rfl, K4⟩
              · have hn0 : A ≠ 0 := fun e => hx (List.eq_nil_of_length_eq_zero (by rw [EL.out.2.1, e]))
                have hn : (A : Int) ≠ 0 := by omega
                clear hn0
                generalize S (atoms a) = T at *
                go_wp2_with fail
                clear he hn
                have ct := Provides_any _ p _ HM.out.2.2 HL.out.2.2 HV.out
                rw [EL.out.2.2] at ct
                refine ct.mono ?_
                rintro e w2 ⟨rfl, k2⟩
                clear ct
                have HM2 := Lib.hid (⟨HM.out.1.below k2, HM.out.2.1.below k2, HM.out.2.2.below k2⟩ : _ ∧ _ ∧ _)
                have HV2 := Lib.hid (HV.out.on k2)
                have HK2 := Lib.hid (tr3 HK.out k2)
                clear HM HV HK
                have HM := HM2
                have HV := HV2
                have HK := HK2
                clear HM2 HV2 HK2
                clear k2
                by_cases ht : provs p = []
                · have he := S_none ht
                  by_cases hx : p = []
                  · have hn0 : P = 0 := by rw [← EL.out.2.2, hx]; rfl
                    have hn : (P : Int) = 0 := by omega
                    clear hn0
                    obtain ⟨T, hT⟩ : ∃ T, S (provs p) = T := ⟨_, rfl⟩
                    have cp := bProvides p _ (.inr hx) HV.out
                    have hb : (T.toList == T.toList) = true := beq_self_eq_true _
                    rw [hT] at he cp ⊢
                    go_wp2_with fail
                    refine cp.mono ?_
                    rintro e w3 ⟨k3, v3, rfl, m3⟩
                    have HC := Lib.hid m3
                    have HM2 := Lib.hid (⟨HM.out.1.below k3, HM.out.2.1.below k3, HM.out.2.2.below k3⟩ : _ ∧ _ ∧ _)
                    have HV2 := Lib.hid (HV.out.on k3)
                    have HK2 := Lib.hid (tr3 HK.out k3)
                    clear HM HV HK
                    have HM := HM2
                    have HV := HV2
                    have HK := HK2
                    clear HM2 HV2 HK2
                    clear k3 cp m3 he
                    have cs := sameProvides_any _ v3 _ _ _ HM.out.2.2 HC.out
                    rw [decide_eq_true rfl, EL.out.2.2] at cs
                    obtain ⟨a3, b3, e3⟩ := HC.out.shape
                    rw [EL.out.2.2] at e3
                    subst e3
                    go_wp2_with fail
                    refine cs.mono ?_
                    rintro e w5 ⟨rfl, hd5⟩
                    have k5 := drewn_below hd5
                    have HC2 := Lib.hid (HC.out.below k5)
                    have HM2 := Lib.hid (⟨HM.out.1.below k5, HM.out.2.1.below k5, HM.out.2.2.below k5⟩ : _ ∧ _ ∧ _)
                    have HV2 := Lib.hid (HV.out.on k5)
                    have HK2 := Lib.hid (tr3 HK.out k5)
                    clear HM HV HK
                    have HM := HM2
                    have HV := HV2
                    have HK := HK2
                    clear HM2 HV2 HK2
                    clear hd5 k5 cs HC
                    clear HC2
                    go_wp2_with fail
                    clear hb hT
                    refine (awake_any _ HV.out).mono ?_
                    rintro e w4 ⟨rfl, k4⟩
                    have K4 := tr3 HK.out k4
                    go_wp2_with fail
                    go_ret
                    exact ⟨rfl, K4⟩
                  · have hn0 : P ≠ 0 := fun e => hx (List.eq_nil_of_length_eq_zero (by rw [EL.out.2.2, e]))
                    have hn : (P : Int) ≠ 0 := by omega
                    clear hn0
                    generalize S (provs p) = T at *
                    go_wp2_with fail
                    clear he hn
                    refine (awake_any _ HV.out).mono ?_
                    rintro e w4 ⟨rfl, k4⟩
                    have K4 := tr3 HK.out k4
                    go_wp2_with fail
                    go_ret
                    exact ⟨rfl, K4⟩
                · have he := S_some ht
                  obtain ⟨T, hT⟩ : ∃ T, S (provs p) = T := ⟨_, rfl⟩
                  have cp := bProvides p _ (.inl ht) HV.out
                  have hb : (T.toList == T.toList) = true := beq_self_eq_true _
                  rw [hT] at he cp ⊢
                  go_wp2_with fail
                  refine cp.mono ?_
                  rintro e w3 ⟨k3, v3, rfl, m3⟩
                  have HC := Lib.hid m3
                  have HM2 := Lib.hid (⟨HM.out.1.below k3, HM.out.2.1.below k3, HM.out.2.2.below k3⟩ : _ ∧ _ ∧ _)
                  have HV2 := Lib.hid (HV.out.on k3)
                  have HK2 := Lib.hid (tr3 HK.out k3)
                  clear HM HV HK
                  have HM := HM2
                  have HV := HV2
                  have HK := HK2
                  clear HM2 HV2 HK2
                  clear k3 cp m3 he
                  have cs := sameProvides_any _ v3 _ _ _ HM.out.2.2 HC.out
                  rw [decide_eq_true rfl, EL.out.2.2] at cs
                  obtain ⟨a3, b3, e3⟩ := HC.out.shape
                  rw [EL.out.2.2] at e3
                  subst e3
                  go_wp2_with fail
                  refine cs.mono ?_
                  rintro e w5 ⟨rfl, hd5⟩
                  have k5 := drewn_below hd5
                  have HC2 := Lib.hid (HC.out.below k5)
                  have HM2 := Lib.hid (⟨HM.out.1.below k5, HM.out.2.1.below k5, HM.out.2.2.below k5⟩ : _ ∧ _ ∧ _)
                  have HV2 := Lib.hid (HV.out.on k5)
                  have HK2 := Lib.hid (tr3 HK.out k5)
                  clear HM HV HK
                  have HM := HM2
                  have HV := HV2
                  have HK := HK2
                  clear HM2 HV2 HK2
                  clear hd5 k5 cs HC
                  clear HC2
                  go_wp2_with fail
                  clear hb hT
                  refine (awake_any _ HV.out).mono ?_
                  rintro e w4 ⟨rfl, k4⟩
                  have K4 := tr3 HK.out k4
                  go_wp2_with fail
                  go_ret
                  exact ⟨rfl, K4⟩
            · have he := S_some ht
              obtain ⟨T, hT⟩ : ∃ T, S (atoms a) = T := ⟨_, rfl⟩
              have cp := bAtoms a _ (.inl ht) HV.out
              have hb : (T.toList == T.toList) = true := beq_self_eq_true _
              rw [hT] at he cp ⊢
              go_wp2_with fail
              refine cp.mono ?_
              rintro e w3 ⟨k3, v3, rfl, m3⟩
              have HC := Lib.hid m3
              have HM2 := Lib.hid (⟨HM.out.1.below k3, HM.out.2.1.below k3, HM.out.2.2.below k3⟩ : _ ∧ _ ∧ _)
              have HV2 := Lib.hid (HV.out.on k3)
              have HK2 := Lib.hid (tr3 HK.out k3)
              clear HM HV HK
              have HM := HM2
              have HV := HV2
              have HK := HK2
              clear HM2 HV2 HK2
              clear k3 cp m3 he
              have cs := sameAtoms_any _ v3 _ _ _ HM.out.2.1 HC.out
              rw [decide_eq_true rfl, EL.out.2.1] at cs
              obtain ⟨a3, b3, e3⟩ := HC.out.shape
              rw [EL.out.2.1] at e3
              subst e3
              go_wp2_with fail
              refine cs.mono ?_
              rintro e w5 ⟨rfl, hd5⟩
              have k5 := drewn_below hd5
              have HC2 := Lib.hid (HC.out.below k5)
              have HM2 := Lib.hid (⟨HM.out.1.below k5, HM.out.2.1.below k5, HM.out.2.2.below k5⟩ : _ ∧ _ ∧ _)
              have HV2 := Lib.hid (HV.out.on k5)
              have HK2 := Lib.hid (tr3 HK.out k5)
              clear HM HV HK
              have HM := HM2
              have HV := HV2
              have HK := HK2
              clear HM2 HV2 HK2
              clear hd5 k5 cs HC
              clear HC2
              go_wp2_with fail
              clear hb hT
              have ct := Provides_any _ p _ HM.out.2.2 HL.out.2.2 HV.out
              rw [EL.out.2.2] at ct
              refine ct.mono ?_
              rintro e w2 ⟨rfl, k2⟩
              clear ct
              have HM2 := Lib.hid (⟨HM.out.1.below k2, HM.out.2.1.below k2, HM.out.2.2.below k2⟩ : _ ∧ _ ∧ _)
              have HV2 := Lib.hid (HV.out.on k2)
              have HK2 := Lib.hid (tr3 HK.out k2)
              clear HM HV HK
              have HM := HM2
              have HV := HV2
              have HK := HK2
              clear HM2 HV2 HK2
              clear k2
              by_cases ht : provs p = []
              · have he := S_none ht
                by_cases hx : p = []
                · have hn0 : P = 0 := by rw [← EL.out.2.2, hx]; rfl
                  have hn : (P : Int) = 0 := by omega
                  clear hn0
                  obtain ⟨T, hT⟩ : ∃ T, S (provs p) = T := ⟨_, rfl⟩
                  have cp := bProvides p _ (.inr hx) HV.out
                  have hb : (T.toList == T.toList) = true := beq_self_eq_true _
                  rw [hT] at he cp ⊢
                  go_wp2_with fail
                  refine cp.mono ?_
                  rintro e w3 ⟨k3, v3, rfl, m3⟩
                  have HC := Lib.hid m3
                  have HM2 := Lib.hid (⟨HM.out.1.below k3, HM.out.2.1.below k3, HM.out.2.2.below k3⟩ : _ ∧ _ ∧ _)
                  have HV2 := Lib.hid (HV.out.on k3)
                  have HK2 := Lib.hid (tr3 HK.out k3)
                  clear HM HV HK
                  have HM := HM2
                  have HV := HV2
                  have HK := HK2
                  clear HM2 HV2 HK2
                  clear k3 cp m3 he
                  have cs := sameProvides_any _ v3 _ _ _ HM.out.2.2 HC.out
                  rw [decide_eq_true rfl, EL.out.2.2] at cs
                  obtain ⟨a3, b3, e3⟩ := HC.out.shape
                  rw [EL.out.2.2] at e3
                  subst e3
                  go_wp2_with fail
                  refine cs.mono ?_
                  rintro e w5 ⟨rfl, hd5⟩
                  have k5 := drewn_below hd5
                  have HC2 := Lib.hid (HC.out.below k5)
                  have HM2 := Lib.hid (⟨HM.out.1.below k5, HM.out.2.1.below k5, HM.out.2.2.below k5⟩ : _ ∧ _ ∧ _)
                  have HV2 := Lib.hid (HV.out.on k5)
                  have HK2 := Lib.hid (tr3 HK.out k5)
                  clear HM HV HK
                  have HM := HM2
                  have HV := HV2
                  have HK := HK2
                  clear HM2 HV2 HK2
                  clear hd5 k5 cs HC
                  clear HC2
                  go_wp2_with fail
                  clear hb hT
                  refine (awake_any _ HV.out).mono ?_
                  rintro e w4 ⟨rfl, k4⟩
                  have K4 := tr3 HK.out k4
                  go_wp2_with fail
                  go_ret
                  exact ⟨rfl, K4⟩
                · have hn0 : P ≠ 0 := fun e => hx (List.eq_nil_of_length_eq_zero (by rw [EL.out.2.2, e]))
                  have hn : (P : Int) ≠ 0 := by omega
                  clear hn0
                  generalize S (provs p) = T at *
                  go_wp2_with fail
                  clear he hn
                  refine (awake_any _ HV.out).mono ?_
                  rintro e w4 ⟨rfl, k4⟩
                  have K4 := tr3 HK.out k4
                  go_wp2_with fail
                  go_ret
                  exact ⟨rfl, K4⟩
              · have he := S_some ht
                obtain ⟨T, hT⟩ : ∃ T, S (provs p) = T := ⟨_, rfl⟩
                have cp := bProvides p _ (.inl ht) HV.out
                have hb : (T.toList == T.toList) = true := beq_self_eq_true _
                rw [hT] at he cp ⊢
                go_wp2_with fail
                refine cp.mono ?_
                rintro e w3 ⟨k3, v3, rfl, m3⟩
                have HC := Lib.hid m3
                have HM2 := Lib.hid (⟨HM.out.1.below k3, HM.out.2.1.below k3, HM.out.2.2.below k3⟩ : _ ∧ _ ∧ _)
                have HV2 := Lib.hid (HV.out.on k3)
                have HK2 := Lib.hid (tr3 HK.out k3)
                clear HM HV HK
                have HM := HM2
                have HV := HV2
                have HK := HK2
                clear HM2 HV2 HK2
                clear k3 cp m3 he
                have cs := sameProvides_any _ v3 _ _ _ HM.out.2.2 HC.out
                rw [decide_eq_true rfl, EL.out.2.2] at cs
                obtain ⟨a3, b3, e3⟩ := HC.out.shape
                rw [EL.out.2.2] at e3
                subst e3
                go_wp2_with fail
                refine cs.mono ?_
                rintro e w5 ⟨rfl, hd5⟩
                have k5 := drewn_below hd5
                have HC2 := Lib.hid (HC.out.below k5)
                have HM2 := Lib.hid (⟨HM.out.1.below k5, HM.out.2.1.below k5, HM.out.2.2.below k5⟩ : _ ∧ _ ∧ _)
                have HV2 := Lib.hid (HV.out.on k5)
                have HK2 := Lib.hid (tr3 HK.out k5)
                clear HM HV HK
                have HM := HM2
                have HV := HV2
                have HK := HK2
                clear HM2 HV2 HK2
                clear hd5 k5 cs HC
                clear HC2
                go_wp2_with fail
                clear hb hT
                refine (awake_any _ HV.out).mono ?_
                rintro e w4 ⟨rfl, k4⟩
                have K4 := tr3 HK.out k4
                go_wp2_with fail
                go_ret
                exact ⟨rfl, K4⟩
          · have hn0 : L ≠ 0 := fun e => hx (List.eq_nil_of_length_eq_zero (by rw [EL.out.1, e]))
            have hn : (L : Int) ≠ 0 := by omega
            clear hn0
            generalize S (text l) = T at *
            go_wp2_with fail
            clear he hn
            have ct := Atoms_any _ a _ HM.out.2.1 HL.out.2.1 HV.out
            rw [EL.out.2.1] at ct
            refine ct.mono ?_
            rintro e w2 ⟨rfl, k2⟩
            clear ct
            have HM2 := Lib.hid (⟨HM.out.1.below k2, HM.out.2.1.below k2, HM.out.2.2.below k2⟩ : _ ∧ _ ∧ _)
            have HV2 := Lib.hid (HV.out.on k2)
            have HK2 := Lib.hid (tr3 HK.out k2)
            clear HM HV HK
            have HM := HM2
            have HV := HV2
            have HK := HK2
            clear HM2 HV2 HK2
            clear k2
            by_cases ht : atoms a = []
            · have he := S_none ht
              by_cases hx : a = []
              · have hn0 : A = 0 := by rw [← EL.out.2.1, hx]; rfl
                have hn : (A : Int) = 0 := by omega
                clear hn0
                obtain ⟨T, hT⟩ : ∃ T, S (atoms a) = T := ⟨_, rfl⟩
                have cp := bAtoms a _ (.inr hx) HV.out
                have hb : (T.toList == T.toList) = true := beq_self_eq_true _
                rw [hT] at he cp ⊢
                go_wp2_with fail
                refine cp.mono ?_
                rintro e w3 ⟨k3, v3, rfl, m3⟩
                have HC := Lib.hid m3
                have HM2 := Lib.hid (⟨HM.out.1.below k3, HM.out.2.1.below k3, HM.out.2.2.below k3⟩ : _ ∧ _ ∧ _)
                have HV2 := Lib.hid (HV.out.on k3)
                have HK2 := Lib.hid (tr3 HK.out k3)
                clear HM HV HK
                have HM := HM2
                have HV := HV2
                have HK := HK2
                clear HM2 HV2 HK2
                clear k3 cp m3 he
                have cs := sameAtoms_any _ v3 _ _ _ HM.out.2.1 HC.out
                rw [decide_eq_true rfl, EL.out.2.1] at cs
                obtain ⟨a3, b3, e3⟩ := HC.out.shape
                rw [EL.out.2.1] at e3
                subst e3
                go_wp2_with fail
                refine cs.mono ?_
                rintro e w5 ⟨rfl, hd5⟩
                have k5 := drewn_below hd5
                have HC2 := Lib.hid (HC.out.below k5)
                have HM2 := Lib.hid (⟨HM.out.1.below k5, HM.out.2.1.below k5, HM.out.2.2.below k5⟩ : _ ∧ _ ∧ _)
                have HV2 := Lib.hid (HV.out.on k5)
                have HK2 := Lib.hid (tr3 HK.out k5)
                clear HM HV HK
                have HM := HM2
                have HV := HV2
                have HK := HK2
                clear HM2 HV2 HK2
                clear hd5 k5 cs HC
                clear HC2
                go_wp2_with fail
                clear hb hT
                have ct := Provides_any _ p _ HM.out.2.2 HL.out.2.2 HV.out
                rw [EL.out.2.2] at ct
                refine ct.mono ?_
                rintro e w2 ⟨rfl, k2⟩
                clear ct
                have HM2 := Lib.hid (⟨HM.out.1.below k2, HM.out.2.1.below k2, HM.out.2.2.below k2⟩ : _ ∧ _ ∧ _)
                have HV2 := Lib.hid (HV.out.on k2)
                have HK2 := Lib.hid (tr3 HK.out k2)
                clear HM HV HK
                have HM := HM2
                have HV := HV2
                have HK := HK2
                clear HM2 HV2 HK2
                clear k2
                by_cases ht : provs p = []
                · have he := S_none ht
                  by_cases hx : p = []
                  · have hn0 : P = 0 := by rw [← EL.out.2.2, hx]; rfl
                    have hn : (P : Int) = 0 := by omega
                    clear hn0
                    obtain ⟨T, hT⟩ : ∃ T, S (provs p) = T := ⟨_, rfl⟩
                    have cp := bProvides p _ (.inr hx) HV.out
                    have hb : (T.toList == T.toList) = true := beq_self_eq_true _
                    rw [hT] at he cp ⊢
                    go_wp2_with fail
                    refine cp.mono ?_
                    rintro e w3 ⟨k3, v3, rfl, m3⟩
                    have HC := Lib.hid m3
                    have HM2 := Lib.hid (⟨HM.out.1.below k3, HM.out.2.1.below k3, HM.out.2.2.below k3⟩ : _ ∧ _ ∧ _)
                    have HV2 := Lib.hid (HV.out.on k3)
                    have HK2 := Lib.hid (tr3 HK.out k3)
                    clear HM HV HK
                    have HM := HM2
                    have HV := HV2
                    have HK := HK2
                    clear HM2 HV2 HK2
                    clear k3 cp m3 he
                    have cs := sameProvides_any _ v3 _ _ _ HM.out.2.2 HC.out
                    rw [decide_eq_true rfl, EL.out.2.2] at cs
                    obtain ⟨a3, b3, e3⟩ := HC.out.shape
                    rw [EL.out.2.2] at e3
                    subst e3
                    go_wp2_with fail
                    refine cs.mono ?_
                    rintro e w5 ⟨rfl, hd5⟩
                    have k5 := drewn_below hd5
                    have HC2 := Lib.hid (HC.out.below k5)
                    have HM2 := Lib.hid (⟨HM.out.1.below k5, HM.out.2.1.below k5, HM.out.2.2.below k5⟩ : _ ∧ _ ∧ _)
                    have HV2 := Lib.hid (HV.out.on k5)
                    have HK2 := Lib.hid (tr3 HK.out k5)
                    clear HM HV HK
                    have HM := HM2
                    have HV := HV2
                    have HK := HK2
                    clear HM2 HV2 HK2
                    clear hd5 k5 cs HC
                    clear HC2
                    go_wp2_with fail
                    clear hb hT
                    refine (awake_any _ HV.out).mono ?_
                    rintro e w4 ⟨rfl, k4⟩
                    have K4 := tr3 HK.out k4
                    go_wp2_with fail
                    go_ret
                    exact ⟨rfl, K4⟩
                  · have hn0 : P ≠ 0 := fun e => hx (List.eq_nil_of_length_eq_zero (by rw [EL.out.2.2, e]))
                    have hn : (P : Int) ≠ 0 := by omega
                    clear hn0
                    generalize S (provs p) = T at *
                    go_wp2_with fail
                    clear he hn
                    refine (awake_any _ HV.out).mono ?_
                    rintro e w4 ⟨rfl, k4⟩
                    have K4 := tr3 HK.out k4
                    go_wp2_with fail
                    go_ret
                    exact ⟨rfl, K4⟩
                · have he := S_some ht
                  obtain ⟨T, hT⟩ : ∃ T, S (provs p) = T := ⟨_, rfl⟩
                  have cp := bProvides p _ (.inl ht) HV.out
                  have hb : (T.toList == T.toList) = true := beq_self_eq_true _
                  rw [hT] at he cp ⊢
                  go_wp2_with fail
                  refine cp.mono ?_
                  rintro e w3 ⟨k3, v3, rfl, m3⟩
                  have HC := Lib.hid m3
                  have HM2 := Lib.hid (⟨HM.out.1.below k3, HM.out.2.1.below k3, HM.out.2.2.below k3⟩ : _ ∧ _ ∧ _)
                  have HV2 := Lib.hid (HV.out.on k3)
                  have HK2 := Lib.hid (tr3 HK.out k3)
                  clear HM HV HK
                  have HM := HM2
                  have HV := HV2
                  have HK := HK2
                  clear HM2 HV2 HK2
                  clear k3 cp m3 he
                  have cs := sameProvides_any _ v3 _ _ _ HM.out.2.2 HC.out
                  rw [decide_eq_true rfl, EL.out.2.2] at cs
                  obtain ⟨a3, b3, e3⟩ := HC.out.shape
                  rw [EL.out.2.2] at e3
                  subst e3
                  go_wp2_with fail
                  refine cs.mono ?_
                  rintro e w5 ⟨rfl, hd5⟩
                  have k5 := drewn_below hd5
                  have HC2 := Lib.hid (HC.out.below k5)
                  have HM2 := Lib.hid (⟨HM.out.1.below k5, HM.out.2.1.below k5, HM.out.2.2.below k5⟩ : _ ∧ _ ∧ _)
                  have HV2 := Lib.hid (HV.out.on k5)
                  have HK2 := Lib.hid (tr3 HK.out k5)
                  clear HM HV HK
                  have HM := HM2
                  have HV := HV2
                  have HK := HK2
                  clear HM2 HV2 HK2
                  clear hd5 k5 cs HC
                  clear HC2
                  go_wp2_with fail
                  clear hb hT
                  refine (awake_any _ HV.out).mono ?_
                  rintro e w4 ⟨rfl, k4⟩
                  have K4 := tr3 HK.out k4
                  go_wp2_with fail
                  go_ret
                  exact ⟨rfl, K4⟩
              · have hn0 : A ≠ 0 := fun e => hx (List.eq_nil_of_length_eq_zero (by rw [EL.out.2.1, e]))
                have hn : (A : Int) ≠ 0 := by omega
                clear hn0
                generalize S (atoms a) = T at *
                go_wp2_with fail
                clear he hn
                have ct := Provides_any _ p _ HM.out.2.2 HL.out.2.2 HV.out
                rw [EL.out.2.2] at ct
                refine ct.mono ?_
                rintro e w2 ⟨rfl, k2⟩
                clear ct
                have HM2 := Lib.hid (⟨HM.out.1.below k2, HM.out.2.1.below k2, HM.out.2.2.below k2⟩ : _ ∧ _ ∧ _)
                have HV2 := Lib.hid (HV.out.on k2)
                have HK2 := Lib.hid (tr3 HK.out k2)
                clear HM HV HK
                have HM := HM2
                have HV := HV2
                have HK := HK2
                clear HM2 HV2 HK2
                clear k2
                by_cases ht : provs p = []
                · have he := S_none ht
                  by_cases hx : p = []
                  · have hn0 : P = 0 := by rw [← EL.out.2.2, hx]; rfl
                    have hn : (P : Int) = 0 := by omega
                    clear hn0
                    obtain ⟨T, hT⟩ : ∃ T, S (provs p) = T := ⟨_, rfl⟩
                    have cp := bProvides p _ (.inr hx) HV.out
                    have hb : (T.toList == T.toList) = true := beq_self_eq_true _
                    rw [hT] at he cp ⊢
                    go_wp2_with fail
                    refine cp.mono ?_
                    rintro e w3 ⟨k3, v3, rfl, m3⟩
                    have HC := Lib.hid m3
                    have HM2 := Lib.hid (⟨HM.out.1.below k3, HM.out.2.1.below k3, HM.out.2.2.below k3⟩ : _ ∧ _ ∧ _)
                    have HV2 := Lib.hid (HV.out.on k3)
                    have HK2 := Lib.hid (tr3 HK.out k3)
                    clear HM HV HK
                    have HM := HM2
                    have HV := HV2
                    have HK := HK2
                    clear HM2 HV2 HK2
                    clear k3 cp m3 he
                    have cs := sameProvides_any _ v3 _ _ _ HM.out.2.2 HC.out
                    rw [decide_eq_true rfl, EL.out.2.2] at cs
                    obtain ⟨a3, b3, e3⟩ := HC.out.shape
                    rw [EL.out.2.2] at e3
                    subst e3
                    go_wp2_with fail
                    refine cs.mono ?_
                    rintro e w5 ⟨rfl, hd5⟩
                    have k5 := drewn_below hd5
                    have HC2 := Lib.hid (HC.out.below k5)
                    have HM2 := Lib.hid (⟨HM.out.1.below k5, HM.out.2.1.below k5, HM.out.2.2.below k5⟩ : _ ∧ _ ∧ _)
                    have HV2 := Lib.hid (HV.out.on k5)
                    have HK2 := Lib.hid (tr3 HK.out k5)
                    clear HM HV HK
                    have HM := HM2
                    have HV := HV2
                    have HK := HK2
                    clear HM2 HV2 HK2
                    clear hd5 k5 cs HC
                    clear HC2
                    go_wp2_with fail
                    clear hb hT
                    refine (awake_any _ HV.out).mono ?_
                    rintro e w4 ⟨rfl, k4⟩
                    have K4 := tr3 HK.out k4
                    go_wp2_with fail
                    go_ret
                    exact ⟨rfl, K4⟩
                  · have hn0 : P ≠ 0 := fun e => hx (List.eq_nil_of_length_eq_zero (by rw [EL.out.2.2, e]))
                    have hn : (P : Int) ≠ 0 := by omega
                    clear hn0
                    generalize S (provs p) = T at *
                    go_wp2_with fail
                    clear he hn
                    refine (awake_any _ HV.out).mono ?_
                    rintro e w4 ⟨rfl, k4⟩
                    have K4 := tr3 HK.out k4
                    go_wp2_with fail
                    go_ret
                    exact ⟨rfl, K4⟩
                · have he := S_some ht
                  obtain ⟨T, hT⟩ : ∃ T, S (provs p) = T := ⟨_, rfl⟩
                  have cp := bProvides p _ (.inl ht) HV.out
                  have hb : (T.toList == T.toList) = true := beq_self_eq_true _
                  rw [hT] at he cp ⊢
                  go_wp2_with fail
                  refine cp.mono ?_
                  rintro e w3 ⟨k3, v3, rfl, m3⟩
                  have HC := Lib.hid m3
                  have HM2 := Lib.hid (⟨HM.out.1.below k3, HM.out.2.1.below k3, HM.out.2.2.below k3⟩ : _ ∧ _ ∧ _)
                  have HV2 := Lib.hid (HV.out.on k3)
                  have HK2 := Lib.hid (tr3 HK.out k3)
                  clear HM HV HK
                  have HM := HM2
                  have HV := HV2
                  have HK := HK2
                  clear HM2 HV2 HK2
                  clear k3 cp m3 he
                  have cs := sameProvides_any _ v3 _ _ _ HM.out.2.2 HC.out
                  rw [decide_eq_true rfl, EL.out.2.2] at cs
                  obtain ⟨a3, b3, e3⟩ := HC.out.shape
                  rw [EL.out.2.2] at e3
                  subst e3
                  go_wp2_with fail
                  refine cs.mono ?_
                  rintro e w5 ⟨rfl, hd5⟩
                  have k5 := drewn_below hd5
                  have HC2 := Lib.hid (HC.out.below k5)
                  have HM2 := Lib.hid (⟨HM.out.1.below k5, HM.out.2.1.below k5, HM.out.2.2.below k5⟩ : _ ∧ _ ∧ _)
                  have HV2 := Lib.hid (HV.out.on k5)
                  have HK2 := Lib.hid (tr3 HK.out k5)
                  clear HM HV HK
                  have HM := HM2
                  have HV := HV2
                  have HK := HK2
                  clear HM2 HV2 HK2
                  clear hd5 k5 cs HC
                  clear HC2
                  go_wp2_with fail
                  clear hb hT
                  refine (awake_any _ HV.out).mono ?_
                  rintro e w4 ⟨rfl, k4⟩
                  have K4 := tr3 HK.out k4
                  go_wp2_with fail
                  go_ret
                  exact ⟨rfl, K4⟩
            · have he := S_some ht
              obtain ⟨T, hT⟩ : ∃ T, S (atoms a) = T := ⟨_, rfl⟩
              have cp := bAtoms a _ (.inl ht) HV.out
              have hb : (T.toList == T.toList) = true := beq_self_eq_true _
              rw [hT] at he cp ⊢
              go_wp2_with fail
              refine cp.mono ?_
              rintro e w3 ⟨k3, v3, rfl, m3⟩
              have HC := Lib.hid m3
              have HM2 := Lib.hid (⟨HM.out.1.below k3, HM.out.2.1.below k3, HM.out.2.2.below k3⟩ : _ ∧ _ ∧ _)
              have HV2 := Lib.hid (HV.out.on k3)
              have HK2 := Lib.hid (tr3 HK.out k3)
              clear HM HV HK
              have HM := HM2
              have HV := HV2
              have HK := HK2
              clear HM2 HV2 HK2
              clear k3 cp m3 he
              have cs := sameAtoms_any _ v3 _ _ _ HM.out.2.1 HC.out
              rw [decide_eq_true rfl, EL.out.2.1] at cs
              obtain ⟨a3, b3, e3⟩ := HC.out.shape
              rw [EL.out.2.1] at e3
              subst e3
              go_wp2_with fail
              refine cs.mono ?_
              rintro e w5 ⟨rfl, hd5⟩
              have k5 := drewn_below hd5
              have HC2 := Lib.hid (HC.out.below k5)
              have HM2 := Lib.hid (⟨HM.out.1.below k5, HM.out.2.1.below k5, HM.out.2.2.below k5⟩ : _ ∧ _ ∧ _)
              have HV2 := Lib.hid (HV.out.on k5)
              have HK2 := Lib.hid (tr3 HK.out k5)
              clear HM HV HK
              have HM := HM2
              have HV := HV2
              have HK := HK2
              clear HM2 HV2 HK2
              clear hd5 k5 cs HC
              clear HC2
              go_wp2_with fail
              clear hb hT
              have ct := Provides_any _ p _ HM.out.2.2 HL.out.2.2 HV.out
              rw [EL.out.2.2] at ct
              refine ct.mono ?_
              rintro e w2 ⟨rfl, k2⟩
              clear ct
              have HM2 := Lib.hid (⟨HM.out.1.below k2, HM.out.2.1.below k2, HM.out.2.2.below k2⟩ : _ ∧ _ ∧ _)
              have HV2 := Lib.hid (HV.out.on k2)
              have HK2 := Lib.hid (tr3 HK.out k2)
              clear HM HV HK
              have HM := HM2
              have HV := HV2
              have HK := HK2
              clear HM2 HV2 HK2
              clear k2
              by_cases ht : provs p = []
              · have he := S_none ht
                by_cases hx : p = []
                · have hn0 : P = 0 := by rw [← EL.out.2.2, hx]; rfl
                  have hn : (P : Int) = 0 := by omega
                  clear hn0
                  obtain ⟨T, hT⟩ : ∃ T, S (provs p) = T := ⟨_, rfl⟩
                  have cp := bProvides p _ (.inr hx) HV.out
                  have hb : (T.toList == T.toList) = true := beq_self_eq_true _
                  rw [hT] at he cp ⊢
                  go_wp2_with fail
                  refine cp.mono ?_
                  rintro e w3 ⟨k3, v3, rfl, m3⟩
                  have HC := Lib.hid m3
                  have HM2 := Lib.hid (⟨HM.out.1.below k3, HM.out.2.1.below k3, HM.out.2.2.below k3⟩ : _ ∧ _ ∧ _)
                  have HV2 := Lib.hid (HV.out.on k3)
                  have HK2 := Lib.hid (tr3 HK.out k3)
                  clear HM HV HK
                  have HM := HM2
                  have HV := HV2
                  have HK := HK2
                  clear HM2 HV2 HK2
                  clear k3 cp m3 he
                  have cs := sameProvides_any _ v3 _ _ _ HM.out.2.2 HC.out
                  rw [decide_eq_true rfl, EL.out.2.2] at cs
                  obtain ⟨a3, b3, e3⟩ := HC.out.shape
                  rw [EL.out.2.2] at e3
                  subst e3
                  go_wp2_with fail
                  refine cs.mono ?_
                  rintro e w5 ⟨rfl, hd5⟩
                  have k5 := drewn_below hd5
                  have HC2 := Lib.hid (HC.out.below k5)
                  have HM2 := Lib.hid (⟨HM.out.1.below k5, HM.out.2.1.below k5, HM.out.2.2.below k5⟩ : _ ∧ _ ∧ _)
                  have HV2 := Lib.hid (HV.out.on k5)
                  have HK2 := Lib.hid (tr3 HK.out k5)
                  clear HM HV HK
                  have HM := HM2
                  have HV := HV2
                  have HK := HK2
                  clear HM2 HV2 HK2
                  clear hd5 k5 cs HC
                  clear HC2
                  go_wp2_with fail
                  clear hb hT
                  refine (awake_any _ HV.out).mono ?_
                  rintro e w4 ⟨rfl, k4⟩
                  have K4 := tr3 HK.out k4
                  go_wp2_with fail
                  go_ret
                  exact ⟨rfl, K4⟩
                · have hn0 : P ≠ 0 := fun e => hx (List.eq_nil_of_length_eq_zero (by rw [EL.out.2.2, e]))
                  have hn : (P : Int) ≠ 0 := by omega
                  clear hn0
                  generalize S (provs p) = T at *
                  go_wp2_with fail
                  clear he hn
                  refine (awake_any _ HV.out).mono ?_
                  rintro e w4 ⟨rfl, k4⟩
                  have K4 := tr3 HK.out k4
                  go_wp2_with fail
                  go_ret
                  exact ⟨rfl, K4⟩
              · have he := S_some ht
                obtain ⟨T, hT⟩ : ∃ T, S (provs p) = T := ⟨_, rfl⟩
                have cp := bProvides p _ (.inl ht) HV.out
                have hb : (T.toList == T.toList) = true := beq_self_eq_true _
                rw [hT] at he cp ⊢
                go_wp2_with fail
                refine cp.mono ?_
                rintro e w3 ⟨k3, v3, rfl, m3⟩
                have HC := Lib.hid m3
                have HM2 := Lib.hid (⟨HM.out.1.below k3, HM.out.2.1.below k3, HM.out.2.2.below k3⟩ : _ ∧ _ ∧ _)
                have HV2 := Lib.hid (HV.out.on k3)
                have HK2 := Lib.hid (tr3 HK.out k3)
                clear HM HV HK
                have HM := HM2
                have HV := HV2
                have HK := HK2
                clear HM2 HV2 HK2
                clear k3 cp m3 he
                have cs := sameProvides_any _ v3 _ _ _ HM.out.2.2 HC.out
                rw [decide_eq_true rfl, EL.out.2.2] at cs
                obtain ⟨a3, b3, e3⟩ := HC.out.shape
                rw [EL.out.2.2] at e3
                subst e3
                go_wp2_with fail
                refine cs.mono ?_
                rintro e w5 ⟨rfl, hd5⟩
                have k5 := drewn_below hd5
                have HC2 := Lib.hid (HC.out.below k5)
                have HM2 := Lib.hid (⟨HM.out.1.below k5, HM.out.2.1.below k5, HM.out.2.2.below k5⟩ : _ ∧ _ ∧ _)
                have HV2 := Lib.hid (HV.out.on k5)
                have HK2 := Lib.hid (tr3 HK.out k5)
                clear HM HV HK
                have HM := HM2
                have HV := HV2
                have HK := HK2
                clear HM2 HV2 HK2
                clear hd5 k5 cs HC
                clear HC2
                go_wp2_with fail
                clear hb hT
                refine (awake_any _ HV.out).mono ?_
                rintro e w4 ⟨rfl, k4⟩
                have K4 := tr3 HK.out k4
                go_wp2_with fail
                go_ret
                exact ⟨rfl, K4⟩
        · have he := S_some ht
          obtain ⟨T, hT⟩ : ∃ T, S (text l) = T := ⟨_, rfl⟩
          have cp := bParse l _ (.inl ht) HV.out
          have hb : (T.toList == T.toList) = true := beq_self_eq_true _
          rw [hT] at he cp ⊢
          go_wp2_with fail
          refine cp.mono ?_
          rintro e w3 ⟨k3, v3, rfl, m3⟩
          have HC := Lib.hid m3
          have HM2 := Lib.hid (⟨HM.out.1.below k3, HM.out.2.1.below k3, HM.out.2.2.below k3⟩ : _ ∧ _ ∧ _)
          have HV2 := Lib.hid (HV.out.on k3)
          have HK2 := Lib.hid (tr3 HK.out k3)
          clear HM HV HK
          have HM := HM2
          have HV := HV2
          have HK := HK2
          clear HM2 HV2 HK2
          clear k3 cp m3 he
          have cs := sameClauses_any _ v3 _ _ _ HM.out.1 HC.out
          rw [decide_eq_true rfl, EL.out.1] at cs
          obtain ⟨a3, b3, e3⟩ := HC.out.shape
          rw [EL.out.1] at e3
          subst e3
          go_wp2_with fail
          refine cs.mono ?_
          rintro e w5 ⟨rfl, hd5⟩
          have k5 := drewn_below hd5
          have HC2 := Lib.hid (HC.out.below k5)
          have HM2 := Lib.hid (⟨HM.out.1.below k5, HM.out.2.1.below k5, HM.out.2.2.below k5⟩ : _ ∧ _ ∧ _)
          have HV2 := Lib.hid (HV.out.on k5)
          have HK2 := Lib.hid (tr3 HK.out k5)
          clear HM HV HK
          have HM := HM2
          have HV := HV2
          have HK := HK2
          clear HM2 HV2 HK2
          clear hd5 k5 cs HC
          have ct := Text_any _ l _ HC2.out HL.out.1 HV.out
          rw [hT] at ct
          go_wp2_with fail
          refine ct.mono ?_
          rintro e w6 ⟨rfl, k6⟩
          have HM2 := Lib.hid (⟨HM.out.1.below k6, HM.out.2.1.below k6, HM.out.2.2.below k6⟩ : _ ∧ _ ∧ _)
          have HV2 := Lib.hid (HV.out.on k6)
          have HK2 := Lib.hid (tr3 HK.out k6)
          clear HM HV HK
          have HM := HM2
          have HV := HV2
          have HK := HK2
          clear HM2 HV2 HK2
          clear k6 ct
          clear HC2
          go_wp2_with fail
          clear hb hT
          have ct := Atoms_any _ a _ HM.out.2.1 HL.out.2.1 HV.out
          rw [EL.out.2.1] at ct
          refine ct.mono ?_
          rintro e w2 ⟨rfl, k2⟩
          clear ct
          have HM2 := Lib.hid (⟨HM.out.1.below k2, HM.out.2.1.below k2, HM.out.2.2.below k2⟩ : _ ∧ _ ∧ _)
          have HV2 := Lib.hid (HV.out.on k2)
          have HK2 := Lib.hid (tr3 HK.out k2)
          clear HM HV HK
          have HM := HM2
          have HV := HV2
          have HK := HK2
          clear HM2 HV2 HK2
          clear k2
          by_cases ht : atoms a = []
          · have he := S_none ht
            by_cases hx : a = []
            · have hn0 : A = 0 := by rw [← EL.out.2.1, hx]; rfl
              have hn : (A : Int) = 0 := by omega
              clear hn0
              obtain ⟨T, hT⟩ : ∃ T, S (atoms a) = T := ⟨_, rfl⟩
              have cp := bAtoms a _ (.inr hx) HV.out
              have hb : (T.toList == T.toList) = true := beq_self_eq_true _
              rw [hT] at he cp ⊢
              go_wp2_with fail
              refine cp.mono ?_
              rintro e w3 ⟨k3, v3, rfl, m3⟩
              have HC := Lib.hid m3
              have HM2 := Lib.hid (⟨HM.out.1.below k3, HM.out.2.1.below k3, HM.out.2.2.below k3⟩ : _ ∧ _ ∧ _)
              have HV2 := Lib.hid (HV.out.on k3)
              have HK2 := Lib.hid (tr3 HK.out k3)
              clear HM HV HK
              have HM := HM2
              have HV := HV2
              have HK := HK2
              clear HM2 HV2 HK2
              clear k3 cp m3 he
              have cs := sameAtoms_any _ v3 _ _ _ HM.out.2.1 HC.out
              rw [decide_eq_true rfl, EL.out.2.1] at cs
              obtain ⟨a3, b3, e3⟩ := HC.out.shape
              rw [EL.out.2.1] at e3
              subst e3
              go_wp2_with fail
              refine cs.mono ?_
              rintro e w5 ⟨rfl, hd5⟩
              have k5 := drewn_below hd5
              have HC2 := Lib.hid (HC.out.below k5)
              have HM2 := Lib.hid (⟨HM.out.1.below k5, HM.out.2.1.below k5, HM.out.2.2.below k5⟩ : _ ∧ _ ∧ _)
              have HV2 := Lib.hid (HV.out.on k5)
              have HK2 := Lib.hid (tr3 HK.out k5)
              clear HM HV HK
              have HM := HM2
              have HV := HV2
              have HK := HK2
              clear HM2 HV2 HK2
              clear hd5 k5 cs HC
              clear HC2
              go_wp2_with fail
              clear hb hT
              have ct := Provides_any _ p _ HM.out.2.2 HL.out.2.2 HV.out
              rw [EL.out.2.2] at ct
              refine ct.mono ?_
              rintro e w2 ⟨rfl, k2⟩
              clear ct
              have HM2 := Lib.hid (⟨HM.out.1.below k2, HM.out.2.1.below k2, HM.out.2.2.below k2⟩ : _ ∧ _ ∧ _)
              have HV2 := Lib.hid (HV.out.on k2)
              have HK2 := Lib.hid (tr3 HK.out k2)
              clear HM HV HK
              have HM := HM2
              have HV := HV2
              have HK := HK2
              clear HM2 HV2 HK2
              clear k2
              by_cases ht : provs p = []
              · have he := S_none ht
                by_cases hx : p = []
                · have hn0 : P = 0 := by rw [← EL.out.2.2, hx]; rfl
                  have hn : (P : Int) = 0 := by omega
                  clear hn0
                  obtain ⟨T, hT⟩ : ∃ T, S (provs p) = T := ⟨_, rfl⟩
                  have cp := bProvides p _ (.inr hx) HV.out
                  have hb : (T.toList == T.toList) = true := beq_self_eq_true _
                  rw [hT] at he cp ⊢
                  go_wp2_with fail
                  refine cp.mono ?_
                  rintro e w3 ⟨k3, v3, rfl, m3⟩
                  have HC := Lib.hid m3
                  have HM2 := Lib.hid (⟨HM.out.1.below k3, HM.out.2.1.below k3, HM.out.2.2.below k3⟩ : _ ∧ _ ∧ _)
                  have HV2 := Lib.hid (HV.out.on k3)
                  have HK2 := Lib.hid (tr3 HK.out k3)
                  clear HM HV HK
                  have HM := HM2
                  have HV := HV2
                  have HK := HK2
                  clear HM2 HV2 HK2
                  clear k3 cp m3 he
                  have cs := sameProvides_any _ v3 _ _ _ HM.out.2.2 HC.out
                  rw [decide_eq_true rfl, EL.out.2.2] at cs
                  obtain ⟨a3, b3, e3⟩ := HC.out.shape
                  rw [EL.out.2.2] at e3
                  subst e3
                  go_wp2_with fail
                  refine cs.mono ?_
                  rintro e w5 ⟨rfl, hd5⟩
                  have k5 := drewn_below hd5
                  have HC2 := Lib.hid (HC.out.below k5)
                  have HM2 := Lib.hid (⟨HM.out.1.below k5, HM.out.2.1.below k5, HM.out.2.2.below k5⟩ : _ ∧ _ ∧ _)
                  have HV2 := Lib.hid (HV.out.on k5)
                  have HK2 := Lib.hid (tr3 HK.out k5)
                  clear HM HV HK
                  have HM := HM2
                  have HV := HV2
                  have HK := HK2
                  clear HM2 HV2 HK2
                  clear hd5 k5 cs HC
                  clear HC2
                  go_wp2_with fail
                  clear hb hT
                  refine (awake_any _ HV.out).mono ?_
                  rintro e w4 ⟨rfl, k4⟩
                  have K4 := tr3 HK.out k4
                  go_wp2_with fail
                  go_ret
                  exact ⟨rfl, K4⟩
                · have hn0 : P ≠ 0 := fun e => hx (List.eq_nil_of_length_eq_zero (by rw [EL.out.2.2, e]))
                  have hn : (P : Int) ≠ 0 := by omega
                  clear hn0
                  generalize S (provs p) = T at *
                  go_wp2_with fail
                  clear he hn
                  refine (awake_any _ HV.out).mono ?_
                  rintro e w4 ⟨rfl, k4⟩
                  have K4 := tr3 HK.out k4
                  go_wp2_with fail
                  go_ret
                  exact ⟨rfl, K4⟩
              · have he := S_some ht
                obtain ⟨T, hT⟩ : ∃ T, S (provs p) = T := ⟨_, rfl⟩
                have cp := bProvides p _ (.inl ht) HV.out
                have hb : (T.toList == T.toList) = true := beq_self_eq_true _
                rw [hT] at he cp ⊢
                go_wp2_with fail
                refine cp.mono ?_
                rintro e w3 ⟨k3, v3, rfl, m3⟩
                have HC := Lib.hid m3
                have HM2 := Lib.hid (⟨HM.out.1.below k3, HM.out.2.1.below k3, HM.out.2.2.below k3⟩ : _ ∧ _ ∧ _)
                have HV2 := Lib.hid (HV.out.on k3)
                have HK2 := Lib.hid (tr3 HK.out k3)
                clear HM HV HK
                have HM := HM2
                have HV := HV2
                have HK := HK2
                clear HM2 HV2 HK2
                clear k3 cp m3 he
                have cs := sameProvides_any _ v3 _ _ _ HM.out.2.2 HC.out
                rw [decide_eq_true rfl, EL.out.2.2] at cs
                obtain ⟨a3, b3, e3⟩ := HC.out.shape
                rw [EL.out.2.2] at e3
                subst e3
                go_wp2_with fail
                refine cs.mono ?_
                rintro e w5 ⟨rfl, hd5⟩
                have k5 := drewn_below hd5
                have HC2 := Lib.hid (HC.out.below k5)
                have HM2 := Lib.hid (⟨HM.out.1.below k5, HM.out.2.1.below k5, HM.out.2.2.below k5⟩ : _ ∧ _ ∧ _)
                have HV2 := Lib.hid (HV.out.on k5)
                have HK2 := Lib.hid (tr3 HK.out k5)
                clear HM HV HK
                have HM := HM2
                have HV := HV2
                have HK := HK2
                clear HM2 HV2 HK2
                clear hd5 k5 cs HC
                clear HC2
                go_wp2_with fail
                clear hb hT
                refine (awake_any _ HV.out).mono ?_
                rintro e w4 ⟨rfl, k4⟩
                have K4 := tr3 HK.out k4
                go_wp2_with fail
                go_ret
                exact ⟨rfl, K4⟩
            · have hn0 : A ≠ 0 := fun e => hx (List.eq_nil_of_length_eq_zero (by rw [EL.out.2.1, e]))
              have hn : (A : Int) ≠ 0 := by omega
              clear hn0
              generalize S (atoms a) = T at *
              go_wp2_with fail
              clear he hn
              have ct := Provides_any _ p _ HM.out.2.2 HL.out.2.2 HV.out
              rw [EL.out.2.2] at ct
              refine ct.mono ?_
              rintro e w2 ⟨rfl, k2⟩
              clear ct
              have HM2 := Lib.hid (⟨HM.out.1.below k2, HM.out.2.1.below k2, HM.out.2.2.below k2⟩ : _ ∧ _ ∧ _)
              have HV2 := Lib.hid (HV.out.on k2)
              have HK2 := Lib.hid (tr3 HK.out k2)
              clear HM HV HK
              have HM := HM2
              have HV := HV2
              have HK := HK2
              clear HM2 HV2 HK2
              clear k2
              by_cases ht : provs p = []
              · have he := S_none ht
                by_cases hx : p = []
                · have hn0 : P = 0 := by rw [← EL.out.2.2, hx]; rfl
                  have hn : (P : Int) = 0 := by omega
                  clear hn0
                  obtain ⟨T, hT⟩ : ∃ T, S (provs p) = T := ⟨_, rfl⟩
                  have cp := bProvides p _ (.inr hx) HV.out
                  have hb : (T.toList == T.toList) = true := beq_self_eq_true _
                  rw [hT] at he cp ⊢
                  go_wp2_with fail
                  refine cp.mono ?_
                  rintro e w3 ⟨k3, v3, rfl, m3⟩
                  have HC := Lib.hid m3
                  have HM2 := Lib.hid (⟨HM.out.1.below k3, HM.out.2.1.below k3, HM.out.2.2.below k3⟩ : _ ∧ _ ∧ _)
                  have HV2 := Lib.hid (HV.out.on k3)
                  have HK2 := Lib.hid (tr3 HK.out k3)
                  clear HM HV HK
                  have HM := HM2
                  have HV := HV2
                  have HK := HK2
                  clear HM2 HV2 HK2
                  clear k3 cp m3 he
                  have cs := sameProvides_any _ v3 _ _ _ HM.out.2.2 HC.out
                  rw [decide_eq_true rfl, EL.out.2.2] at cs
                  obtain ⟨a3, b3, e3⟩ := HC.out.shape
                  rw [EL.out.2.2] at e3
                  subst e3
                  go_wp2_with fail
                  refine cs.mono ?_
                  rintro e w5 ⟨rfl, hd5⟩
                  have k5 := drewn_below hd5
                  have HC2 := Lib.hid (HC.out.below k5)
                  have HM2 := Lib.hid (⟨HM.out.1.below k5, HM.out.2.1.below k5, HM.out.2.2.below k5⟩ : _ ∧ _ ∧ _)
                  have HV2 := Lib.hid (HV.out.on k5)
                  have HK2 := Lib.hid (tr3 HK.out k5)
                  clear HM HV HK
                  have HM := HM2
                  have HV := HV2
                  have HK := HK2
                  clear HM2 HV2 HK2
                  clear hd5 k5 cs HC
                  clear HC2
                  go_wp2_with fail
                  clear hb hT
                  refine (awake_any _ HV.out).mono ?_
                  rintro e w4 ⟨rfl, k4⟩
                  have K4 := tr3 HK.out k4
                  go_wp2_with fail
                  go_ret
                  exact ⟨rfl, K4⟩
                · have hn0 : P ≠ 0 := fun e => hx (List.eq_nil_of_length_eq_zero (by rw [EL.out.2.2, e]))
                  have hn : (P : Int) ≠ 0 := by omega
                  clear hn0
                  generalize S (provs p) = T at *
                  go_wp2_with fail
                  clear he hn
                  refine (awake_any _ HV.out).mono ?_
                  rintro e w4 ⟨rfl, k4⟩
                  have K4 := tr3 HK.out k4
                  go_wp2_with fail
                  go_ret
                  exact ⟨rfl, K4⟩
              · have he := S_some ht
                obtain ⟨T, hT⟩ : ∃ T, S (provs p) = T := ⟨_, rfl⟩
                have cp := bProvides p _ (.inl ht) HV.out
                have hb : (T.toList == T.toList) = true := beq_self_eq_true _
                rw [hT] at he cp ⊢
                go_wp2_with fail
                refine cp.mono ?_
                rintro e w3 ⟨k3, v3, rfl, m3⟩
                have HC := Lib.hid m3
                have HM2 := Lib.hid (⟨HM.out.1.below k3, HM.out.2.1.below k3, HM.out.2.2.below k3⟩ : _ ∧ _ ∧ _)
                have HV2 := Lib.hid (HV.out.on k3)
                have HK2 := Lib.hid (tr3 HK.out k3)
                clear HM HV HK
                have HM := HM2
                have HV := HV2
                have HK := HK2
                clear HM2 HV2 HK2
                clear k3 cp m3 he
                have cs := sameProvides_any _ v3 _ _ _ HM.out.2.2 HC.out
                rw [decide_eq_true rfl, EL.out.2.2] at cs
                obtain ⟨a3, b3, e3⟩ := HC.out.shape
                rw [EL.out.2.2] at e3
                subst e3
                go_wp2_with fail
                refine cs.mono ?_
                rintro e w5 ⟨rfl, hd5⟩
                have k5 := drewn_below hd5
                have HC2 := Lib.hid (HC.out.below k5)
                have HM2 := Lib.hid (⟨HM.out.1.below k5, HM.out.2.1.below k5, HM.out.2.2.below k5⟩ : _ ∧ _ ∧ _)
                have HV2 := Lib.hid (HV.out.on k5)
                have HK2 := Lib.hid (tr3 HK.out k5)
                clear HM HV HK
                have HM := HM2
                have HV := HV2
                have HK := HK2
                clear HM2 HV2 HK2
                clear hd5 k5 cs HC
                clear HC2
                go_wp2_with fail
                clear hb hT
                refine (awake_any _ HV.out).mono ?_
                rintro e w4 ⟨rfl, k4⟩
                have K4 := tr3 HK.out k4
                go_wp2_with fail
                go_ret
                exact ⟨rfl, K4⟩
          · have he := S_some ht
            obtain ⟨T, hT⟩ : ∃ T, S (atoms a) = T := ⟨_, rfl⟩
            have cp := bAtoms a _ (.inl ht) HV.out
            have hb : (T.toList == T.toList) = true := beq_self_eq_true _
            rw [hT] at he cp ⊢
            go_wp2_with fail
            refine cp.mono ?_
            rintro e w3 ⟨k3, v3, rfl, m3⟩
            have HC := Lib.hid m3
            have HM2 := Lib.hid (⟨HM.out.1.below k3, HM.out.2.1.below k3, HM.out.2.2.below k3⟩ : _ ∧ _ ∧ _)
            have HV2 := Lib.hid (HV.out.on k3)
            have HK2 := Lib.hid (tr3 HK.out k3)
            clear HM HV HK
            have HM := HM2
            have HV := HV2
            have HK := HK2
            clear HM2 HV2 HK2
            clear k3 cp m3 he
            have cs := sameAtoms_any _ v3 _ _ _ HM.out.2.1 HC.out
            rw [decide_eq_true rfl, EL.out.2.1] at cs
            obtain ⟨a3, b3, e3⟩ := HC.out.shape
            rw [EL.out.2.1] at e3
            subst e3
            go_wp2_with fail
            refine cs.mono ?_
            rintro e w5 ⟨rfl, hd5⟩
            have k5 := drewn_below hd5
            have HC2 := Lib.hid (HC.out.below k5)
            have HM2 := Lib.hid (⟨HM.out.1.below k5, HM.out.2.1.below k5, HM.out.2.2.below k5⟩ : _ ∧ _ ∧ _)
            have HV2 := Lib.hid (HV.out.on k5)
            have HK2 := Lib.hid (tr3 HK.out k5)
            clear HM HV HK
            have HM := HM2
            have HV := HV2
            have HK := HK2
            clear HM2 HV2 HK2
            clear hd5 k5 cs HC
            clear HC2
            go_wp2_with fail
            clear hb hT
            have ct := Provides_any _ p _ HM.out.2.2 HL.out.2.2 HV.out
            rw [EL.out.2.2] at ct
            refine ct.mono ?_
            rintro e w2 ⟨rfl, k2⟩
            clear ct
            have HM2 := Lib.hid (⟨HM.out.1.below k2, HM.out.2.1.below k2, HM.out.2.2.below k2⟩ : _ ∧ _ ∧ _)
            have HV2 := Lib.hid (HV.out.on k2)
            have HK2 := Lib.hid (tr3 HK.out k2)
            clear HM HV HK
            have HM := HM2
            have HV := HV2
            have HK := HK2
            clear HM2 HV2 HK2
            clear k2
            by_cases ht : provs p = []
            · have he := S_none ht
              by_cases hx : p = []
              · have hn0 : P = 0 := by rw [← EL.out.2.2, hx]; rfl
                have hn : (P : Int) = 0 := by omega
                clear hn0
                obtain ⟨T, hT⟩ : ∃ T, S (provs p) = T := ⟨_, rfl⟩
                have cp := bProvides p _ (.inr hx) HV.out
                have hb : (T.toList == T.toList) = true := beq_self_eq_true _
                rw [hT] at he cp ⊢
                go_wp2_with fail
                refine cp.mono ?_
                rintro e w3 ⟨k3, v3, rfl, m3⟩
                have HC := Lib.hid m3
                have HM2 := Lib.hid (⟨HM.out.1.below k3, HM.out.2.1.below k3, HM.out.2.2.below k3⟩ : _ ∧ _ ∧ _)
                have HV2 := Lib.hid (HV.out.on k3)
                have HK2 := Lib.hid (tr3 HK.out k3)
                clear HM HV HK
                have HM := HM2
                have HV := HV2
                have HK := HK2
                clear HM2 HV2 HK2
                clear k3 cp m3 he
                have cs := sameProvides_any _ v3 _ _ _ HM.out.2.2 HC.out
                rw [decide_eq_true rfl, EL.out.2.2] at cs
                obtain ⟨a3, b3, e3⟩ := HC.out.shape
                rw [EL.out.2.2] at e3
                subst e3
                go_wp2_with fail
                refine cs.mono ?_
                rintro e w5 ⟨rfl, hd5⟩
                have k5 := drewn_below hd5
                have HC2 := Lib.hid (HC.out.below k5)
                have HM2 := Lib.hid (⟨HM.out.1.below k5, HM.out.2.1.below k5, HM.out.2.2.below k5⟩ : _ ∧ _ ∧ _)
                have HV2 := Lib.hid (HV.out.on k5)
                have HK2 := Lib.hid (tr3 HK.out k5)
                clear HM HV HK
                have HM := HM2
                have HV := HV2
                have HK := HK2
                clear HM2 HV2 HK2
                clear hd5 k5 cs HC
                clear HC2
                go_wp2_with fail
                clear hb hT
                refine (awake_any _ HV.out).mono ?_
                rintro e w4 ⟨rfl, k4⟩
                have K4 := tr3 HK.out k4
                go_wp2_with fail
                go_ret
                exact ⟨rfl, K4⟩
              · have hn0 : P ≠ 0 := fun e => hx (List.eq_nil_of_length_eq_zero (by rw [EL.out.2.2, e]))
                have hn : (P : Int) ≠ 0 := by omega
                clear hn0
                generalize S (provs p) = T at *
                go_wp2_with fail
                clear he hn
                refine (awake_any _ HV.out).mono ?_
                rintro e w4 ⟨rfl, k4⟩
                have K4 := tr3 HK.out k4
                go_wp2_with fail
                go_ret
                exact ⟨rfl, K4⟩
            · have he := S_some ht
              obtain ⟨T, hT⟩ : ∃ T, S (provs p) = T := ⟨_, rfl⟩
              have cp := bProvides p _ (.inl ht) HV.out
              have hb : (T.toList == T.toList) = true := beq_self_eq_true _
              rw [hT] at he cp ⊢
              go_wp2_with fail
              refine cp.mono ?_
              rintro e w3 ⟨k3, v3, rfl, m3⟩
              have HC := Lib.hid m3
              have HM2 := Lib.hid (⟨HM.out.1.below k3, HM.out.2.1.below k3, HM.out.2.2.below k3⟩ : _ ∧ _ ∧ _)
              have HV2 := Lib.hid (HV.out.on k3)
              have HK2 := Lib.hid (tr3 HK.out k3)
              clear HM HV HK
              have HM := HM2
              have HV := HV2
              have HK := HK2
              clear HM2 HV2 HK2
              clear k3 cp m3 he
              have cs := sameProvides_any _ v3 _ _ _ HM.out.2.2 HC.out
              rw [decide_eq_true rfl, EL.out.2.2] at cs
              obtain ⟨a3, b3, e3⟩ := HC.out.shape
              rw [EL.out.2.2] at e3
              subst e3
              go_wp2_with fail
              refine cs.mono ?_
              rintro e w5 ⟨rfl, hd5⟩
              have k5 := drewn_below hd5
              have HC2 := Lib.hid (HC.out.below k5)
              have HM2 := Lib.hid (⟨HM.out.1.below k5, HM.out.2.1.below k5, HM.out.2.2.below k5⟩ : _ ∧ _ ∧ _)
              have HV2 := Lib.hid (HV.out.on k5)
              have HK2 := Lib.hid (tr3 HK.out k5)
              clear HM HV HK
              have HM := HM2
              have HV := HV2
              have HK := HK2
              clear HM2 HV2 HK2
              clear hd5 k5 cs HC
              clear HC2
              go_wp2_with fail
              clear hb hT
              refine (awake_any _ HV.out).mono ?_
              rintro e w4 ⟨rfl, k4⟩
              have K4 := tr3 HK.out k4
              go_wp2_with fail
              go_ret
              exact ⟨rfl, K4⟩
end Rl
end Go.Proofs.YtddfjndclgapcaaDoor

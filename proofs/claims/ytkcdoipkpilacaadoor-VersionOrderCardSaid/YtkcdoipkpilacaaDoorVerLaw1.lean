/-
The walk of the law VersionOrder.
-/
import Derived.Test.YtkcdoipkpilacaaDoorVerAwake
namespace Go.Proofs.YtkcdoipkpilacaaDoor
open Go.RowKit
set_option linter.unusedSimpArgs false
set_option linter.unusedVariables false
namespace Ver
set_option maxRecDepth 100000 in
set_option maxHeartbeats 8000000 in
theorem order_walk (s0 s1 s2 : ByteArray) (w : World) (w0 : s0.size ≤ 140737488351232) (w1 : s1.size ≤ 140737488351232) (w2 : s2.size ≤ 140737488351232) (hm : MaxLen w) :
    Calls Tryd.prog 7 #[.string s0, .string s1, .string s2] w fun e w' => e = .returned (.bool true) ∧ Below w.heap.size w w' := by
  have z0 : s0.size ≤ 4611686018427387904 := by omega
  have z1 : s1.size ≤ 4611686018427387904 := by omega
  have z2 : s2.size ≤ 4611686018427387904 := by omega
  have cab := compare_any s0 s1 w z0 z1 hm
  have cbc := fun w hm => compare_any s1 s2 w z1 z2 hm
  have cac := fun w hm => compare_any s0 s2 w z0 z2 hm
  have cba := fun w hm => compare_any s1 s0 w z1 z0 hm
  have caa := fun w hm => compare_any s0 s0 w z0 z0 hm
  have pa := fun w hm => parse_any s0 w z0 hm
  have pb := fun w hm => parse_any s1 w z1 hm
  have pc := fun w hm => parse_any s2 w z2 hm
  have sm := fun w hm => same_any s0 s1 w z0 z1 hm
  rw [cmpV_turn (li s0) (li s1)] at cba
  rw [cmpV_self] at caa
  unfold sameV at sm
  have hx := cmpV_one (li s0) (li s1)
  have hy := cmpV_one (li s1) (li s2)
  have hz := cmpV_one (li s0) (li s2)
  have htri := @cmpV_tri (li s0) (li s1) (li s2)
  obtain ⟨a1, a2, a3, na, ea, ia, ja⟩ := told_shape (parse (li s0))
  obtain ⟨b1, b2, b3, nb, eb, ib, jb⟩ := told_shape (parse (li s1))
  obtain ⟨d1, d2, d3, nc, ec, ic, jc⟩ := told_shape (parse (li s2))
  rw [ea] at pa
  rw [eb] at pb
  rw [ec] at pc
  have HM := Lib.hid hm
  have HT := Lib.hid htri
  have HIA := Lib.hid ia
  have HIB := Lib.hid ib
  have HIC := Lib.hid ic
  have HY := Lib.hid hy
  have HZ := Lib.hid hz
  clear ea eb ec hm htri ia ib ic hy hz w0 w1 w2
  generalize cmpV (li s0) (li s1) = x at *
  generalize cmpV (li s1) (li s2) = y at *
  generalize cmpV (li s0) (li s2) = z at *
  generalize (parse (li s0)).isSome = ga at *
  generalize (parse (li s1)).isSome = gb at *
  generalize (parse (li s2)).isSome = gc at *
  unfold One at hx
  rcases hx with rfl | rfl | rfl
  all_goals
    go_enter Tryd.func7, Tryd.ntmps7
    go_wp2_with fail
    refine cab.mono ?_
    rintro e u1 ⟨rfl, k1⟩
    go_wp2_with fail
    refine (cbc _ (HM.out.on k1)).mono ?_
    rintro e u2 ⟨rfl, k⟩
    have k2 := k1.trans (k.mono k1.size)
    clear k k1 cab cbc
    go_wp2_with fail
    refine (cac _ (HM.out.on k2)).mono ?_
    rintro e u3 ⟨rfl, k⟩
    have k3 := k2.trans (k.mono k2.size)
    clear k k2 cac
    go_wp2_with fail
    refine (cba _ (HM.out.on k3)).mono ?_
    rintro e u4 ⟨rfl, k⟩
    have k4 := k3.trans (k.mono k3.size)
    clear k k3 cba
    go_wp2_with fail
    refine (caa _ (HM.out.on k4)).mono ?_
    rintro e u5 ⟨rfl, k⟩
    have k5 := k4.trans (k.mono k4.size)
    clear k k4 caa
    go_wp2_with fail
    refine (pa _ (HM.out.on k5)).mono ?_
    rintro e u6 ⟨rfl, k⟩
    have k6 := k5.trans (k.mono k5.size)
    clear k k5 pa
    go_wp2_with fail
    refine (pb _ (HM.out.on k6)).mono ?_
    rintro e u7 ⟨rfl, k⟩
    have k7 := k6.trans (k.mono k6.size)
    clear k k6 pb
    go_wp2_with fail
    refine (pc _ (HM.out.on k7)).mono ?_
    rintro e u8 ⟨rfl, k⟩
    have k8 := k7.trans (k.mono k7.size)
    clear k k7 pc
    have aw := awake_any u8 (HM.out.on k8)
    by_cases hok : na = 0 ∧ nb = 0 ∧ nc = 0
    · obtain ⟨rfl, rfl, rfl⟩ := hok
      obtain rfl := HIA.out.2 rfl
      obtain rfl := HIB.out.2 rfl
      obtain rfl := HIC.out.2 rfl
      obtain ⟨t1, t2, t3⟩ := HT.out rfl rfl rfl
      have hy := HY.out
      have hz := HZ.out
      unfold One at hy hz
      clear HT HIA HIB HIC HY HZ ja jb jc
      rcases hy with rfl | rfl | rfl <;> rcases hz with rfl | rfl | rfl
      all_goals first
        | (exfalso; omega)
        | (clear t1 t2 t3
           have sm2 := sm u8 (HM.out.on k8)
           simp only [Bool.and_self, Bool.true_and] at sm2
           clear sm
           go_wp2_with fail
           refine sm2.mono ?_
           rintro e u9 ⟨rfl, k⟩
           have k9 := k8.trans (k.mono k8.size)
           have aw9 := awake_any u9 (HM.out.on k9)
           clear k aw
           go_wp2_with fail
           refine aw9.mono ?_
           rintro e u10 ⟨rfl, k⟩
           go_wp2_with fail
           go_ret
           exact ⟨rfl, k9.trans (k.mono k9.size)⟩)
    · have hne : na = 3 ∨ (na = 0 ∧ nb = 3) ∨ (na = 0 ∧ nb = 0 ∧ nc = 3) := by omega
      clear HT HIA HIB HIC HY HZ ja jb jc hok sm
      rcases hne with rfl | ⟨rfl, rfl⟩ | ⟨rfl, rfl, rfl⟩
      all_goals
        go_wp2_with fail
        refine aw.mono ?_
        rintro e u9 ⟨rfl, k⟩
        go_wp2_with fail
        go_ret
        exact ⟨rfl, k8.trans (k.mono k8.size)⟩
end Ver
end Go.Proofs.YtkcdoipkpilacaaDoor

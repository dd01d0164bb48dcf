/-
The walks of the laws VersionParses, VersionParts, VersionCompares.
-/
import Derived.Test.YtkcdoipkpilacaaDoorVerRefCompare
import Derived.Test.YtkcdoipkpilacaaDoorVerAwake
namespace Go.Proofs.YtkcdoipkpilacaaDoor
open Go.RowKit
set_option linter.unusedSimpArgs false
set_option linter.unusedVariables false
namespace Ver
set_option maxRecDepth 100000 in
set_option maxHeartbeats 4000000 in
theorem parses_walk (s0 : ByteArray) (w : World) (w0 : s0.size ≤ 140737488351232) (hm : MaxLen w) :
    Calls Tryd.prog 3 #[.string s0] w fun e w' => e = .returned (.bool true) ∧ Below w.heap.size w w' := by
  have c1 := parse_any s0 w (by omega) hm
  have c2 := fun w => yversion_any s0 w (by omega)
  have HM := Lib.hid hm
  clear hm w0
  cases hp : parse (li s0) with
  | none =>
    rw [hp] at c1 c2
    unfold toldV at c1
    unfold ytold at c2
    simp only at c1 c2
    clear hp
    go_enter Tryd.func3, Tryd.ntmps3
    go_wp2_with fail
    refine c1.mono ?_
    rintro e w1 ⟨rfl, k1⟩
    go_wp2_with fail
    refine (c2 _).mono ?_
    rintro e w2 ⟨rfl, k⟩
    have k2 := k1.trans (k.mono k1.size)
    have aw := awake_any w2 (HM.out.on k2)
    clear k k1
    go_wp2_with fail
    refine aw.mono ?_
    rintro e w3 ⟨rfl, k⟩
    go_wp2_with fail
    go_ret
    exact ⟨rfl, k2.trans (k.mono k2.size)⟩
  | some p =>
    rw [hp] at c1 c2
    unfold toldV at c1
    unfold ytold at c2
    simp only at c1 c2
    generalize S p.1 = x at *
    generalize S p.2.1 = y at *
    generalize S p.2.2 = z at *
    clear hp
    go_enter Tryd.func3, Tryd.ntmps3
    go_wp2_with fail
    refine c1.mono ?_
    rintro e w1 ⟨rfl, k1⟩
    go_wp2_with fail
    refine (c2 _).mono ?_
    rintro e w2 ⟨rfl, k⟩
    have k2 := k1.trans (k.mono k1.size)
    have aw := awake_any w2 (HM.out.on k2)
    clear k k1
    go_wp2_with fail
    refine aw.mono ?_
    rintro e w3 ⟨rfl, k⟩
    go_wp2_with fail
    go_ret
    exact ⟨rfl, k2.trans (k.mono k2.size)⟩
set_option maxRecDepth 100000 in
set_option maxHeartbeats 4000000 in
theorem parts_walk (s0 s1 : ByteArray) (w : World) (w0 : s0.size ≤ 140737488351232) (w1 : s1.size ≤ 140737488351232) (hm : MaxLen w) :
    Calls Tryd.prog 4 #[.string s0, .string s1] w fun e w' => e = .returned (.bool true) ∧ Below w.heap.size w w' := by
  have c1 := part_any s0 s1 w (by omega) (by omega)
  have c2 := fun w => ypart_any s0 s1 w (by omega) (by omega)
  have HM := Lib.hid hm
  clear hm w0 w1
  generalize part (li s0) (li s1) = x at *
  go_enter Tryd.func4, Tryd.ntmps4
  go_wp2_with fail
  refine c1.mono ?_
  rintro e w1 ⟨rfl, k1⟩
  go_wp2_with fail
  refine (c2 _).mono ?_
  rintro e w2 ⟨rfl, k⟩
  have k2 := k1.trans (k.mono k1.size)
  have aw := awake_any w2 (HM.out.on k2)
  clear k k1
  go_wp2_with fail
  refine aw.mono ?_
  rintro e w3 ⟨rfl, k⟩
  go_wp2_with fail
  go_ret
  exact ⟨rfl, k2.trans (k.mono k2.size)⟩
set_option maxRecDepth 100000 in
set_option maxHeartbeats 8000000 in
theorem compares_walk (s0 s1 : ByteArray) (a2 : Int) (w : World) (w0 : s0.size ≤ 140737488351232) (w1 : s1.size ≤ 140737488351232) (hm : MaxLen w) :
    Calls Tryd.prog 5 #[.string s0, .string s1, .int .i64 a2] w fun e w' => e = .returned (.bool true) ∧ Below w.heap.size w w' := by
  have z0 : s0.size ≤ 4611686018427387904 := by omega
  have z1 : s1.size ≤ 4611686018427387904 := by omega
  have c1 := compare_any s0 s1 w z0 z1 hm
  have c2 := fun w => ycompare_any s0 s1 w z0 z1
  have c3 := fun w hm => same_any s0 s1 w z0 z1 hm
  have c4 := fun w => ysame_any s0 s1 w z0 z1
  have c5 := fun w hm => holds_any a2 s0 s1 w z0 z1 hm
  have c6 := fun w => yholds_any a2 s0 s1 w z0 z1
  have HM := Lib.hid hm
  clear hm w0 w1
  generalize cmpV (li s0) (li s1) = x at *
  generalize sameV (li s0) (li s1) = y at *
  generalize holdsV a2 (li s0) (li s1) = z at *
  go_enter Tryd.func5, Tryd.ntmps5
  go_wp2_with fail
  refine c1.mono ?_
  rintro e u1 ⟨rfl, k1⟩
  go_wp2_with fail
  refine (c2 _).mono ?_
  rintro e u2 ⟨rfl, k⟩
  have k2 := k1.trans (k.mono k1.size)
  clear k k1 c1 c2
  go_wp2_with fail
  refine (c3 _ (HM.out.on k2)).mono ?_
  rintro e u3 ⟨rfl, k⟩
  have k3 := k2.trans (k.mono k2.size)
  clear k k2 c3
  go_wp2_with fail
  refine (c4 _).mono ?_
  rintro e u4 ⟨rfl, k⟩
  have k4 := k3.trans (k.mono k3.size)
  clear k k3 c4
  cases y
  all_goals
    go_wp2_with fail
    refine (c5 _ (HM.out.on k4)).mono ?_
    rintro e u5 ⟨rfl, k⟩
    have k5 := k4.trans (k.mono k4.size)
    clear k
    go_wp2_with fail
    refine (c6 _).mono ?_
    rintro e u6 ⟨rfl, k⟩
    have k6 := k5.trans (k.mono k5.size)
    have aw := awake_any u6 (HM.out.on k6)
    clear k k5
    cases z
    all_goals
      go_wp2_with fail
      refine aw.mono ?_
      rintro e u7 ⟨rfl, k⟩
      go_wp2_with fail
      go_ret
      exact ⟨rfl, k6.trans (k.mono k6.size)⟩
end Ver
end Go.Proofs.YtkcdoipkpilacaaDoor

/-
The walks of the laws TextGood and TextNames.
-/
import Derived.Test.YtnhacikpkchfjaaDoorTextAwake
namespace Go.Proofs.YtnhacikpkchfjaaDoor
open Go.RowKit
set_option linter.unusedSimpArgs false
set_option linter.unusedVariables false
namespace Txt
set_option maxRecDepth 100000 in
theorem textGood_walk (s : ByteArray) (w : World) (ws : s.size ≤ maxLen) (hT : Lib.Utf8Tabs 0 1 w) :
    Calls Tryd.prog 3 #[.string s] w fun e w' => e = .returned (.bool true) ∧ Below w.heap.size w w' := by
  have hl := tabs_lt hT
  have HT := Lib.hid hT
  have hs : s.size ≤ 9223372036854775807 := by unfold maxLen at ws; omega
  obtain ⟨G, hG⟩ : ∃ G, good s = G := ⟨_, rfl⟩
  have c1 := good_any s w hs hT
  rw [hG] at c1
  clear hT
  go_enter Tryd.func3, Tryd.ntmps3
  go_wp2_with fail
  refine c1.mono ?_
  rintro e w1 ⟨rfl, b1⟩
  have c2 := ygood_any s w1 hs
  rw [hG] at c2
  go_wp2_with fail
  refine c2.mono ?_
  rintro e w2 ⟨rfl, rfl⟩
  have c3 := awake_any w2 (tabs_below HT.out b1 hl)
  clear c1 c2 hG
  go_wp2_with fail
  refine c3.mono ?_
  rintro e w3 ⟨rfl, b3⟩
  go_wp2_with fail
  go_ret
  exact ⟨rfl, b1.trans (b3.mono b1.size)⟩
set_option maxRecDepth 100000 in
theorem textNames_walk (s : ByteArray) (w : World) (ws : s.size ≤ maxLen) (hT : Lib.Utf8Tabs 0 1 w) :
    Calls Tryd.prog 6 #[.string s] w fun e w' => e = .returned (.bool true) ∧ Below w.heap.size w w' := by
  have hl := tabs_lt hT
  have HT := Lib.hid hT
  have hs : s.size ≤ 9223372036854775807 := by unfold maxLen at ws; omega
  have c1 := number_any s w hs
  have c2 := fun w => ynumber_any s w hs
  have c3 := fun w => name_any s w hs
  have c4 := fun w => yname_any s w hs
  generalize decide (nameOK s) = a at c3 c4
  generalize decide (numOK s) = d at c1 c2
  generalize numOf s = n at c1 c2
  clear hT
  go_enter Tryd.func6, Tryd.ntmps6
  go_wp2_with fail
  refine c1.mono ?_
  rintro e w1 ⟨rfl, b1⟩
  go_wp2_with fail
  refine (c2 _).mono ?_
  rintro e w2 ⟨rfl, rfl⟩
  go_wp2_with fail
  refine (c3 _).mono ?_
  rintro e w3 ⟨rfl, b3⟩
  have b3' := b1.trans (b3.mono b1.size)
  go_wp2_with fail
  refine (c4 _).mono ?_
  rintro e w4 ⟨rfl, rfl⟩
  have c5 := awake_any w4 (tabs_below HT.out b3' hl)
  clear c1 c2 c3 c4 b3
  cases a <;> cases d
  all_goals
    go_wp2_with fail
    refine c5.mono ?_
    rintro e w5 ⟨rfl, b5⟩
    go_wp2_with fail
    go_ret
    exact ⟨rfl, b3'.trans (b5.mono b3'.size)⟩
end Txt
end Go.Proofs.YtnhacikpkchfjaaDoor

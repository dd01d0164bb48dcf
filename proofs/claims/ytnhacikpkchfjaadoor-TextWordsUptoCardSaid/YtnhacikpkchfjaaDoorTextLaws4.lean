/-
The walk of the law TextWords.
-/
import Derived.Test.YtnhacikpkchfjaaDoorWordsRef
namespace Go.Proofs.YtnhacikpkchfjaaDoor
open Go.RowKit
set_option linter.unusedSimpArgs false
set_option linter.unusedVariables false
namespace Txt
set_option maxRecDepth 100000 in
set_option maxHeartbeats 2000000 in
theorem textWords_walk (s : ByteArray) (w : World) (hs : s.size ≤ 1048576) (hT : Lib.Utf8Tabs 0 1 w) :
    Calls Tryd.prog 5 #[.string s] w fun e w' => e = .returned (.bool true) ∧ Below w.heap.size w w' := by
  have hl := tabs_lt hT
  have HT := Lib.hid hT
  clear hT
  go_enter Tryd.func5, Tryd.ntmps5
  go_wp2_with fail
  refine (words_any s w (by omega)).mono ?_
  rintro e w1 ⟨v1, l1, rfl, h1, t1, b1⟩
  have H1 := Lib.hid h1
  have T1 := Lib.hid t1
  have B1 := Lib.hid b1
  clear h1 t1 b1
  go_wp2_with fail
  refine (ywords_any s w1 (by omega)).mono ?_
  rintro e w2 ⟨v2, l2, rfl, h2, t2, b2⟩
  obtain rfl : l1 = l2 := H1.out.uniq h2 rfl
  have T2 := Lib.hid t2
  have T1' := Lib.hid (T1.out.below b2)
  have B2 := Lib.hid (B1.out.trans (b2.mono B1.out.size))
  clear h2 t2 b2 T1 B1 H1
  go_wp2_with fail
  refine (sameTexts_any v1 v2 l1 l1 w2 T1'.out T2.out).mono ?_
  rintro e w3 ⟨rfl, b3⟩
  have B3 := Lib.hid (B2.out.trans (b3.mono B2.out.size))
  clear b3 T1' T2 B2
  rw [show decide (l1 = l1) = true from decide_eq_true rfl]
  go_wp2_with fail
  refine (trim_any s w3 (by omega) (tabs_below HT.out B3.out hl)).mono ?_
  rintro e w4 ⟨t, rfl, ht, b4⟩
  have B4 := Lib.hid (B3.out.trans (b4.mono B3.out.size))
  have HTT := Lib.hid ht
  clear b4 ht B3
  go_wp2_with fail
  refine (ytrim_any s w4 (by omega)).mono ?_
  rintro e w5 ⟨u, rfl, hu, b5⟩
  obtain rfl : t = u := bytes_inj (HTT.out.trans hu.symm)
  have B5 := Lib.hid (B4.out.trans (b5.mono B4.out.size))
  have heq := str_beq t t
  rw [decide_eq_true rfl] at heq
  clear b5 hu B4 HTT
  go_wp2_with fail
  refine (awake_any w5 (tabs_below HT.out B5.out hl)).mono ?_
  rintro e w6 ⟨rfl, b6⟩
  have B6 := Lib.hid (B5.out.trans (b6.mono B5.out.size))
  clear b6 B5
  go_wp2_with fail
  go_ret
  exact ⟨rfl, B6.out⟩
end Txt
end Go.Proofs.YtnhacikpkchfjaaDoor

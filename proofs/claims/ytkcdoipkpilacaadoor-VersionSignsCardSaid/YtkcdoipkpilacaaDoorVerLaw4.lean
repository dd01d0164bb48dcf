/-
The walk of the law VersionSigns; what its row lists of the variable signs.
-/
import Derived.Test.YtkcdoipkpilacaaDoorVerSigns
import Derived.Test.YtkcdoipkpilacaaDoorVerTabs
import Derived.Lib.LaidU8
namespace Go.Proofs.YtkcdoipkpilacaaDoor
open Go.RowKit
set_option linter.unusedSimpArgs false
set_option linter.unusedVariables false
namespace Ver
theorem signs_of_laid {W : World} (h : laidMetH Tryd.prog listedS W) : Signs W := by
  intro i hi
  rw [MakeChecks.laidMetH_plain _ _ _ (by kernel_rfl)] at h
  obtain ⟨g, t, cs, fuel, p, hg, hty, hvar, hd⟩ := Lib.laidMet.reads h (.tail _ (.head _))
  have hgn : Tryd.prog.globalNamed "chandler/version.signs" = some 0 := by kernel_rfl
  have htn : (Tryd.prog.globals[0]?).map (·.type) = some 54 := by kernel_rfl
  obtain rfl := Option.some.inj (hgn.symm.trans hg)
  obtain rfl := Option.some.inj (htn.symm.trans hty)
  have hu : Tryd.prog.underlying 54 = some (.array 6 9) := by kernel_rfl
  have hc : Tryd.prog.cellsOf 9 = 1 := by kernel_rfl
  obtain ⟨fuel', d, q, hdi, he⟩ := Lib.array_elem hu hd i hi
  obtain ⟨s, hs1, hs2, _⟩ := DataW.trod_string (by kernel_rfl : Tryd.prog.underlying 9 = some .string) he
  rw [hc, Nat.mul_one] at hs1
  have hcell : cs.toList[i]? = some (.string s) := by
    have := congrArg (·[0]?) hs1
    simpa [List.getElem?_take, List.getElem?_drop] using this
  rw [World.var?_cell hg hvar i, ← Array.getElem?_toList, hcell]
  simp only [Prod.mk.injEq] at hs2
  obtain ⟨rfl, _⟩ := hs2
  have hS : ∀ l : List UInt8, s.data.toList = l → s = ⟨l.toArray⟩ := fun l e => by
    apply ByteArray.ext
    rw [← e]
  have hcase : i = 0 ∨ i = 1 ∨ i = 2 ∨ i = 3 ∨ i = 4 ∨ i = 5 := by omega
  rcases hcase with rfl | rfl | rfl | rfl | rfl | rfl
  all_goals
    simp only [Rows.laid_chandler_version_signs, List.getElem?_cons_zero, List.getElem?_cons_succ, Option.some.injEq, DataW.lit.injEq, Lit.string.injEq] at hdi
    rw [hS _ hdi.symm]
    rfl
set_option maxRecDepth 100000 in
set_option maxHeartbeats 8000000 in
theorem signs_walk (a0 : Int) (s1 : ByteArray) (w : World) (hm : MaxLen w) (hg : Signs w) :
    Calls Tryd.prog 6 #[.int .i64 a0, .string s1] w fun e w' => e = .returned (.bool true) ∧ Below w.heap.size w w' := by
  have cs := sign_any a0 w hg
  have cy := ysignS_any a0
  have y1 := ysignS_any 1
  have y2 := ysignS_any 2
  have y3 := ysignS_any 3
  have y4 := ysignS_any 4
  have y5 := ysignS_any 5
  rw [show sgnS 1 = ⟨#[60, 60]⟩ from rfl] at y1
  rw [show sgnS 2 = ⟨#[60, 61]⟩ from rfl] at y2
  rw [show sgnS 3 = ⟨#[61]⟩ from rfl] at y3
  rw [show sgnS 4 = ⟨#[62, 61]⟩ from rfl] at y4
  rw [show sgnS 5 = ⟨#[62, 62]⟩ from rfl] at y5
  have r1 := rel_any s1 w hg
  have r2 := rel_any (sgnS a0) w hg
  rw [rel_sign] at r2
  have aw := awake_any w hm
  clear hm hg
  generalize sgnS a0 = X at *
  have hin : (1 ≤ a0 ∧ a0 ≤ 5) ∨ a0 < 1 ∨ (1 ≤ a0 ∧ 5 < a0) := by omega
  rcases sixS s1 with rfl | rfl | rfl | rfl | rfl | ⟨h1, h2, h3, h4, h5⟩
  · rw [show relS _ = 1 by decide +kernel] at r1
    go_enter Tryd.func6, Tryd.ntmps6
    go_wp2_with fail
    refine wp_loop_rounds 6 ?_
    rw [rounds_succ]
    go_wp2_with fail
    refine (y1 _).mono ?_
    rintro e v1 ⟨rfl, rfl⟩
    go_wp2_with fail
    rw [rounds_succ]
    go_wp2_with fail
    refine (y2 _).mono ?_
    rintro e v2 ⟨rfl, rfl⟩
    go_wp2_with fail
    rw [rounds_succ]
    go_wp2_with fail
    refine (y3 _).mono ?_
    rintro e v3 ⟨rfl, rfl⟩
    go_wp2_with fail
    rw [rounds_succ]
    go_wp2_with fail
    refine (y4 _).mono ?_
    rintro e v4 ⟨rfl, rfl⟩
    go_wp2_with fail
    rw [rounds_succ]
    go_wp2_with fail
    refine (y5 _).mono ?_
    rintro e v5 ⟨rfl, rfl⟩
    go_wp2_with fail
    rw [rounds_succ]
    go_wp2_with fail
    refine cs.mono ?_
    rintro e v6 ⟨rfl, rfl⟩
    go_wp2_with fail
    refine (cy _).mono ?_
    rintro e v7 ⟨rfl, rfl⟩
    go_wp2_with fail
    refine r1.mono ?_
    rintro e v8 ⟨rfl, rfl⟩
    go_wp2_with fail
    refine cs.mono ?_
    rintro e v9 ⟨rfl, rfl⟩
    go_wp2_with fail
    refine r2.mono ?_
    rintro e v10 ⟨rfl, rfl⟩
    rcases hin with ⟨h1, h2⟩ | h1 | ⟨h1, h2⟩
    · rw [if_pos ⟨h1, h2⟩]
      go_wp2_with fail
      refine (b2iS_any _ _).mono ?_
      rintro e v11 ⟨rfl, rfl⟩
      go_wp2_with fail
      refine aw.mono ?_
      rintro e v12 ⟨rfl, k⟩
      go_wp2_with fail
      go_ret
      exact ⟨rfl, k⟩
    · rw [if_neg (by omega)]
      go_wp2_with fail
      refine (b2iS_any _ _).mono ?_
      rintro e v11 ⟨rfl, rfl⟩
      go_wp2_with fail
      refine aw.mono ?_
      rintro e v12 ⟨rfl, k⟩
      go_wp2_with fail
      go_ret
      exact ⟨rfl, k⟩
    · rw [if_neg (by omega)]
      go_wp2_with fail
      refine (b2iS_any _ _).mono ?_
      rintro e v11 ⟨rfl, rfl⟩
      go_wp2_with fail
      refine aw.mono ?_
      rintro e v12 ⟨rfl, k⟩
      go_wp2_with fail
      go_ret
      exact ⟨rfl, k⟩
  · rw [show relS _ = 2 by decide +kernel] at r1
    go_enter Tryd.func6, Tryd.ntmps6
    go_wp2_with fail
    refine wp_loop_rounds 6 ?_
    rw [rounds_succ]
    go_wp2_with fail
    refine (y1 _).mono ?_
    rintro e v1 ⟨rfl, rfl⟩
    go_wp2_with fail
    rw [rounds_succ]
    go_wp2_with fail
    refine (y2 _).mono ?_
    rintro e v2 ⟨rfl, rfl⟩
    go_wp2_with fail
    rw [rounds_succ]
    go_wp2_with fail
    refine (y3 _).mono ?_
    rintro e v3 ⟨rfl, rfl⟩
    go_wp2_with fail
    rw [rounds_succ]
    go_wp2_with fail
    refine (y4 _).mono ?_
    rintro e v4 ⟨rfl, rfl⟩
    go_wp2_with fail
    rw [rounds_succ]
    go_wp2_with fail
    refine (y5 _).mono ?_
    rintro e v5 ⟨rfl, rfl⟩
    go_wp2_with fail
    rw [rounds_succ]
    go_wp2_with fail
    refine cs.mono ?_
    rintro e v6 ⟨rfl, rfl⟩
    go_wp2_with fail
    refine (cy _).mono ?_
    rintro e v7 ⟨rfl, rfl⟩
    go_wp2_with fail
    refine r1.mono ?_
    rintro e v8 ⟨rfl, rfl⟩
    go_wp2_with fail
    refine cs.mono ?_
    rintro e v9 ⟨rfl, rfl⟩
    go_wp2_with fail
    refine r2.mono ?_
    rintro e v10 ⟨rfl, rfl⟩
    rcases hin with ⟨h1, h2⟩ | h1 | ⟨h1, h2⟩
    · rw [if_pos ⟨h1, h2⟩]
      go_wp2_with fail
      refine (b2iS_any _ _).mono ?_
      rintro e v11 ⟨rfl, rfl⟩
      go_wp2_with fail
      refine aw.mono ?_
      rintro e v12 ⟨rfl, k⟩
      go_wp2_with fail
      go_ret
      exact ⟨rfl, k⟩
    · rw [if_neg (by omega)]
      go_wp2_with fail
      refine (b2iS_any _ _).mono ?_
      rintro e v11 ⟨rfl, rfl⟩
      go_wp2_with fail
      refine aw.mono ?_
      rintro e v12 ⟨rfl, k⟩
      go_wp2_with fail
      go_ret
      exact ⟨rfl, k⟩
    · rw [if_neg (by omega)]
      go_wp2_with fail
      refine (b2iS_any _ _).mono ?_
      rintro e v11 ⟨rfl, rfl⟩
      go_wp2_with fail
      refine aw.mono ?_
      rintro e v12 ⟨rfl, k⟩
      go_wp2_with fail
      go_ret
      exact ⟨rfl, k⟩
  · rw [show relS _ = 3 by decide +kernel] at r1
    go_enter Tryd.func6, Tryd.ntmps6
    go_wp2_with fail
    refine wp_loop_rounds 6 ?_
    rw [rounds_succ]
    go_wp2_with fail
    refine (y1 _).mono ?_
    rintro e v1 ⟨rfl, rfl⟩
    go_wp2_with fail
    rw [rounds_succ]
    go_wp2_with fail
    refine (y2 _).mono ?_
    rintro e v2 ⟨rfl, rfl⟩
    go_wp2_with fail
    rw [rounds_succ]
    go_wp2_with fail
    refine (y3 _).mono ?_
    rintro e v3 ⟨rfl, rfl⟩
    go_wp2_with fail
    rw [rounds_succ]
    go_wp2_with fail
    refine (y4 _).mono ?_
    rintro e v4 ⟨rfl, rfl⟩
    go_wp2_with fail
    rw [rounds_succ]
    go_wp2_with fail
    refine (y5 _).mono ?_
    rintro e v5 ⟨rfl, rfl⟩
    go_wp2_with fail
    rw [rounds_succ]
    go_wp2_with fail
    refine cs.mono ?_
    rintro e v6 ⟨rfl, rfl⟩
    go_wp2_with fail
    refine (cy _).mono ?_
    rintro e v7 ⟨rfl, rfl⟩
    go_wp2_with fail
    refine r1.mono ?_
    rintro e v8 ⟨rfl, rfl⟩
    go_wp2_with fail
    refine cs.mono ?_
    rintro e v9 ⟨rfl, rfl⟩
    go_wp2_with fail
    refine r2.mono ?_
    rintro e v10 ⟨rfl, rfl⟩
    rcases hin with ⟨h1, h2⟩ | h1 | ⟨h1, h2⟩
    · rw [if_pos ⟨h1, h2⟩]
      go_wp2_with fail
      refine (b2iS_any _ _).mono ?_
      rintro e v11 ⟨rfl, rfl⟩
      go_wp2_with fail
      refine aw.mono ?_
      rintro e v12 ⟨rfl, k⟩
      go_wp2_with fail
      go_ret
      exact ⟨rfl, k⟩
    · rw [if_neg (by omega)]
      go_wp2_with fail
      refine (b2iS_any _ _).mono ?_
      rintro e v11 ⟨rfl, rfl⟩
      go_wp2_with fail
      refine aw.mono ?_
      rintro e v12 ⟨rfl, k⟩
      go_wp2_with fail
      go_ret
      exact ⟨rfl, k⟩
    · rw [if_neg (by omega)]
      go_wp2_with fail
      refine (b2iS_any _ _).mono ?_
      rintro e v11 ⟨rfl, rfl⟩
      go_wp2_with fail
      refine aw.mono ?_
      rintro e v12 ⟨rfl, k⟩
      go_wp2_with fail
      go_ret
      exact ⟨rfl, k⟩
  · rw [show relS _ = 4 by decide +kernel] at r1
    go_enter Tryd.func6, Tryd.ntmps6
    go_wp2_with fail
    refine wp_loop_rounds 6 ?_
    rw [rounds_succ]
    go_wp2_with fail
    refine (y1 _).mono ?_
    rintro e v1 ⟨rfl, rfl⟩
    go_wp2_with fail
    rw [rounds_succ]
    go_wp2_with fail
    refine (y2 _).mono ?_
    rintro e v2 ⟨rfl, rfl⟩
    go_wp2_with fail
    rw [rounds_succ]
    go_wp2_with fail
    refine (y3 _).mono ?_
    rintro e v3 ⟨rfl, rfl⟩
    go_wp2_with fail
    rw [rounds_succ]
    go_wp2_with fail
    refine (y4 _).mono ?_
    rintro e v4 ⟨rfl, rfl⟩
    go_wp2_with fail
    rw [rounds_succ]
    go_wp2_with fail
    refine (y5 _).mono ?_
    rintro e v5 ⟨rfl, rfl⟩
    go_wp2_with fail
    rw [rounds_succ]
    go_wp2_with fail
    refine cs.mono ?_
    rintro e v6 ⟨rfl, rfl⟩
    go_wp2_with fail
    refine (cy _).mono ?_
    rintro e v7 ⟨rfl, rfl⟩
    go_wp2_with fail
    refine r1.mono ?_
    rintro e v8 ⟨rfl, rfl⟩
    go_wp2_with fail
    refine cs.mono ?_
    rintro e v9 ⟨rfl, rfl⟩
    go_wp2_with fail
    refine r2.mono ?_
    rintro e v10 ⟨rfl, rfl⟩
    rcases hin with ⟨h1, h2⟩ | h1 | ⟨h1, h2⟩
    · rw [if_pos ⟨h1, h2⟩]
      go_wp2_with fail
      refine (b2iS_any _ _).mono ?_
      rintro e v11 ⟨rfl, rfl⟩
      go_wp2_with fail
      refine aw.mono ?_
      rintro e v12 ⟨rfl, k⟩
      go_wp2_with fail
      go_ret
      exact ⟨rfl, k⟩
    · rw [if_neg (by omega)]
      go_wp2_with fail
      refine (b2iS_any _ _).mono ?_
      rintro e v11 ⟨rfl, rfl⟩
      go_wp2_with fail
      refine aw.mono ?_
      rintro e v12 ⟨rfl, k⟩
      go_wp2_with fail
      go_ret
      exact ⟨rfl, k⟩
    · rw [if_neg (by omega)]
      go_wp2_with fail
      refine (b2iS_any _ _).mono ?_
      rintro e v11 ⟨rfl, rfl⟩
      go_wp2_with fail
      refine aw.mono ?_
      rintro e v12 ⟨rfl, k⟩
      go_wp2_with fail
      go_ret
      exact ⟨rfl, k⟩
  · rw [show relS _ = 5 by decide +kernel] at r1
    go_enter Tryd.func6, Tryd.ntmps6
    go_wp2_with fail
    refine wp_loop_rounds 6 ?_
    rw [rounds_succ]
    go_wp2_with fail
    refine (y1 _).mono ?_
    rintro e v1 ⟨rfl, rfl⟩
    go_wp2_with fail
    rw [rounds_succ]
    go_wp2_with fail
    refine (y2 _).mono ?_
    rintro e v2 ⟨rfl, rfl⟩
    go_wp2_with fail
    rw [rounds_succ]
    go_wp2_with fail
    refine (y3 _).mono ?_
    rintro e v3 ⟨rfl, rfl⟩
    go_wp2_with fail
    rw [rounds_succ]
    go_wp2_with fail
    refine (y4 _).mono ?_
    rintro e v4 ⟨rfl, rfl⟩
    go_wp2_with fail
    rw [rounds_succ]
    go_wp2_with fail
    refine (y5 _).mono ?_
    rintro e v5 ⟨rfl, rfl⟩
    go_wp2_with fail
    rw [rounds_succ]
    go_wp2_with fail
    refine cs.mono ?_
    rintro e v6 ⟨rfl, rfl⟩
    go_wp2_with fail
    refine (cy _).mono ?_
    rintro e v7 ⟨rfl, rfl⟩
    go_wp2_with fail
    refine r1.mono ?_
    rintro e v8 ⟨rfl, rfl⟩
    go_wp2_with fail
    refine cs.mono ?_
    rintro e v9 ⟨rfl, rfl⟩
    go_wp2_with fail
    refine r2.mono ?_
    rintro e v10 ⟨rfl, rfl⟩
    rcases hin with ⟨h1, h2⟩ | h1 | ⟨h1, h2⟩
    · rw [if_pos ⟨h1, h2⟩]
      go_wp2_with fail
      refine (b2iS_any _ _).mono ?_
      rintro e v11 ⟨rfl, rfl⟩
      go_wp2_with fail
      refine aw.mono ?_
      rintro e v12 ⟨rfl, k⟩
      go_wp2_with fail
      go_ret
      exact ⟨rfl, k⟩
    · rw [if_neg (by omega)]
      go_wp2_with fail
      refine (b2iS_any _ _).mono ?_
      rintro e v11 ⟨rfl, rfl⟩
      go_wp2_with fail
      refine aw.mono ?_
      rintro e v12 ⟨rfl, k⟩
      go_wp2_with fail
      go_ret
      exact ⟨rfl, k⟩
    · rw [if_neg (by omega)]
      go_wp2_with fail
      refine (b2iS_any _ _).mono ?_
      rintro e v11 ⟨rfl, rfl⟩
      go_wp2_with fail
      refine aw.mono ?_
      rintro e v12 ⟨rfl, k⟩
      go_wp2_with fail
      go_ret
      exact ⟨rfl, k⟩
  · rw [show relS s1 = 0 by unfold relS; rw [if_neg h1, if_neg h2, if_neg h3, if_neg h4, if_neg h5]] at r1
    obtain ⟨a1, b1⟩ := list_ne (l := [60, 60]) h1
    obtain ⟨a2, b2⟩ := list_ne (l := [60, 61]) h2
    obtain ⟨a3, b3⟩ := list_ne (l := [61]) h3
    obtain ⟨a4, b4⟩ := list_ne (l := [62, 61]) h4
    obtain ⟨a5, b5⟩ := list_ne (l := [62, 62]) h5
    clear h1 h2 h3 h4 h5
    go_enter Tryd.func6, Tryd.ntmps6
    go_wp2_with fail
    refine wp_loop_rounds 6 ?_
    rw [rounds_succ]
    go_wp2_with fail
    refine (y1 _).mono ?_
    rintro e v1 ⟨rfl, rfl⟩
    go_wp2_with fail
    rw [rounds_succ]
    go_wp2_with fail
    refine (y2 _).mono ?_
    rintro e v2 ⟨rfl, rfl⟩
    go_wp2_with fail
    rw [rounds_succ]
    go_wp2_with fail
    refine (y3 _).mono ?_
    rintro e v3 ⟨rfl, rfl⟩
    go_wp2_with fail
    rw [rounds_succ]
    go_wp2_with fail
    refine (y4 _).mono ?_
    rintro e v4 ⟨rfl, rfl⟩
    go_wp2_with fail
    rw [rounds_succ]
    go_wp2_with fail
    refine (y5 _).mono ?_
    rintro e v5 ⟨rfl, rfl⟩
    go_wp2_with fail
    rw [rounds_succ]
    go_wp2_with fail
    refine cs.mono ?_
    rintro e v6 ⟨rfl, rfl⟩
    go_wp2_with fail
    refine (cy _).mono ?_
    rintro e v7 ⟨rfl, rfl⟩
    go_wp2_with fail
    refine r1.mono ?_
    rintro e v8 ⟨rfl, rfl⟩
    go_wp2_with fail
    refine cs.mono ?_
    rintro e v9 ⟨rfl, rfl⟩
    go_wp2_with fail
    refine r2.mono ?_
    rintro e v10 ⟨rfl, rfl⟩
    rcases hin with ⟨h1, h2⟩ | h1 | ⟨h1, h2⟩
    · rw [if_pos ⟨h1, h2⟩]
      go_wp2_with fail
      refine (b2iS_any _ _).mono ?_
      rintro e v11 ⟨rfl, rfl⟩
      go_wp2_with fail
      refine aw.mono ?_
      rintro e v12 ⟨rfl, k⟩
      go_wp2_with fail
      go_ret
      exact ⟨rfl, k⟩
    · rw [if_neg (by omega)]
      go_wp2_with fail
      refine (b2iS_any _ _).mono ?_
      rintro e v11 ⟨rfl, rfl⟩
      go_wp2_with fail
      refine aw.mono ?_
      rintro e v12 ⟨rfl, k⟩
      go_wp2_with fail
      go_ret
      exact ⟨rfl, k⟩
    · rw [if_neg (by omega)]
      go_wp2_with fail
      refine (b2iS_any _ _).mono ?_
      rintro e v11 ⟨rfl, rfl⟩
      go_wp2_with fail
      refine aw.mono ?_
      rintro e v12 ⟨rfl, k⟩
      go_wp2_with fail
      go_ret
      exact ⟨rfl, k⟩
end Ver
end Go.Proofs.YtkcdoipkpilacaaDoor

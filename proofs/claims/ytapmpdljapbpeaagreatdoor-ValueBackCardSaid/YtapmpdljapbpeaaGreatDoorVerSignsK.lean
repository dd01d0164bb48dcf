/-
Compare, Same, Holds. The versions that every program must know; Compare is an order. Sign and Rel, their reference, and the walk of the law VersionSigns.
-/
import Derived.Test.YtapmpdljapbpeaaGreatDoorVerParse2
import Derived.LoopN
namespace Go.Proofs.YtapmpdljapbpeaaGreatDoor
open Go.RowKit
set_option linter.unusedSimpArgs false
set_option linter.unusedVariables false
namespace Ver
open Txt (b b_eq b_lt)
theorem parse_some {l : Bs} {p : Bs × Bs × Bs} (h : parse l = some p) : l.length ≤ 48 ∧ p.1.length ≤ 9 ∧ (∀ c ∈ p.1, dig c = true) ∧ p.2.1.length ≤ 48 ∧ p.2.2.length ≤ 48 := by
  by_cases hl : 1 ≤ l.length ∧ l.length ≤ 48
  · cases he : (epF l).2.2
    · rw [parse_ep he] at h; cases h
    · cases hr : (rvF (epF l).2.1).2.2
      · rw [parse_rv he hr] at h; cases h
      · rw [parse_up hl he hr] at h
        cases hu : upOK (rvF (epF l).2.1).1
        · rw [hu] at h; simp at h
        · rw [hu, if_pos rfl] at h
          cases h
          have l1 := epF_len l
          have l2 := rvF_len (epF l).2.1
          have l3 : (rvF (epF l).2.1).2.1.length ≤ (epF l).2.1.length := by
            unfold rvF
            cases hc : cutZ 45 (epF l).2.1 with
            | none => exact Nat.zero_le _
            | some p =>
              have := congrArg List.length (cutZ_parts _ _ p.1 p.2 hc)
              rw [List.length_append, List.length_cons] at this
              show p.2.length ≤ _
              omega
          have l4 : (epF l).1.length ≤ 9 ∧ ∀ c ∈ (epF l).1, dig c = true := by
            revert he
            unfold epF
            cases hc : cut1 58 l with
            | none =>
              intro _
              exact ⟨(by omega : (1 : Nat) ≤ 9), fun c hc => by
                have hc' : c = 48 := List.mem_singleton.1 hc
                subst hc'
                decide⟩
            | some p =>
              intro he
              have := of_decide_eq_true he
              exact ⟨this.2.1, fun c hc => List.all_eq_true.1 this.2.2 c hc⟩
          exact ⟨hl.2, l4.1, l4.2, by show (rvF (epF l).2.1).1.length ≤ 48; omega, by show (rvF (epF l).2.1).2.1.length ≤ 48; omega⟩
  · rw [parse_size hl] at h; cases h
theorem num_part {d f : Bs} (hd : ∀ c ∈ d, dig c = true) (hf : ∀ c ∈ f, dig c = true) : numB d f = part d f := by rw [num_val hd hf, part_digits hd hf]
theorem orl_three (p q r : Int) : orl [p, q, r] = orr p (orr q r) := by
  show orr p (orr q (orr r 0)) = _
  have : orr r 0 = r := by unfold orr; split <;> omega
  rw [this]
def sameV (a c : Bs) : Bool := (parse a).isSome && (parse c).isSome && decide (cmpV a c = 0)
end Ver
end Go.Proofs.YtapmpdljapbpeaaGreatDoor
namespace Go.Proofs.YtapmpdljapbpeaaGreatDoor
open Go.RowKit
set_option linter.unusedSimpArgs false
set_option linter.unusedVariables false
namespace Ver
theorem lit_rc : cmpV (li ⟨#[49, 46, 48, 126, 114, 99, 49]⟩) (li ⟨#[49, 46, 48]⟩) = -1 := by decide +kernel
theorem lit_epoch : cmpV (li ⟨#[49, 58, 48, 46, 49]⟩) (li ⟨#[57]⟩) = 1 := by decide +kernel
theorem lit_rev : cmpV (li ⟨#[49, 46, 48, 45, 49]⟩) (li ⟨#[49, 46, 48]⟩) = 1 := by decide +kernel
/-- What Parse tells, but for its errno's number and whatever the parts are. -/
theorem told_shape (o : Option (Bs × Bs × Bs)) : ∃ x y z : ByteArray, ∃ n : Int, toldV o = .tuple #[.string x, .string y, .string z, .int .i64 n] ∧ (o.isSome = true ↔ n = 0) ∧ (n = 0 ∨ n = 3) := by
  cases o with
  | none => exact ⟨_, _, _, 3, rfl, by simp, .inr rfl⟩
  | some p => exact ⟨_, _, _, 0, rfl, by simp, .inl rfl⟩
end Ver
end Go.Proofs.YtapmpdljapbpeaaGreatDoor
namespace Go.Proofs.YtapmpdljapbpeaaGreatDoor
open Go.RowKit
set_option linter.unusedSimpArgs false
set_option linter.unusedVariables false
namespace Ver
def signT : List ByteArray := [⟨#[]⟩, ⟨#[60, 60]⟩, ⟨#[60, 61]⟩, ⟨#[61]⟩, ⟨#[62, 61]⟩, ⟨#[62, 62]⟩]
/-- The variable signs holds what its text lays. -/
def Signs (w : World) : Prop := ∀ i, i < 6 → w.cell? ⟨0, i, none⟩ = some (.string (signT.getD i ⟨#[]⟩))
theorem Signs.on {w w' : World} (h : Signs w) (hb : Below w.heap.size w w') : Signs w' := fun i hi => (hb.cell (p := ⟨0, i, none⟩) (lt_cell (h i hi))).trans (h i hi)
def sgnS (r : Int) : ByteArray := if r = 1 then ⟨#[60, 60]⟩ else if r = 2 then ⟨#[60, 61]⟩ else if r = 3 then ⟨#[61]⟩ else if r = 4 then ⟨#[62, 61]⟩ else if r = 5 then ⟨#[62, 62]⟩ else ⟨#[]⟩
def relS (s : ByteArray) : Int := if s = ⟨#[60, 60]⟩ then 1 else if s = ⟨#[60, 61]⟩ then 2 else if s = ⟨#[61]⟩ then 3 else if s = ⟨#[62, 61]⟩ then 4 else if s = ⟨#[62, 62]⟩ then 5 else 0
set_option maxRecDepth 100000 in
theorem sign_any (r : Int) (w : World) (hg : Signs w) : Calls Tryz.prog 148 #[.int .i64 r] w fun e w' => e = .returned (.string (sgnS r)) ∧ w' = w := by
  have g0 := hg 0 (by omega)
  have g1 := hg 1 (by omega)
  have g2 := hg 2 (by omega)
  have g3 := hg 3 (by omega)
  have g4 := hg 4 (by omega)
  have g5 := hg 5 (by omega)
  simp only [signT, List.getD_cons_zero, List.getD_cons_succ] at g0 g1 g2 g3 g4 g5
  clear hg
  by_cases hr : r < 0 ∨ 6 ≤ r
  · rw [show sgnS r = ⟨#[]⟩ by unfold sgnS; rw [if_neg (by omega), if_neg (by omega), if_neg (by omega), if_neg (by omega), if_neg (by omega)]]
    rcases hr with h | h
    · go_enter Tryz.func148, Tryz.ntmps148
      go_wp2_with fail
      go_ret
      exact ⟨rfl, rfl⟩
    · have h2 : ¬ r < 0 := by omega
      go_enter Tryz.func148, Tryz.ntmps148
      go_wp2_with fail
      go_ret
      exact ⟨rfl, rfl⟩
  · have hc : r = 0 ∨ r = 1 ∨ r = 2 ∨ r = 3 ∨ r = 4 ∨ r = 5 := by omega
    clear hr
    rcases hc with rfl | rfl | rfl | rfl | rfl | rfl
    all_goals
      go_enter Tryz.func148, Tryz.ntmps148
      go_wp2_with fail
      go_ret
      exact ⟨rfl, rfl⟩
theorem list_ne {s : ByteArray} {l : List UInt8} (h : s ≠ ⟨l.toArray⟩) : (s.toList == l) = false ∧ (l == s.toList) = false := by
  have : s.data.toList ≠ l := fun e => h (by apply ByteArray.ext; rw [← e])
  rw [Lib.toList_data]
  exact ⟨beq_eq_false_iff_ne.2 this, beq_eq_false_iff_ne.2 (Ne.symm this)⟩
theorem sixS (s : ByteArray) : s = ⟨#[60, 60]⟩ ∨ s = ⟨#[60, 61]⟩ ∨ s = ⟨#[61]⟩ ∨ s = ⟨#[62, 61]⟩ ∨ s = ⟨#[62, 62]⟩ ∨ (s ≠ ⟨#[60, 60]⟩ ∧ s ≠ ⟨#[60, 61]⟩ ∧ s ≠ ⟨#[61]⟩ ∧ s ≠ ⟨#[62, 61]⟩ ∧ s ≠ ⟨#[62, 62]⟩) := by
  by_cases h1 : s = ⟨#[60, 60]⟩
  · exact .inl h1
  by_cases h2 : s = ⟨#[60, 61]⟩
  · exact .inr (.inl h2)
  by_cases h3 : s = ⟨#[61]⟩
  · exact .inr (.inr (.inl h3))
  by_cases h4 : s = ⟨#[62, 61]⟩
  · exact .inr (.inr (.inr (.inl h4)))
  by_cases h5 : s = ⟨#[62, 62]⟩
  · exact .inr (.inr (.inr (.inr (.inl h5))))
  exact .inr (.inr (.inr (.inr (.inr ⟨h1, h2, h3, h4, h5⟩))))
def signA : List Value := [.string ⟨#[]⟩, .string ⟨#[60, 60]⟩, .string ⟨#[60, 61]⟩, .string ⟨#[61]⟩, .string ⟨#[62, 61]⟩, .string ⟨#[62, 62]⟩]
theorem index_sign (j : Nat) (v : Value) (w : World) (hj : j < 6) (h : signA.getD j default = v) : (Instr.index 170 (.agg signA.toArray) (.int .i64 j)).run Tryz.prog w = .ok v w := by
  have h1 : Tryz.prog.underlying 170 = some (.array 6 9) := by kernel_rfl
  have h2 : Tryz.prog.underlying 9 = some .string := by kernel_rfl
  have hi : (Tryz.prog.info? 9).map (·.size) = some 1 := by kernel_rfl
  have hsz : ∀ w, (sizeOf 9).run Tryz.prog w = .ok 1 w := fun w => by
    cases hq : Tryz.prog.info? 9 with
    | none => simp [hq] at hi
    | some i =>
      have : i.size = 1 := by simpa [hq] using hi
      simp [sizeOf, typeInfo, hq, this]
  have hj' : (0 : Int) ≤ j ∧ (j : Int) < (6 : Nat) := by omega
  have ha : ∀ w, (isAgg 9).run Tryz.prog w = .ok false w := fun w => by
    unfold isAgg
    simp only [Sem.run_bind, run_underlying h2, Result.andThen_ok, Sem.run_pure]
  have hl : j < signA.length := hj
  have hg : signA.toArray[j]? = some v := by
    rw [List.getElem?_toArray, List.getElem?_eq_getElem hl, ← h, List.getD_eq_getElem?_getD, List.getElem?_eq_getElem hl]; rfl
  simp only [Instr.index, asIntOf, Sem.run_bind, Sem.run_pure, Result.andThen_ok, run_underlying h1, hj', and_self, if_true, hsz, Int.toNat_natCast, Go.part, ha, Nat.mul_one, hg, Bool.false_eq_true, if_false]
set_option maxRecDepth 100000 in
set_option maxHeartbeats 4000000 in
theorem rel_any (s : ByteArray) (w : World) (hg : Signs w) : Calls Tryz.prog 143 #[.string s] w fun e w' => e = .returned (.int .i64 (relS s)) ∧ w' = w := by
  have g0 := hg 0 (by omega)
  have g1 := hg 1 (by omega)
  have g2 := hg 2 (by omega)
  have g3 := hg 3 (by omega)
  have g4 := hg 4 (by omega)
  have g5 := hg 5 (by omega)
  simp only [signT, List.getD_cons_zero, List.getD_cons_succ] at g0 g1 g2 g3 g4 g5
  clear hg
  have ix : ∀ (j : Nat) (v : Value) (w : World), j < 6 → signA.getD j default = v → (Instr.index 170 (.agg #[.string ⟨#[]⟩, .string ⟨#[60, 60]⟩, .string ⟨#[60, 61]⟩, .string ⟨#[61]⟩, .string ⟨#[62, 61]⟩, .string ⟨#[62, 62]⟩]) (.int .i64 j)).run Tryz.prog w = .ok v w := fun j v w hj h => index_sign j v w hj h
  have i0 : ∀ w, (Instr.index 170 (.agg #[.string ⟨#[]⟩, .string ⟨#[60, 60]⟩, .string ⟨#[60, 61]⟩, .string ⟨#[61]⟩, .string ⟨#[62, 61]⟩, .string ⟨#[62, 62]⟩]) (.int .i64 0)).run Tryz.prog w = .ok (.string ⟨#[]⟩) w := fun w => ix 0 (.string ⟨#[]⟩) w (by decide) rfl
  have i1 : ∀ w, (Instr.index 170 (.agg #[.string ⟨#[]⟩, .string ⟨#[60, 60]⟩, .string ⟨#[60, 61]⟩, .string ⟨#[61]⟩, .string ⟨#[62, 61]⟩, .string ⟨#[62, 62]⟩]) (.int .i64 1)).run Tryz.prog w = .ok (.string ⟨#[60, 60]⟩) w := fun w => ix 1 (.string ⟨#[60, 60]⟩) w (by decide) rfl
  have i2 : ∀ w, (Instr.index 170 (.agg #[.string ⟨#[]⟩, .string ⟨#[60, 60]⟩, .string ⟨#[60, 61]⟩, .string ⟨#[61]⟩, .string ⟨#[62, 61]⟩, .string ⟨#[62, 62]⟩]) (.int .i64 2)).run Tryz.prog w = .ok (.string ⟨#[60, 61]⟩) w := fun w => ix 2 (.string ⟨#[60, 61]⟩) w (by decide) rfl
  have i3 : ∀ w, (Instr.index 170 (.agg #[.string ⟨#[]⟩, .string ⟨#[60, 60]⟩, .string ⟨#[60, 61]⟩, .string ⟨#[61]⟩, .string ⟨#[62, 61]⟩, .string ⟨#[62, 62]⟩]) (.int .i64 3)).run Tryz.prog w = .ok (.string ⟨#[61]⟩) w := fun w => ix 3 (.string ⟨#[61]⟩) w (by decide) rfl
  have i4 : ∀ w, (Instr.index 170 (.agg #[.string ⟨#[]⟩, .string ⟨#[60, 60]⟩, .string ⟨#[60, 61]⟩, .string ⟨#[61]⟩, .string ⟨#[62, 61]⟩, .string ⟨#[62, 62]⟩]) (.int .i64 4)).run Tryz.prog w = .ok (.string ⟨#[62, 61]⟩) w := fun w => ix 4 (.string ⟨#[62, 61]⟩) w (by decide) rfl
  have i5 : ∀ w, (Instr.index 170 (.agg #[.string ⟨#[]⟩, .string ⟨#[60, 60]⟩, .string ⟨#[60, 61]⟩, .string ⟨#[61]⟩, .string ⟨#[62, 61]⟩, .string ⟨#[62, 62]⟩]) (.int .i64 5)).run Tryz.prog w = .ok (.string ⟨#[62, 62]⟩) w := fun w => ix 5 (.string ⟨#[62, 62]⟩) w (by decide) rfl
  clear ix
  rcases sixS s with rfl | rfl | rfl | rfl | rfl | ⟨h1, h2, h3, h4, h5⟩
  · rw [show relS _ = 1 by decide +kernel]
    go_enter Tryz.func143, Tryz.ntmps143
    go_wp2_with fail
    refine wp_loop_rounds 7 ?_
    rw [rounds_succ]
    go_wp2_with fail
    rw [rounds_succ]
    go_wp2_with fail
    go_ret
    exact ⟨rfl, rfl⟩
  · rw [show relS _ = 2 by decide +kernel]
    go_enter Tryz.func143, Tryz.ntmps143
    go_wp2_with fail
    refine wp_loop_rounds 7 ?_
    rw [rounds_succ]
    go_wp2_with fail
    rw [rounds_succ]
    go_wp2_with fail
    rw [rounds_succ]
    go_wp2_with fail
    go_ret
    exact ⟨rfl, rfl⟩
  · rw [show relS _ = 3 by decide +kernel]
    go_enter Tryz.func143, Tryz.ntmps143
    go_wp2_with fail
    refine wp_loop_rounds 7 ?_
    rw [rounds_succ]
    go_wp2_with fail
    rw [rounds_succ]
    go_wp2_with fail
    rw [rounds_succ]
    go_wp2_with fail
    rw [rounds_succ]
    go_wp2_with fail
    go_ret
    exact ⟨rfl, rfl⟩
  · rw [show relS _ = 4 by decide +kernel]
    go_enter Tryz.func143, Tryz.ntmps143
    go_wp2_with fail
    refine wp_loop_rounds 7 ?_
    rw [rounds_succ]
    go_wp2_with fail
    rw [rounds_succ]
    go_wp2_with fail
    rw [rounds_succ]
    go_wp2_with fail
    rw [rounds_succ]
    go_wp2_with fail
    rw [rounds_succ]
    go_wp2_with fail
    go_ret
    exact ⟨rfl, rfl⟩
  · rw [show relS _ = 5 by decide +kernel]
    go_enter Tryz.func143, Tryz.ntmps143
    go_wp2_with fail
    refine wp_loop_rounds 7 ?_
    rw [rounds_succ]
    go_wp2_with fail
    rw [rounds_succ]
    go_wp2_with fail
    rw [rounds_succ]
    go_wp2_with fail
    rw [rounds_succ]
    go_wp2_with fail
    rw [rounds_succ]
    go_wp2_with fail
    rw [rounds_succ]
    go_wp2_with fail
    go_ret
    exact ⟨rfl, rfl⟩
  · rw [show relS s = 0 by unfold relS; rw [if_neg h1, if_neg h2, if_neg h3, if_neg h4, if_neg h5]]
    obtain ⟨a1, b1⟩ := list_ne (l := [60, 60]) h1
    obtain ⟨a2, b2⟩ := list_ne (l := [60, 61]) h2
    obtain ⟨a3, b3⟩ := list_ne (l := [61]) h3
    obtain ⟨a4, b4⟩ := list_ne (l := [62, 61]) h4
    obtain ⟨a5, b5⟩ := list_ne (l := [62, 62]) h5
    clear h1 h2 h3 h4 h5
    by_cases h0 : s.size = 0
    · obtain ⟨e0, _⟩ := empty_is h0
      go_enter Tryz.func143, Tryz.ntmps143
      go_wp2_with fail
      refine wp_loop_rounds 7 ?_
      rw [rounds_succ]
      go_wp2_with fail
      go_ret
      exact ⟨rfl, rfl⟩
    · obtain ⟨e0, _⟩ := empty_no h0
      go_enter Tryz.func143, Tryz.ntmps143
      go_wp2_with fail
      refine wp_loop_rounds 7 ?_
      rw [rounds_succ]
      go_wp2_with fail
      rw [rounds_succ]
      go_wp2_with fail
      rw [rounds_succ]
      go_wp2_with fail
      rw [rounds_succ]
      go_wp2_with fail
      rw [rounds_succ]
      go_wp2_with fail
      rw [rounds_succ]
      go_wp2_with fail
      rw [rounds_succ]
      go_wp2_with fail
      go_ret
      exact ⟨rfl, rfl⟩
end Ver
end Go.Proofs.YtapmpdljapbpeaaGreatDoor

/-
Rows of rows of bytes that are read alone; the contract of the reference's SameRows.
-/
import Derived.Test.YtjeidfknnophnaaRow
import Derived.Deep.RegionHeld3
import Derived.BigQuiet
namespace Go.Proofs.Ytjeidfknnophnaa
open Go.RowKit
set_option linter.unusedVariables false
namespace Wal

/-- A row's place: its slice lies at b, off + i and leads to these bytes. -/
def RowIn (w : World) (b off i : Nat) (r : List Int) : Prop := ∃ ai ci, w.cell? ⟨b, off + i, none⟩ = some (.slice ai r.length ci) ∧ Row w ai r.length r ∧ r.length ≤ ci ∧ (ai = none → ci = 0)
theorem RowIn.below {w w' : World} {b off i : Nat} {r : List Int} (h : RowIn w b off i r) (hb : Below w.heap.size w w') : RowIn w' b off i r := by
  obtain ⟨ai, ci, h1, h2, h3⟩ := h
  exact ⟨ai, ci, by rw [hb.cell (block_lt_of_cell h1)]; exact h1, h2.below hb, h3⟩
/-- A slice that reads as these rows. -/
def Rows (w : World) (v : Value) (ls : List (List Int)) : Prop :=
  ls.length ≤ 9223372036854775807 ∧ ∃ a cap, v = .slice a ls.length cap ∧ (0 < ls.length → ∃ b off, a = some ⟨b, off, none⟩ ∧ ∀ i, i < ls.length → RowIn w b off i (ls.getD i []))
theorem Rows.below {w w' : World} {v ls} (h : Rows w v ls) (hb : Below w.heap.size w w') : Rows w' v ls := by
  obtain ⟨h0, a, cap, h1, h2⟩ := h
  exact ⟨h0, a, cap, h1, fun hl => by
    obtain ⟨b, off, h3, h4⟩ := h2 hl
    exact ⟨b, off, h3, fun i hi => (h4 i hi).below hb⟩⟩
theorem drewN_below (w : World) (n : Nat) : Below w.heap.size w (w.drewN n) := ⟨rfl, rfl, rfl, Nat.le_refl _, fun _ _ => rfl⟩

set_option maxRecDepth 100000 in
theorem sameRows_any (v1 v2 : Value) (ls ms : List (List Int)) (w : World) (h1 : Rows w v1 ls) (h2 : Rows w v2 ms) :
    Calls Try.prog 23 #[v1, v2] w fun e w' => e = .returned (.bool (decide (ls = ms))) ∧ Below w.heap.size w w' := by
  obtain ⟨s1, a1, c1, rfl, p1⟩ := h1
  obtain ⟨s2, a2, c2, rfl, p2⟩ := h2
  have P1 := Lib.hid p1
  have P2 := Lib.hid p2
  clear p1 p2
  by_cases hl : ls.length = ms.length
  · have heq : ((ls.length : Int) != (ms.length : Int)) = false := by simp [hl]
    obtain ⟨n, hn⟩ : ∃ n, ls.length = n := ⟨_, rfl⟩
    have hm : ms.length = n := by omega
    have HL := Lib.hid hn
    have HM := Lib.hid hm
    rw [hn] at s1 P1
    rw [hm] at P2
    rw [hn, hm] at heq
    rw [hn, hm]
    clear hn hm hl s2
    go_enter Try.func23, Try.ntmps23
    go_wp2_with fail
    go_loopw [13] (fun i u => ∃ k : Nat, k ≤ n ∧ i = .int .i64 k ∧ (∀ j, j < k → ls.getD j [] = ms.getD j []) ∧ Below w.heap.size w u) (fun i _ => n - (intOf i).toNat)
    case atStart => exact ⟨0, by omega, rfl, fun j hj => absurd hj (by omega), Below.refl _ _⟩
    case round =>
      obtain ⟨k, hk, rfl, hsame, hb⟩ := hrel
      have HS := Lib.hid hsame
      clear hsame
      by_cases hlt : k < n
      · obtain ⟨b1, o1, rfl, q1⟩ := P1.out (by omega)
        obtain ⟨b2, o2, rfl, q2⟩ := P2.out (by omega)
        obtain ⟨ai, ci, x1, x2, _, _⟩ := (q1 k hlt).below hb
        obtain ⟨aj, cj, y1, y2, _, _⟩ := (q2 k hlt).below hb
        have hbeq := str_beq x2.byt y2.byt
        have e1 : ∀ n, (convert 25 9 (.slice ai (ls.getD k []).length ci)).run Try.prog (wr.drewN n) = .ok (.string (strOfNums (ls.getD k []))) (wr.drewN n) := fun n => (x2.below (drewN_below wr n)).conv ci
        have e2 : ∀ n, (convert 25 9 (.slice aj (ms.getD k []).length cj)).run Try.prog (wr.drewN n) = .ok (.string (strOfNums (ms.getD k []))) (wr.drewN n) := fun n => (y2.below (drewN_below wr n)).conv cj
        have k0 : (0 : Int) ≤ k := by omega
        have k1 : (k : Int) < n := by omega
        obtain ⟨X, hX⟩ : ∃ X, ls.getD k [] = X := ⟨_, rfl⟩
        obtain ⟨Y, hY⟩ : ∃ Y, ms.getD k [] = Y := ⟨_, rfl⟩
        rw [hX] at x1 e1 hbeq
        rw [hY] at y1 e2 hbeq
        have HX := Lib.hid hX
        have HY := Lib.hid hY
        have HBE := Lib.hid hb
        clear q1 q2 x2 y2 hX hY hb
        generalize strOfNums X = t1 at *
        generalize strOfNums Y = t2 at *
        by_cases hxy : X = Y
        · rw [show decide (X = Y) = true by simpa using hxy] at hbeq
          have HXY := Lib.hid hxy
          clear hxy
          go_wp2_with fail
          go_quiet (fail)
          go_wp2
          refine ⟨⟨k + 1, by omega, by go_num, fun j hj => ?_, HBE.out.trans ((drewN_below wr nq).mono HBE.out.size)⟩, ?_⟩
          · by_cases e : j = k
            · subst e; rw [HX.out, HY.out]; exact HXY.out
            · exact HS.out j (by omega)
          · simp [intOf]; omega
        · rw [show decide (X = Y) = false by simpa using hxy] at hbeq
          have HXY := Lib.hid hxy
          clear hxy
          go_wp2_with fail
          go_quiet (fail)
          go_wp2
          go_ret
          refine ⟨?_, HBE.out.trans ((drewN_below wr nq).mono HBE.out.size)⟩
          rw [show decide (ls = ms) = false from decide_eq_false fun e => HXY.out (by rw [← HX.out, ← HY.out, e])]
          rfl
      · obtain rfl : k = n := by omega
        have hfin : ls = ms := by
          apply List.ext_getElem (by rw [HL.out, HM.out])
          intro i h1 h2
          have := HS.out i (by rw [HL.out] at h1; exact h1)
          simpa [h1, h2] using this
        have HF := Lib.hid hfin
        have HBE := Lib.hid hb
        clear hfin hb
        go_wp2
        go_ret
        refine ⟨?_, HBE.out⟩
        rw [show decide (ls = ms) = true from decide_eq_true HF.out]
        rfl
  · have hne : ((ls.length : Int) != (ms.length : Int)) = true := by simp; omega
    have hd : decide (ls = ms) = false := decide_eq_false fun e => hl (by rw [e])
    rw [hd]
    clear hd hl
    go_enter Try.func23, Try.ntmps23
    go_wp2
    go_ret
    exact ⟨rfl, Below.refl _ _⟩
end Wal
end Go.Proofs.Ytjeidfknnophnaa

/-
Slices of strings that are read alone; the contract of the reference's SameTexts; append of one string.
-/
import Derived.Test.YtnhacikpkchfjaaDoorTextAwake
import Derived.Test.YtnhacikpkchfjaaDoorOwn
import Derived.Deep.RegionHeld3
import Derived.BigQuiet
namespace Go.Proofs.YtnhacikpkchfjaaDoor
open Go.RowKit
set_option linter.unusedVariables false
set_option linter.unusedSimpArgs false
namespace Txt
/-- A slice that reads as these texts. -/
def Texts (w : World) (v : Value) (ls : List ByteArray) : Prop :=
  ls.length ≤ 4611686018427387904 ∧ ∃ a cap, v = .slice a ls.length cap ∧ ls.length ≤ cap ∧ (0 < ls.length → ∃ b off, a = some ⟨b, off, none⟩ ∧ ∀ i, i < ls.length → w.cell? ⟨b, off + i, none⟩ = some (.string (ls.getD i ByteArray.empty)))
theorem Texts.below {w w' : World} {v ls} (h : Texts w v ls) (hb : Below w.heap.size w w') : Texts w' v ls := by
  obtain ⟨h0, a, cap, h1, hc, h2⟩ := h
  exact ⟨h0, a, cap, h1, hc, fun hl => by
    obtain ⟨b, off, h3, h4⟩ := h2 hl
    exact ⟨b, off, h3, fun i hi => by rw [hb.cell (lt_cell (h4 i hi))]; exact h4 i hi⟩⟩
theorem Texts.none (w : World) : Texts w (.slice none 0 0) [] := ⟨by simp, _, _, rfl, Nat.le_refl _, fun h => absurd h (by simp)⟩
theorem Texts.empty (w : World) (a : Option Addr) (c : Nat) : Texts w (.slice a 0 c) [] := ⟨by simp, _, _, rfl, by simp, fun h => absurd h (by simp)⟩
theorem Texts.owned {w : World} {B : Nat} {v : Value} {ls : List ByteArray} (h : w.ownsRow B 9 1 v ls.length (ls.map Value.string)) (hl : ls.length ≤ 4611686018427387904) : Texts w v ls := by
  refine ⟨hl, ?_⟩
  rcases id h.2 with ⟨rfl, h0⟩ | ⟨g, cap, cur, rfl, _, hh, hle, hcap, hsz, htake⟩
  · have : ls = [] := List.length_eq_zero_iff.1 h0
    subst this
    exact ⟨Option.none, 0, rfl, Nat.le_refl _, fun h => absurd h (by simp)⟩
  · refine ⟨_, _, rfl, hle, fun _ => ⟨g, 0, rfl, fun i hi => ?_⟩⟩
    have := h.cells (g := g) rfl i (.string (ls.getD i ByteArray.empty)) (by simp [hi])
    rw [Nat.zero_add]
    have e : (⟨g, 0, Option.none⟩ : Addr).add i = ⟨g, i, Option.none⟩ := by cases i <;> simp [Addr.add]
    rw [e] at this
    exact this
theorem drewN_below (w : World) (n : Nat) : Below w.heap.size w (w.drewN n) := ⟨rfl, rfl, rfl, Nat.le_refl _, fun _ _ => rfl⟩
theorem str_beq (x y : ByteArray) : (x.toList == y.toList) = decide (x = y) := by
  rw [Bool.eq_iff_iff]
  simp only [beq_iff_eq, decide_eq_true_eq]
  rw [Lib.toList_data, Lib.toList_data]
  constructor
  · intro h
    exact ByteArray.ext (Array.ext' h)
  · rintro rfl; rfl
set_option maxRecDepth 100000 in
set_option maxHeartbeats 2000000 in
theorem sameTexts_any (v1 v2 : Value) (ls ms : List ByteArray) (w : World) (h1 : Texts w v1 ls) (h2 : Texts w v2 ms) :
    Calls Tryd.prog 17 #[v1, v2] w fun e w' => e = .returned (.bool (decide (ls = ms))) ∧ Below w.heap.size w w' := by
  obtain ⟨s1, a1, c1, rfl, hc1, p1⟩ := h1
  obtain ⟨s2, a2, c2, rfl, hc2, p2⟩ := h2
  have P1 := Lib.hid p1
  have P2 := Lib.hid p2
  clear p1 p2
  by_cases hl : ls.length = ms.length
  · have heq : ((ls.length : Int) != (ms.length : Int)) = false := by simp [hl]
    obtain ⟨n, hn⟩ : ∃ n, ls.length = n := ⟨_, rfl⟩
    have hm : ms.length = n := by omega
    have HL := Lib.hid hn
    have HM := Lib.hid hm
    rw [hn] at s1 P1
    rw [hm] at P2
    rw [hn, hm] at heq
    rw [hn, hm]
    clear hn hm hl s2 hc1 hc2
    go_enter Tryd.func17, Tryd.ntmps17
    go_wp2_with fail
    go_loopw [13] (fun i u => ∃ k : Nat, k ≤ n ∧ i = .int .i64 k ∧ (∀ j, j < k → ls.getD j ByteArray.empty = ms.getD j ByteArray.empty) ∧ Below w.heap.size w u) (fun i _ => n - (intOf i).toNat)
    case atStart => exact ⟨0, by omega, rfl, fun j hj => absurd hj (by omega), Below.refl _ _⟩
    case round =>
      obtain ⟨k, hk, rfl, hsame, hb⟩ := hrel
      have HS := Lib.hid hsame
      clear hsame
      by_cases hlt : k < n
      · obtain ⟨b1, o1, rfl, q1⟩ := P1.out (by omega)
        obtain ⟨b2, o2, rfl, q2⟩ := P2.out (by omega)
        have x1 := q1 k hlt
        have y1 := q2 k hlt
        rw [← hb.cell (lt_cell x1)] at x1
        rw [← hb.cell (lt_cell y1)] at y1
        have k0 : (0 : Int) ≤ k := by omega
        have k1 : (k : Int) < n := by omega
        obtain ⟨X, hX⟩ : ∃ X, ls.getD k ByteArray.empty = X := ⟨_, rfl⟩
        obtain ⟨Y, hY⟩ : ∃ Y, ms.getD k ByteArray.empty = Y := ⟨_, rfl⟩
        have hbeq := str_beq X Y
        rw [hX] at x1
        rw [hY] at y1
        have HX := Lib.hid hX
        have HY := Lib.hid hY
        have HBE := Lib.hid hb
        clear q1 q2 hX hY hb
        by_cases hxy : X = Y
        · rw [show decide (X = Y) = true by simpa using hxy] at hbeq
          have HXY := Lib.hid hxy
          clear hxy
          go_wp2_with fail
          go_quiet (fail)
          go_wp2
          refine ⟨⟨k + 1, by omega, by go_num, fun j hj => ?_, HBE.out.trans ((drewN_below wr nq).mono HBE.out.size)⟩, ?_⟩
          · by_cases e : j = k
            · subst e; rw [HX.out, HY.out]; exact HXY.out
            · exact HS.out j (by omega)
          · simp [intOf]; omega
        · rw [show decide (X = Y) = false by simpa using hxy] at hbeq
          have HXY := Lib.hid hxy
          clear hxy
          go_wp2_with fail
          go_quiet (fail)
          go_wp2
          go_ret
          refine ⟨?_, HBE.out.trans ((drewN_below wr nq).mono HBE.out.size)⟩
          rw [show decide (ls = ms) = false from decide_eq_false fun e => HXY.out (by rw [← HX.out, ← HY.out, e])]
          rfl
      · obtain rfl : k = n := by omega
        have hfin : ls = ms := by
          apply List.ext_getElem (by rw [HL.out, HM.out])
          intro i h1 h2
          have := HS.out i (by rw [HL.out] at h1; exact h1)
          simpa [h1, h2] using this
        have HF := Lib.hid hfin
        have HBE := Lib.hid hb
        clear hfin hb
        go_wp2
        go_ret
        refine ⟨?_, HBE.out⟩
        rw [show decide (ls = ms) = true from decide_eq_true HF.out]
        rfl
  · have hne : ((ls.length : Int) != (ms.length : Int)) = true := by simp; omega
    have hd : decide (ls = ms) = false := decide_eq_false fun e => hl (by rw [e])
    rw [hd]
    clear hd hl
    go_enter Tryd.func17, Tryd.ntmps17
    go_wp2
    go_ret
    exact ⟨rfl, Below.refl _ _⟩
theorem infoText : (Tryd.prog.info? 9).map (fun i => (i.zero, i.size, i.bytes)) = some (some (.string ByteArray.empty), 1, 16) := by kernel_rfl
/-- append(l, text), for the walk. -/
theorem append_text {w : World} {ops : Array Oper} {rest : List Oper} {o : Oper} {a : Act} {Q : Exit → Act → World → Prop} (hgd : o.guard = none) (s x : Operand)
    (ho : o.op = .call { callee := .builtin .append, args := #[s, x], argTypes := #[26, 26] })
    (B : Nat) (v : Value) (ls : List ByteArray) (hv : a.eval s = v) (hown : w.ownsRow B 9 1 v ls.length (ls.map Value.string)) (y : Addr) (c : Nat) (hx : a.eval x = .slice (some y) 1 c) (t : ByteArray) (hcell : w.cell? (y.add 0) = some (.string t))
    (hn : ls.length + 1 ≤ 8796093022208) (hB : B ≤ w.heap.size)
    (h : ∀ v' w', w'.ownsRow B 9 1 v' (ls ++ [t]).length ((ls ++ [t]).map Value.string) → w.grownBy w' v.ownBlock → wpList Tryd.prog ops Q rest (a.put o.dst v') w') : wpList Tryd.prog ops Q (o :: rest) a w := by
  obtain ⟨i0, hi, hz0, hz1, hz2⟩ := info_parts infoText
  have hsrc : Src Tryd.prog 1 26 (.slice (some y) 1 c) 1 [.string t] w := by
    refine Src.ofSlice w Tryd.underlying26 y 1 c [.string t] rfl (fun j u hj => ?_) (fun u hu => by rw [List.mem_singleton.1 hu]; rfl)
    have : j = 0 := by have := (List.getElem?_eq_some_iff.1 hj).1; simp at this; omega
    subst this
    simp at hj
    rw [← hj]; exact hcell
  refine Own.wpList_append_src hgd s x 26 26 ho B 9 i0 _ 1 16 Tryd.underlying26 hi hz0 hz1 hz2 rfl v ls.length _ hv hown _ 1 [.string t] hx hsrc (by simp only [maxLen]; omega) (by omega) hB fun v' w' h1 h2 => ?_
  exact h v' w' (by simpa using h1) h2
end Txt
end Go.Proofs.YtnhacikpkchfjaaDoor

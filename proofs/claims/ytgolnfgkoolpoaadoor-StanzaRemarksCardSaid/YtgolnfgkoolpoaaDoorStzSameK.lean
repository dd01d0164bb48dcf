/-
The reference's SameStanzas: of stanzas that are the same.
-/
import Derived.Test.YtgolnfgkoolpoaaDoorStzParse
namespace Go.Proofs.YtgolnfgkoolpoaaDoor
open Go.RowKit
set_option linter.unusedSimpArgs false
set_option linter.unusedVariables false
namespace Stz
theorem texts_shape {w : World} {u : Value} {ls : List ByteArray} (h : Txt.Texts w u ls) : ls.length ≤ 4611686018427387904 ∧ ∃ a cap, u = .slice a ls.length cap ∧ (0 < ls.length → ∃ b off, a = some ⟨b, off, none⟩ ∧ ∀ i, i < ls.length → w.cell? ⟨b, off + i, none⟩ = some (.string (ls.getD i ByteArray.empty))) := by
  obtain ⟨h0, a, cap, h1, _, h2⟩ := h
  exact ⟨h0, a, cap, h1, h2⟩
theorem neq_self (x : ByteArray) : (x.toList != x.toList) = false := by simp
set_option maxRecDepth 100000 in
set_option maxHeartbeats 8000000 in
theorem sameStanzas_yes (v1 v2 : Value) (l m : List Sz) (lines : Bool) (w : World) (h1 : Stzs w v1 l) (h2 : Stzs w v2 m) (hlike : Like l m) (hlines : lines = true → l = m) :
    Calls Tryd.prog 13 #[v1, v2, .bool lines] w fun e w' => e = .returned (.bool true) ∧ Below w.heap.size w w' := by
  obtain ⟨s1, a1, c1, rfl, hc1, p1⟩ := h1
  obtain ⟨s2, a2, c2, rfl, hc2, p2⟩ := h2
  have P1 := Lib.hid p1
  have P2 := Lib.hid p2
  have HLK := Lib.hid hlike
  have HLN := Lib.hid hlines
  have hlen := hlike.len
  obtain ⟨n, hn⟩ : ∃ n, l.length = n := ⟨_, rfl⟩
  have hm : m.length = n := by omega
  have HL := Lib.hid hn
  have HM := Lib.hid hm
  have heq : ((n : Int) != (n : Int)) = false := by simp
  rw [hn] at s1 hc1
  rw [hm] at hc2 s2
  rw [hn, hm]
  clear hn hm p1 p2 hlike hlines hlen
  go_enter Tryd.func13, Tryd.ntmps13
  go_wp2_with fail
  go_loopw [21] (fun i u => ∃ k : Nat, k ≤ n ∧ i = .int .i64 k ∧ Hid (Below w.heap.size w u)) (fun i _ => n - (intOf i).toNat)
  case atStart => exact ⟨0, by omega, rfl, Below.refl _ _⟩
  case round =>
    obtain ⟨k, hk, rfl, HBK⟩ := hrel
    by_cases hlt : k < n
    · obtain ⟨g1, o1, rfl, r1⟩ := P1.out (by rw [HL.out]; omega)
      obtain ⟨g2, o2, rfl, r2⟩ := P2.out (by rw [HM.out]; omega)
      obtain ⟨x1, f1, x2, x3⟩ := r1 k (by rw [HL.out]; exact hlt)
      obtain ⟨y1, f2, y2, y3⟩ := r2 k (by rw [HM.out]; exact hlt)
      have hl1 : k < l.length := by rw [HL.out]; exact hlt
      have hm1 : k < m.length := by rw [HM.out]; exact hlt
      have hsame : (m.getD k (0, [])).2 = (l.getD k (0, [])).2 := by
        have := congrArg (fun q => q[k]?) HLK.out
        simp only [List.getElem?_map, List.getElem?_eq_getElem hl1, List.getElem?_eq_getElem hm1, Option.map_some, Option.some.injEq] at this
        simp [List.getD, List.getElem?_eq_getElem hl1, List.getElem?_eq_getElem hm1, this]
      have hline : lines = true → (m.getD k (0, [])).1 = (l.getD k (0, [])).1 := fun h => by rw [HLN.out h]
      rw [hsame] at y3
      obtain ⟨L1, hL1⟩ : ∃ L1, (l.getD k (0, [])).1 = L1 := ⟨_, rfl⟩
      obtain ⟨L2, hL2⟩ : ∃ L2, (m.getD k (0, [])).1 = L2 := ⟨_, rfl⟩
      obtain ⟨fs, hfs⟩ : ∃ fs, (l.getD k (0, [])).2 = fs := ⟨_, rfl⟩
      rw [hL1] at x1
      rw [hL2] at y1
      rw [hL1, hL2] at hline
      rw [hfs] at x3 y3
      obtain ⟨hFb, fa, fc, rfl, _, q1⟩ := x3
      obtain ⟨_, fb, fd, rfl, _, q2⟩ := y3
      rw [← HBK.out.cell (Txt.lt_cell x1)] at x1
      rw [← HBK.out.cell (Txt.lt_cell x2)] at x2
      rw [← HBK.out.cell (Txt.lt_cell y1)] at y1
      rw [← HBK.out.cell (Txt.lt_cell y2)] at y2
      rw [Nat.mul_comm 2 k] at x1 x2 y1 y2
      obtain ⟨F, hF⟩ : ∃ F, fs.length = F := ⟨_, rfl⟩
      have HF := Lib.hid hF
      have Q1 := Lib.hid q1
      have Q2 := Lib.hid q2
      rw [hF] at x2 y2 hFb
      have k0 : (0 : Int) ≤ k := by omega
      have k1 : (k : Int) < n := by omega
      have hFF : ((F : Int) != (F : Int)) = false := by simp
      have hLL : lines = true → (L1 != L2) = false := fun h => by simp [hline h]
      have HLL := Lib.hid hLL
      clear hF q1 q2 hfs hL1 hL2 hline hsame hl1 hm1 r1 r2 hLL
      cases lines with
      | true =>
        have hLL := HLL.out rfl
        obtain ⟨b8, hb8⟩ : ∃ b8, wr.heap.size = b8 := ⟨_, rfl⟩
        obtain ⟨W1, hW1⟩ : ∃ W1, wr.alloc (.cells #[.int .i64 L1, .slice fa F fc] 37) = W1 := ⟨_, rfl⟩
        have hB1 : Below wr.heap.size wr W1 := by rw [← hW1]; exact (Below.refl _ _).alloc (Nat.le_refl _) _
        have i1 : Blk.Is W1 b8 37 #[.int .i64 L1, .slice fa F fc] := by rw [← hW1, ← hb8]; exact Blk.Is.new wr _ _
        obtain ⟨b9, hb9⟩ : ∃ b9, W1.heap.size = b9 := ⟨_, rfl⟩
        obtain ⟨W2, hW2⟩ : ∃ W2, W1.alloc (.cells #[.int .i64 L2, .slice fb F fd] 37) = W2 := ⟨_, rfl⟩
        have hB2 : Below W1.heap.size W1 W2 := by rw [← hW2]; exact (Below.refl _ _).alloc (Nat.le_refl _) _
        have i2 : Blk.Is W2 b9 37 #[.int .i64 L2, .slice fb F fd] := by rw [← hW2, ← hb9]; exact Blk.Is.new W1 _ _
        have i12 : Blk.Is W2 b8 37 #[.int .i64 L1, .slice fa F fc] := (Blk.Chg.ofBelow' (S := fun _ => False) hB2).is i1 (by simp)
        have y1' : W1.cell? ⟨g2, o2 + k * 2, none⟩ = some (.int .i64 L2) := by rw [hB1.cell (Txt.lt_cell y1)]; exact y1
        have y2' : W1.cell? ⟨g2, o2 + k * 2 + 1, none⟩ = some (.slice fb F fd) := by rw [hB1.cell (Txt.lt_cell y2)]; exact y2
        have e80 : W2.cell? ⟨b8, 0, none⟩ = some (.int .i64 L1) := i12.at rfl
        have e81 : W2.cell? ⟨b8, 1, none⟩ = some (.slice fa F fc) := i12.at rfl
        have e90 : W2.cell? ⟨b9, 0, none⟩ = some (.int .i64 L2) := i2.at rfl
        have e91 : W2.cell? ⟨b9, 1, none⟩ = some (.slice fb F fd) := i2.at rfl
        have HBW2 := Lib.hid (HBK.out.trans ((hB1.trans (hB2.mono hB1.size)).mono HBK.out.size))
        have HE81 := Lib.hid e81
        have HE91 := Lib.hid e91
        clear hB1 hB2 i1 i2 i12 y1 y2
        go_wp2_with fail
        clear hW1 hW2 hb8 hb9 y1' y2' e80 e81 e90 e91 x1 x2
        go_loopw [50] (fun i u => ∃ j : Nat, j ≤ F ∧ i = .int .i64 j ∧ Hid (Below W2.heap.size W2 u)) (fun i _ => F - (intOf i).toNat)
        case atStart => exact ⟨0, by omega, rfl, Below.refl _ _⟩
        case round =>
          obtain ⟨j, hj, rfl, HBJ⟩ := hrel
          have HBJW := Lib.hid (HBW2.out.trans (HBJ.out.mono HBW2.out.size))
          by_cases hjl : j < F
          · obtain ⟨h1, p1, rfl, t1⟩ := Q1.out (by rw [HF.out]; omega)
            obtain ⟨h2, p2, rfl, t2⟩ := Q2.out (by rw [HF.out]; omega)
            obtain ⟨z1, u1, z2, z3⟩ := t1 j (by rw [HF.out]; exact hjl)
            obtain ⟨z4, u2, z5, z6⟩ := t2 j (by rw [HF.out]; exact hjl)
            obtain ⟨nm, hnm⟩ : ∃ nm, S (fs.getD j ([], [])).1 = nm := ⟨_, rfl⟩
            obtain ⟨ts, hts⟩ : ∃ ts, (fs.getD j ([], [])).2.map S = ts := ⟨_, rfl⟩
            rw [hnm] at z1 z4
            rw [hts] at z3 z6
            obtain ⟨hTb, ta, tc, rfl, n1⟩ := texts_shape z3
            obtain ⟨_, tb, td, rfl, n2⟩ := texts_shape z6
            have hl3 := Txt.lt_cell z4
            have hl4 := Txt.lt_cell z5
            rw [← HBJW.out.cell (Txt.lt_cell z1)] at z1
            rw [← HBJW.out.cell (Txt.lt_cell z2)] at z2
            rw [← HBJW.out.cell (Txt.lt_cell z4)] at z4
            rw [← HBJW.out.cell (Txt.lt_cell z5)] at z5
            rw [Nat.mul_comm 2 j] at z1 z2 z4 z5
            obtain ⟨T, hT⟩ : ∃ T, ts.length = T := ⟨_, rfl⟩
            have HTT := Lib.hid hT
            have N1 := Lib.hid n1
            have N2 := Lib.hid n2
            rw [hT] at z2 z5 hTb
            have j0 : (0 : Int) ≤ j := by omega
            have j1 : (j : Int) < F := by omega
            have hTT : ((T : Int) != (T : Int)) = false := by simp
            have hnn := neq_self nm
            have e81 : wr.cell? ⟨b8, 1, none⟩ = some (.slice (some ⟨h1, p1, none⟩) F fc) := by rw [HBJ.out.cell (Txt.lt_cell HE81.out)]; exact HE81.out
            have e91 : wr.cell? ⟨b9, 1, none⟩ = some (.slice (some ⟨h2, p2, none⟩) F fd) := by rw [HBJ.out.cell (Txt.lt_cell HE91.out)]; exact HE91.out
            obtain ⟨b11, hb11⟩ : ∃ b11, wr.heap.size = b11 := ⟨_, rfl⟩
            obtain ⟨W3, hW3⟩ : ∃ W3, wr.alloc (.cells #[.string nm, .slice ta T tc] 42) = W3 := ⟨_, rfl⟩
            have hB3 : Below wr.heap.size wr W3 := by rw [← hW3]; exact (Below.refl _ _).alloc (Nat.le_refl _) _
            have i3 : Blk.Is W3 b11 42 #[.string nm, .slice ta T tc] := by rw [← hW3, ← hb11]; exact Blk.Is.new wr _ _
            obtain ⟨b12, hb12⟩ : ∃ b12, W3.heap.size = b12 := ⟨_, rfl⟩
            obtain ⟨W4, hW4⟩ : ∃ W4, W3.alloc (.cells #[.string nm, .slice tb T td] 42) = W4 := ⟨_, rfl⟩
            have hB4 : Below W3.heap.size W3 W4 := by rw [← hW4]; exact (Below.refl _ _).alloc (Nat.le_refl _) _
            have i4 : Blk.Is W4 b12 42 #[.string nm, .slice tb T td] := by rw [← hW4, ← hb12]; exact Blk.Is.new W3 _ _
            have i34 : Blk.Is W4 b11 42 #[.string nm, .slice ta T tc] := (Blk.Chg.ofBelow' (S := fun _ => False) hB4).is i3 (by simp)
            have e913 : W3.cell? ⟨b9, 1, none⟩ = some (.slice (some ⟨h2, p2, none⟩) F fd) := by rw [hB3.cell (Txt.lt_cell e91)]; exact e91
            have z4' : W3.cell? ⟨h2, p2 + j * 2, none⟩ = some (.string nm) := by rw [hB3.cell (Txt.lt_cell z4)]; exact z4
            have z5' : W3.cell? ⟨h2, p2 + j * 2 + 1, none⟩ = some (.slice tb T td) := by rw [hB3.cell (Txt.lt_cell z5)]; exact z5
            have e110 : W4.cell? ⟨b11, 0, none⟩ = some (.string nm) := i34.at rfl
            have e111 : W4.cell? ⟨b11, 1, none⟩ = some (.slice ta T tc) := i34.at rfl
            have e120 : W4.cell? ⟨b12, 0, none⟩ = some (.string nm) := i4.at rfl
            have e121 : W4.cell? ⟨b12, 1, none⟩ = some (.slice tb T td) := i4.at rfl
            have HB4J := Lib.hid (HBJ.out.trans ((hB3.trans (hB4.mono hB3.size)).mono HBJ.out.size))
            have HB4W := Lib.hid (HBJW.out.trans ((hB3.trans (hB4.mono hB3.size)).mono HBJW.out.size))
            have HE111 := Lib.hid e111
            have HE121 := Lib.hid e121
            clear hB3 hB4 i3 i4 i34 n1 n2 hT hts hnm t1 t2 z3 z6 hl3 hl4 e91 z4 z5
            go_wp2_with fail
            clear hW3 hW4 hb11 hb12 e81 e913 z4' z5' z1 z2 e110 e111 e120 e121
            go_loopw [77] (fun i u => ∃ q : Nat, q ≤ T ∧ i = .int .i64 q ∧ Hid (Below W4.heap.size W4 u)) (fun i _ => T - (intOf i).toNat)
            case atStart => exact ⟨0, by omega, rfl, Below.refl _ _⟩
            case round =>
              obtain ⟨q, hq, rfl, HBQ⟩ := hrel
              by_cases hql : q < T
              · obtain ⟨k1', q1', rfl, m1⟩ := N1.out (by rw [HTT.out]; omega)
                obtain ⟨k2', q2', rfl, m2⟩ := N2.out (by rw [HTT.out]; omega)
                have c1' := m1 q (by rw [HTT.out]; exact hql)
                have c2' := m2 q (by rw [HTT.out]; exact hql)
                have HBQW := HB4W.out.trans (HBQ.out.mono HB4W.out.size)
                rw [← HBQW.cell (Txt.lt_cell c1')] at c1'
                rw [← HBQW.cell (Txt.lt_cell c2')] at c2'
                obtain ⟨X, hX⟩ : ∃ X, ts.getD q ByteArray.empty = X := ⟨_, rfl⟩
                rw [hX] at c1' c2'
                have e111 : wr.cell? ⟨b11, 1, none⟩ = some (.slice (some ⟨k1', q1', none⟩) T tc) := by rw [HBQ.out.cell (Txt.lt_cell HE111.out)]; exact HE111.out
                have e121 : wr.cell? ⟨b12, 1, none⟩ = some (.slice (some ⟨k2', q2', none⟩) T td) := by rw [HBQ.out.cell (Txt.lt_cell HE121.out)]; exact HE121.out
                have q0 : (0 : Int) ≤ q := by omega
                have q1 : (q : Int) < T := by omega
                have hXX := neq_self X
                clear m1 m2 hX HBQW
                go_wp2_with fail
                go_quiet (fail)
                go_wp2_with fail
                refine ⟨⟨q + 1, by omega, by go_num, ?_⟩, by simp [intOf]; omega⟩
                exact HBQ.out.trans ((Txt.drewN_below wr nq).mono HBQ.out.size)
              · obtain rfl : q = T := by omega
                go_wp2_with fail
                refine ⟨⟨j + 1, by omega, by go_num, ?_⟩, by simp [intOf]; omega⟩
                exact HB4J.out.trans (HBQ.out.mono HB4J.out.size)
          · obtain rfl : j = F := by omega
            go_wp2_with fail
            refine ⟨⟨k + 1, by omega, by go_num, HBJW⟩, by simp [intOf]; omega⟩
      | false =>
        obtain ⟨b8, hb8⟩ : ∃ b8, wr.heap.size = b8 := ⟨_, rfl⟩
        obtain ⟨W1, hW1⟩ : ∃ W1, wr.alloc (.cells #[.int .i64 L1, .slice fa F fc] 37) = W1 := ⟨_, rfl⟩
        have hB1 : Below wr.heap.size wr W1 := by rw [← hW1]; exact (Below.refl _ _).alloc (Nat.le_refl _) _
        have i1 : Blk.Is W1 b8 37 #[.int .i64 L1, .slice fa F fc] := by rw [← hW1, ← hb8]; exact Blk.Is.new wr _ _
        obtain ⟨b9, hb9⟩ : ∃ b9, W1.heap.size = b9 := ⟨_, rfl⟩
        obtain ⟨W2, hW2⟩ : ∃ W2, W1.alloc (.cells #[.int .i64 L2, .slice fb F fd] 37) = W2 := ⟨_, rfl⟩
        have hB2 : Below W1.heap.size W1 W2 := by rw [← hW2]; exact (Below.refl _ _).alloc (Nat.le_refl _) _
        have i2 : Blk.Is W2 b9 37 #[.int .i64 L2, .slice fb F fd] := by rw [← hW2, ← hb9]; exact Blk.Is.new W1 _ _
        have i12 : Blk.Is W2 b8 37 #[.int .i64 L1, .slice fa F fc] := (Blk.Chg.ofBelow' (S := fun _ => False) hB2).is i1 (by simp)
        have y1' : W1.cell? ⟨g2, o2 + k * 2, none⟩ = some (.int .i64 L2) := by rw [hB1.cell (Txt.lt_cell y1)]; exact y1
        have y2' : W1.cell? ⟨g2, o2 + k * 2 + 1, none⟩ = some (.slice fb F fd) := by rw [hB1.cell (Txt.lt_cell y2)]; exact y2
        have e80 : W2.cell? ⟨b8, 0, none⟩ = some (.int .i64 L1) := i12.at rfl
        have e81 : W2.cell? ⟨b8, 1, none⟩ = some (.slice fa F fc) := i12.at rfl
        have e90 : W2.cell? ⟨b9, 0, none⟩ = some (.int .i64 L2) := i2.at rfl
        have e91 : W2.cell? ⟨b9, 1, none⟩ = some (.slice fb F fd) := i2.at rfl
        have HBW2 := Lib.hid (HBK.out.trans ((hB1.trans (hB2.mono hB1.size)).mono HBK.out.size))
        have HE81 := Lib.hid e81
        have HE91 := Lib.hid e91
        clear hB1 hB2 i1 i2 i12 y1 y2
        go_wp2_with fail
        clear hW1 hW2 hb8 hb9 y1' y2' e80 e81 e90 e91 x1 x2
        go_loopw [50] (fun i u => ∃ j : Nat, j ≤ F ∧ i = .int .i64 j ∧ Hid (Below W2.heap.size W2 u)) (fun i _ => F - (intOf i).toNat)
        case atStart => exact ⟨0, by omega, rfl, Below.refl _ _⟩
        case round =>
          obtain ⟨j, hj, rfl, HBJ⟩ := hrel
          have HBJW := Lib.hid (HBW2.out.trans (HBJ.out.mono HBW2.out.size))
          by_cases hjl : j < F
          · obtain ⟨h1, p1, rfl, t1⟩ := Q1.out (by rw [HF.out]; omega)
            obtain ⟨h2, p2, rfl, t2⟩ := Q2.out (by rw [HF.out]; omega)
            obtain ⟨z1, u1, z2, z3⟩ := t1 j (by rw [HF.out]; exact hjl)
            obtain ⟨z4, u2, z5, z6⟩ := t2 j (by rw [HF.out]; exact hjl)
            obtain ⟨nm, hnm⟩ : ∃ nm, S (fs.getD j ([], [])).1 = nm := ⟨_, rfl⟩
            obtain ⟨ts, hts⟩ : ∃ ts, (fs.getD j ([], [])).2.map S = ts := ⟨_, rfl⟩
            rw [hnm] at z1 z4
            rw [hts] at z3 z6
            obtain ⟨hTb, ta, tc, rfl, n1⟩ := texts_shape z3
            obtain ⟨_, tb, td, rfl, n2⟩ := texts_shape z6
            have hl3 := Txt.lt_cell z4
            have hl4 := Txt.lt_cell z5
            rw [← HBJW.out.cell (Txt.lt_cell z1)] at z1
            rw [← HBJW.out.cell (Txt.lt_cell z2)] at z2
            rw [← HBJW.out.cell (Txt.lt_cell z4)] at z4
            rw [← HBJW.out.cell (Txt.lt_cell z5)] at z5
            rw [Nat.mul_comm 2 j] at z1 z2 z4 z5
            obtain ⟨T, hT⟩ : ∃ T, ts.length = T := ⟨_, rfl⟩
            have HTT := Lib.hid hT
            have N1 := Lib.hid n1
            have N2 := Lib.hid n2
            rw [hT] at z2 z5 hTb
            have j0 : (0 : Int) ≤ j := by omega
            have j1 : (j : Int) < F := by omega
            have hTT : ((T : Int) != (T : Int)) = false := by simp
            have hnn := neq_self nm
            have e81 : wr.cell? ⟨b8, 1, none⟩ = some (.slice (some ⟨h1, p1, none⟩) F fc) := by rw [HBJ.out.cell (Txt.lt_cell HE81.out)]; exact HE81.out
            have e91 : wr.cell? ⟨b9, 1, none⟩ = some (.slice (some ⟨h2, p2, none⟩) F fd) := by rw [HBJ.out.cell (Txt.lt_cell HE91.out)]; exact HE91.out
            obtain ⟨b11, hb11⟩ : ∃ b11, wr.heap.size = b11 := ⟨_, rfl⟩
            obtain ⟨W3, hW3⟩ : ∃ W3, wr.alloc (.cells #[.string nm, .slice ta T tc] 42) = W3 := ⟨_, rfl⟩
            have hB3 : Below wr.heap.size wr W3 := by rw [← hW3]; exact (Below.refl _ _).alloc (Nat.le_refl _) _
            have i3 : Blk.Is W3 b11 42 #[.string nm, .slice ta T tc] := by rw [← hW3, ← hb11]; exact Blk.Is.new wr _ _
            obtain ⟨b12, hb12⟩ : ∃ b12, W3.heap.size = b12 := ⟨_, rfl⟩
            obtain ⟨W4, hW4⟩ : ∃ W4, W3.alloc (.cells #[.string nm, .slice tb T td] 42) = W4 := ⟨_, rfl⟩
            have hB4 : Below W3.heap.size W3 W4 := by rw [← hW4]; exact (Below.refl _ _).alloc (Nat.le_refl _) _
            have i4 : Blk.Is W4 b12 42 #[.string nm, .slice tb T td] := by rw [← hW4, ← hb12]; exact Blk.Is.new W3 _ _
            have i34 : Blk.Is W4 b11 42 #[.string nm, .slice ta T tc] := (Blk.Chg.ofBelow' (S := fun _ => False) hB4).is i3 (by simp)
            have e913 : W3.cell? ⟨b9, 1, none⟩ = some (.slice (some ⟨h2, p2, none⟩) F fd) := by rw [hB3.cell (Txt.lt_cell e91)]; exact e91
            have z4' : W3.cell? ⟨h2, p2 + j * 2, none⟩ = some (.string nm) := by rw [hB3.cell (Txt.lt_cell z4)]; exact z4
            have z5' : W3.cell? ⟨h2, p2 + j * 2 + 1, none⟩ = some (.slice tb T td) := by rw [hB3.cell (Txt.lt_cell z5)]; exact z5
            have e110 : W4.cell? ⟨b11, 0, none⟩ = some (.string nm) := i34.at rfl
            have e111 : W4.cell? ⟨b11, 1, none⟩ = some (.slice ta T tc) := i34.at rfl
            have e120 : W4.cell? ⟨b12, 0, none⟩ = some (.string nm) := i4.at rfl
            have e121 : W4.cell? ⟨b12, 1, none⟩ = some (.slice tb T td) := i4.at rfl
            have HB4J := Lib.hid (HBJ.out.trans ((hB3.trans (hB4.mono hB3.size)).mono HBJ.out.size))
            have HB4W := Lib.hid (HBJW.out.trans ((hB3.trans (hB4.mono hB3.size)).mono HBJW.out.size))
            have HE111 := Lib.hid e111
            have HE121 := Lib.hid e121
            clear hB3 hB4 i3 i4 i34 n1 n2 hT hts hnm t1 t2 z3 z6 hl3 hl4 e91 z4 z5
            go_wp2_with fail
            clear hW3 hW4 hb11 hb12 e81 e913 z4' z5' z1 z2 e110 e111 e120 e121
            go_loopw [77] (fun i u => ∃ q : Nat, q ≤ T ∧ i = .int .i64 q ∧ Hid (Below W4.heap.size W4 u)) (fun i _ => T - (intOf i).toNat)
            case atStart => exact ⟨0, by omega, rfl, Below.refl _ _⟩
            case round =>
              obtain ⟨q, hq, rfl, HBQ⟩ := hrel
              by_cases hql : q < T
              · obtain ⟨k1', q1', rfl, m1⟩ := N1.out (by rw [HTT.out]; omega)
                obtain ⟨k2', q2', rfl, m2⟩ := N2.out (by rw [HTT.out]; omega)
                have c1' := m1 q (by rw [HTT.out]; exact hql)
                have c2' := m2 q (by rw [HTT.out]; exact hql)
                have HBQW := HB4W.out.trans (HBQ.out.mono HB4W.out.size)
                rw [← HBQW.cell (Txt.lt_cell c1')] at c1'
                rw [← HBQW.cell (Txt.lt_cell c2')] at c2'
                obtain ⟨X, hX⟩ : ∃ X, ts.getD q ByteArray.empty = X := ⟨_, rfl⟩
                rw [hX] at c1' c2'
                have e111 : wr.cell? ⟨b11, 1, none⟩ = some (.slice (some ⟨k1', q1', none⟩) T tc) := by rw [HBQ.out.cell (Txt.lt_cell HE111.out)]; exact HE111.out
                have e121 : wr.cell? ⟨b12, 1, none⟩ = some (.slice (some ⟨k2', q2', none⟩) T td) := by rw [HBQ.out.cell (Txt.lt_cell HE121.out)]; exact HE121.out
                have q0 : (0 : Int) ≤ q := by omega
                have q1 : (q : Int) < T := by omega
                have hXX := neq_self X
                clear m1 m2 hX HBQW
                go_wp2_with fail
                go_quiet (fail)
                go_wp2_with fail
                refine ⟨⟨q + 1, by omega, by go_num, ?_⟩, by simp [intOf]; omega⟩
                exact HBQ.out.trans ((Txt.drewN_below wr nq).mono HBQ.out.size)
              · obtain rfl : q = T := by omega
                go_wp2_with fail
                refine ⟨⟨j + 1, by omega, by go_num, ?_⟩, by simp [intOf]; omega⟩
                exact HB4J.out.trans (HBQ.out.mono HB4J.out.size)
          · obtain rfl : j = F := by omega
            go_wp2_with fail
            refine ⟨⟨k + 1, by omega, by go_num, HBJW⟩, by simp [intOf]; omega⟩
    · obtain rfl : k = n := by omega
      go_wp2_with fail
      go_ret
      exact ⟨rfl, HBK.out⟩
end Stz
end Go.Proofs.YtgolnfgkoolpoaaDoor

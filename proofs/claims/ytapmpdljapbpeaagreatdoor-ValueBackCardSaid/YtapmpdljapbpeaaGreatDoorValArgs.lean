/-
What came in as a value as data.
-/
import Derived.Test.YtapmpdljapbpeaaGreatDoorRelArgs
import Derived.Test.YtapmpdljapbpeaaGreatDoorValMades
namespace Go.Proofs.YtapmpdljapbpeaaGreatDoor
open Go.RowKit Go.ChangeShapes Go.WideShapes Go.Deep
set_option linter.unusedSimpArgs false
set_option linter.unusedVariables false
namespace Va
open Rl (At Pv Ats Pvs Clss Wt LimA LimP LimC clss_of ats_of pvs_of int_of string_of)
section
variable {H : Type} {enc : TypeId × Value → H} {w : World}
theorem seven {α : Type} : ∀ {l : List α}, l.length = 7 → ∃ a b c d e f g, l = [a, b, c, d, e, f, g]
  | [a, b, c, d, e, f, g], _ => ⟨a, b, c, d, e, f, g, rfl⟩
theorem bool_of {n : Nat} {v : Value} {y : DataW H × List MemPlace} (h : DataW.trod enc Tryz.prog w 0 (fun _ => true) true n 4 [v] = some y) : ∃ k : Bool, v = .bool k := by
  obtain ⟨k, hv, _⟩ := DataW.trod_bool Tryz.underlying4 h
  exact ⟨k, by simpa using hv⟩
set_option maxRecDepth 100000 in
theorem any_of {base : Nat} {v : Value} {d : DataW H} {p : List MemPlace} (o : Value.okWide Tryz.prog w .any base 26 v) (h : DataW.Trod enc Tryz.prog w 0 (fun _ => true) true 26 v d p) (hw : Wt 26 d) :
    ∃ (k n : Int) (s : ByteArray) (b : Bool) (vc va vp : Value) (lc : List (List At)) (la : List At) (lp : List Pv), v = .agg #[.int .i64 k, .string s, .int .i64 n, .bool b, vc, va, vp] ∧ (Lit.int .i64 n).wf = true ∧ s.size ≤ 140737488351232 ∧ (Clss w vc lc ∧ LimC lc) ∧ (Ats w va la ∧ LimA la) ∧ (Pvs w vp lp ∧ LimP lp) := by
  obtain ⟨cs, rfl, hsz⟩ := okWide_struct Tryz.underlying26 o
  have hC : Tryz.prog.cellsOf 26 = 7 := by kernel_rfl
  rw [hC] at hsz
  obtain ⟨c0, c1, c2, c3, c4, c5, c6, hcs⟩ := seven (l := cs.toList) (by simpa using hsz)
  obtain rfl : cs = #[c0, c1, c2, c3, c4, c5, c6] := Array.ext' hcs
  obtain ⟨fuel, hf⟩ := h
  have hf2 : DataW.trod enc Tryz.prog w 0 (fun _ => true) true fuel 26 [c0, c1, c2, c3, c4, c5, c6] = some (d, p) := hf
  obtain ⟨xs, m, _, hx, _, hxl, hfs⟩ := DataW.trod_struct Tryz.underlying26 hf2
  obtain ⟨y0, y1, y2, y3, y4, y5, y6, rfl⟩ := seven hxl
  have cT : Tryz.prog.cellsOf 9 = 1 := by kernel_rfl
  have cI : Tryz.prog.cellsOf 3 = 1 := by kernel_rfl
  have cB : Tryz.prog.cellsOf 4 = 1 := by kernel_rfl
  have cC : Tryz.prog.cellsOf 22 = 1 := by kernel_rfl
  have cA : Tryz.prog.cellsOf 23 = 1 := by kernel_rfl
  have cP : Tryz.prog.cellsOf 24 = 1 := by kernel_rfl
  have g0 := hfs 0 _ rfl
  have g1 := hfs 1 _ rfl
  have g2 := hfs 2 _ rfl
  have g3 := hfs 3 _ rfl
  have g4 := hfs 4 _ rfl
  have g5 := hfs 5 _ rfl
  have g6 := hfs 6 _ rfl
  simp [cT, cI, cB, cC, cA, cP] at g0 g1 g2 g3 g4 g5 g6
  simp only [Prod.mk.injEq] at hx
  obtain ⟨rfl, _⟩ := hx
  obtain ⟨k, rfl⟩ := int_of (y := y0) g0
  obtain ⟨s, rfl, hs⟩ := string_of (d := y1.1) (ps := y1.2) g1 (fun q hq => hw q (by simp [DataW.weights, Tryz.underlying26, DataW.weightsEach, hq]))
  obtain ⟨n, hn, _, hwf⟩ := DataW.trod_int Tryz.underlying3 g2
  obtain rfl : c2 = .int .i64 n := by simpa using hn
  obtain ⟨b, rfl⟩ := bool_of (y := y3) g3
  obtain ⟨lc, h1, h2⟩ := clss_of (d := y4.1) (ps := y4.2) Tryz.underlying22 g4 (fun q hq => hw q (by simp [DataW.weights, Tryz.underlying26, DataW.weightsEach, hq]))
  obtain ⟨la, h3, h4⟩ := ats_of (d := y5.1) (ps := y5.2) Tryz.underlying23 g5 (fun q hq => hw q (by simp [DataW.weights, Tryz.underlying26, DataW.weightsEach, hq]))
  obtain ⟨lp, h5, h6⟩ := pvs_of (d := y6.1) (ps := y6.2) Tryz.underlying24 g6 (fun q hq => hw q (by simp [DataW.weights, Tryz.underlying26, DataW.weightsEach, hq]))
  exact ⟨k, n, Ver.S s, b, _, _, _, lc, la, lp, rfl, hwf, by rw [Ver.S_size]; exact hs, ⟨h1, h2⟩, ⟨h3, h4⟩, h5, h6⟩
end
end Va
end Go.Proofs.YtapmpdljapbpeaaGreatDoor

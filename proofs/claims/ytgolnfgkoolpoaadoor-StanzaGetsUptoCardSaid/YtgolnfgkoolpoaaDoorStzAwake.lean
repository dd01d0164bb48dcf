/-
A stanza that every program must know.
-/
import Derived.Test.YtgolnfgkoolpoaaDoorStzFold
import Derived.Test.YtgolnfgkoolpoaaDoorStzParse
import Derived.Lib.SlBytesConst
namespace Go.Proofs.YtgolnfgkoolpoaaDoor
open Go.RowKit
set_option linter.unusedSimpArgs false
set_option linter.unusedVariables false
namespace Stz
def awNums : List Int := [80, 97, 99, 107, 97, 103, 101, 58, 32, 97, 10, 68, 101, 112, 101, 110, 100, 115, 58, 32, 98, 44, 10, 9, 99, 10]
def awPackage : Bs := [80, 97, 99, 107, 97, 103, 101]
def awDepends : Bs := [68, 101, 112, 101, 110, 100, 115]
def awFields : List Fld := [(awPackage, [[97]]), (awDepends, [[98, 44], [99]])]
def awLines : List Bs := [[80, 97, 99, 107, 97, 103, 101, 58, 32, 97], [68, 101, 112, 101, 110, 100, 115, 58, 32, 98, 44], [9, 99]]
theorem aw_parse : parse awLines = ([(1, awFields)], 0, 0) := by kernel_rfl
theorem aw_lines : awLines = Txt.linesL (strOfNums awNums).data.toList := by decide +kernel
theorem bytes_S (l : List Bs) : bytes (l.map S) = l := by
  unfold bytes
  simp [List.map_map, Function.comp_def, S_data]
theorem aw_E : ∀ i, i < 3 → Txt.E ((awLines.map S).getD i ByteArray.empty) = 0 := by decide +kernel
theorem aw_pr : PR (strOfNums awNums) [(1, awFields)] 0 0 := by
  refine ⟨awLines.map S, 0, 0, ?_, .inr ⟨rfl, by rw [bytes_S]; exact aw_parse⟩⟩
  unfold Txt.LR
  rw [if_neg (by decide +kernel)]
  refine .inl ⟨rfl, rfl, ?_, fun i hi => aw_E i hi⟩
  unfold Txt.LinesOf
  rw [← aw_lines]
  exact bytes_S awLines
theorem aw_get : GetR awFields [100, 101, 112, 101, 110, 100, 115] [98, 44, 32, 99] true := by
  refine .inr ⟨1, by decide, rfl, by decide +kernel, by decide +kernel, fun j hj => ?_⟩
  have : j = 0 := by omega
  subst this
  decide +kernel
set_option maxRecDepth 100000 in
set_option maxHeartbeats 4000000 in
theorem awake_any (w : World) (hT : Lib.Utf8Tabs 1 2 w) (hm : Txt.MaxLen w) :
    Calls Tryd.prog 14 #[] w fun e w' => e = .returned (.bool true) ∧ Below w.heap.size w w' := by
  have htl := Txt.tabs_lt hT
  have hml := hm.lt
  obtain ⟨W, hW⟩ : ∃ W, w.alloc (.cells ((awNums.map (Value.int .u8)).toArray) 5 (26, 27)) = W := ⟨_, rfl⟩
  have hbW : Below w.heap.size w W := by rw [← hW]; exact (Below.refl _ _).alloc (Nat.le_refl _) _
  have hlW : w.heap.size < W.heap.size := by rw [← hW]; simp
  have hrow : Row W (some ⟨w.heap.size, 0, none⟩) 26 awNums := ⟨rfl, by decide, by unfold Byte; decide, fun _ => ⟨w.heap.size, 0, rfl, hlW, fun j hj => by
    rw [← hW]
    refine (cell_of_row _ _ _ _ _ _ (heap_alloc_last w _)).trans ?_
    rw [Nat.zero_add]
    have : j < awNums.length := hj
    simp [this]⟩⟩
  have cp := parse_any (some ⟨w.heap.size, 0, none⟩) 26 26 awNums W hrow (Txt.tabs_below hT hbW htl) (hm.below hbW hml)
  have CP := Lib.hid cp
  have HBW := Lib.hid hbW
  have HT := Lib.hid hT
  have HTL := Lib.hid htl
  have hW' : w.alloc (.cells #[.int .u8 80, .int .u8 97, .int .u8 99, .int .u8 107, .int .u8 97, .int .u8 103, .int .u8 101, .int .u8 58, .int .u8 32, .int .u8 97, .int .u8 10, .int .u8 68, .int .u8 101, .int .u8 112, .int .u8 101, .int .u8 110, .int .u8 100, .int .u8 115, .int .u8 58, .int .u8 32, .int .u8 98, .int .u8 44, .int .u8 10, .int .u8 9, .int .u8 99, .int .u8 10] 5 (26, 27)) = W := hW
  have kc := fun (w : World) (C : Array Value) (n c : Nat) => Lib.run_convert_bytes_const (P := Tryd.prog) w 22 5 C n c Tryd.underlying22 Tryd.underlying5
  clear hW hrow hbW cp hm hT htl hml hlW
  go_enter Tryd.func14, Tryd.ntmps14
  go_wp2_with fail
  clear kc hW'
  refine CP.out.mono ?_
  rintro e w2 ⟨v, l, er, n, rfl, hpr, hsm, hst, b2⟩
  obtain ⟨rfl, rfl, rfl⟩ := hpr.uniq aw_pr
  obtain ⟨_, a, cap, rfl, _, hread⟩ := hst
  obtain ⟨g, off, rfl, hat⟩ := hread (by decide)
  obtain ⟨x1, fv, x2, x3⟩ := hat 0 (by decide)
  rw [Nat.mul_zero, Nat.add_zero] at x1 x2
  have x3' : Flds w2 fv awFields := x3
  have hl1 : ([((1 : Int), awFields)] : List Sz).length = 1 := rfl
  rw [hl1]
  have x1' : w2.cell? ⟨g, off, none⟩ = some (.int .i64 1) := x1
  obtain ⟨_, fa, fcap, rfl, _, _⟩ := id x3'
  have x2' : w2.cell? ⟨g, off + 1, none⟩ = some (.slice fa 2 fcap) := x2
  have hb3 : Below w2.heap.size w2 (w2.alloc (.cells #[.int .i64 0, .int .i64 0] 26)) :=  (Below.refl _ _).alloc (Nat.le_refl _) _
  have i3 : Blk.Is (w2.alloc (.cells #[.int .i64 0, .int .i64 0] 26)) w2.heap.size 26 #[.int .i64 0, .int .i64 0] :=  Blk.Is.new w2 _ _
  have y1 : (w2.alloc (.cells #[.int .i64 0, .int .i64 0] 26)).cell? ⟨g, off, none⟩ = some (.int .i64 1) := by rw [hb3.cell (Txt.lt_cell x1')]; exact x1'
  have y2 : (w2.alloc (.cells #[.int .i64 0, .int .i64 0] 26)).cell? ⟨g, off + 1, none⟩ = some (.slice fa 2 fcap) := by rw [hb3.cell (Txt.lt_cell x2')]; exact x2'
  have e0 : (w2.alloc (.cells #[.int .i64 0, .int .i64 0] 26)).cell? ⟨w2.heap.size, 0, none⟩ = some (.int .i64 0) := i3.at rfl
  have e1 : (w2.alloc (.cells #[.int .i64 0, .int .i64 0] 26)).cell? ⟨w2.heap.size, 1, none⟩ = some (.int .i64 0) := i3.at rfl
  have hB3 : Below w.heap.size w (w2.alloc (.cells #[.int .i64 0, .int .i64 0] 26)) := HBW.out.trans ((b2.trans (hb3.mono b2.size)).mono HBW.out.size)
  have HB3 := Lib.hid hB3
  have cg := get_any 1 (.slice fa 2 fcap) awFields [100, 101, 112, 101, 110, 100, 115] (w2.alloc (.cells #[.int .i64 0, .int .i64 0] 26)) (x3'.below hb3) (by decide) (by decide +kernel) (Txt.tabs_below HT.out hB3 HTL.out)
  have CG := Lib.hid cg
  clear hl1 x1 x2 x3 x3' x1' x2' hat hread i3 hb3 hpr hsm cg hB3
  go_wp2_with fail
  refine CG.out.mono ?_
  rintro e w4 ⟨t, ok, rfl, hg, b4⟩
  obtain ⟨rfl, rfl⟩ := hg.uniq aw_get
  have hb : (S [98, 44, 32, 99]).toList = [98, 44, 32, 99] := by decide +kernel
  have HB4 := Lib.hid (HB3.out.trans (b4.mono HB3.out.size))
  clear hg b4
  go_wp2_with fail
  go_ret
  exact ⟨rfl, HB4.out⟩
end Stz
end Go.Proofs.YtgolnfgkoolpoaaDoor

/-
The walk of the law StanzaParses.
-/
import Derived.Test.YtgolnfgkoolpoaaDoorStzAwake
import Derived.Test.YtgolnfgkoolpoaaDoorStzRef
import Derived.Test.YtgolnfgkoolpoaaDoorStzSameK
namespace Go.Proofs.YtgolnfgkoolpoaaDoor
open Go.RowKit
set_option linter.unusedSimpArgs false
set_option linter.unusedVariables false
namespace Stz
open Txt (tabs_below tabs_lt MaxLen)
set_option maxRecDepth 100000 in
set_option maxHeartbeats 4000000 in
theorem stanzaParses_walk (a : Option Addr) (len cap : Nat) (zs : List Int) (w : World) (hr : Row w a len zs) (hcap : len ≤ cap) (hT : Lib.Utf8Tabs 1 2 w) (hm : MaxLen w) :
    Calls Tryd.prog 3 #[.slice a len cap] w fun e w' => e = .returned (.bool true) ∧ Below w.heap.size w w' := by
  have hl := tabs_lt hT
  have hml := Lib.hid hm.lt
  have HT := Lib.hid hT
  have HMM := Lib.hid hm
  have HR := Lib.hid hr
  have c1 := parse_any a len cap zs w hr hT hm
  clear hT hm hr
  go_enter Tryd.func3, Tryd.ntmps3
  go_wp2_with fail
  refine c1.mono ?_
  rintro e w1 ⟨v1, l, er, n, rfl, h1, _, t1, b1⟩
  have H1 := Lib.hid h1
  have T1 := Lib.hid t1
  have B1 := Lib.hid b1
  clear h1 t1 b1 c1
  go_wp2_with fail
  have bA : Below w.heap.size w (w1.alloc (.cells #[.int .i64 er, .int .i64 n] 26)) := B1.out.alloc B1.out.size _
  have iA := Blk.Is.new w1 26 #[.int .i64 er, .int .i64 n]
  have T2 := Lib.hid (T1.out.below ((Below.refl _ _).alloc (Nat.le_refl _) (.cells #[.int .i64 er, .int .i64 n] 26)))
  have sA : w1.heap.size < (w1.alloc (.cells #[.int .i64 er, .int .i64 n] 26)).heap.size := by simp
  obtain ⟨W, hW⟩ : ∃ W, w1.alloc (.cells #[.int .i64 er, .int .i64 n] 26) = W := ⟨_, rfl⟩
  rw [hW] at bA iA sA T2 ⊢
  refine (ystanzas_any a len cap zs W (HR.out.below bA) hcap).mono ?_
  rintro e w2 ⟨v2, l', er', n', rfl, h2, _, t2, b2⟩
  obtain ⟨rfl, rfl, rfl⟩ := H1.out.uniq h2
  have T3 := Lib.hid (T2.out.below b2)
  have T4 := Lib.hid t2
  have I2 := Lib.hid (show Blk.Is w2 w1.heap.size 26 #[.int .i64 er, .int .i64 n] from (b2.block _ sA).trans iA)
  have B2 := Lib.hid (bA.trans (b2.mono bA.size))
  have s2 : w1.heap.size < w2.heap.size := Nat.lt_of_lt_of_le sA b2.size
  clear h2 t2 b2 bA iA T2 T1 hW sA H1
  go_wp2_with fail
  have nA : Below w2.heap.size w2 (w2.alloc (.cells #[.int .i64 er, .int .i64 n] 26)) := (Below.refl _ _).alloc (Nat.le_refl _) _
  refine (sameStanzas_yes v1 v2 l l true _ (T3.out.below nA) (T4.out.below nA) (Like.refl l) (fun _ => rfl)).mono ?_
  rintro e w3 ⟨rfl, b3⟩
  have iB := Blk.Is.new w2 26 #[.int .i64 er, .int .i64 n]
  have I3 : Blk.Is w3 w1.heap.size 26 #[.int .i64 er, .int .i64 n] := (b3.block _ (by simp; omega)).trans (I2.out.alloc _)
  have I4 : Blk.Is w3 w2.heap.size 26 #[.int .i64 er, .int .i64 n] := (b3.block _ (by simp)).trans iB
  have B3 := Lib.hid ((B2.out.trans (nA.mono B2.out.size)).trans (b3.mono (Nat.le_trans B2.out.size nA.size)))
  have i0 : w3.cell? ⟨w1.heap.size, 0, none⟩ = some (.int .i64 er) := I3.at rfl
  have i1 : w3.cell? ⟨w1.heap.size, 1, none⟩ = some (.int .i64 n) := I3.at rfl
  have j0 : w3.cell? ⟨w2.heap.size, 0, none⟩ = some (.int .i64 er) := I4.at rfl
  have j1 : w3.cell? ⟨w2.heap.size, 1, none⟩ = some (.int .i64 n) := I4.at rfl
  clear nA b3 iB I3 I4 T3 T4 B2
  go_wp2_with fail
  refine (awake_any w3 (tabs_below HT.out B3.out hl) (HMM.out.below B3.out hml.out)).mono ?_
  rintro e w4 ⟨rfl, b4⟩
  have B4 := Lib.hid (B3.out.trans (b4.mono B3.out.size))
  clear b4 B3
  go_wp2_with fail
  go_ret
  exact ⟨rfl, B4.out⟩
end Stz
end Go.Proofs.YtgolnfgkoolpoaaDoor

/-
WalNeed's and WalNil's walks.
-/
import Derived.Test.YtfccoggdpogekaaWalAwake
namespace Go.Proofs.Ytfccoggdpogekaa
open Go.RowKit
set_option linter.unusedVariables false
namespace Wal

theorem walNeed_walk (n : Int) (w : World) (hw : (Lit.int .i64 n).wf = true) :
    Calls Try.prog 3 #[.int .i64 n] w fun e w' => e = .returned (.bool true) ∧ Below w.heap.size w w' := by
  have hb := bounds_i64 hw
  have hn := need_any n w (by omega)
  have hr := refNeed_any n w (by omega)
  have hnn : (need n == need n) = true := by simp
  obtain ⟨m, hm⟩ : ∃ m, need n = m := ⟨_, rfl⟩
  rw [hm] at hn hr hnn
  have HN := Lib.hid hn
  have HR := Lib.hid hr
  clear hn hr hm hw
  go_enter Try.func3, Try.ntmps3
  go_wp2_with fail
  refine HN.out.mono ?_
  rintro e w' ⟨rfl, rfl⟩
  go_wp2_with fail
  refine HR.out.mono ?_
  rintro e w' ⟨rfl, rfl⟩
  go_wp2_with fail
  refine (awake_any _).mono ?_
  rintro e w' ⟨rfl, b⟩
  go_wp2
  go_ret
  exact ⟨rfl, b⟩

set_option maxRecDepth 100000 in
theorem walNil_walk (v : Value) (a b : Int) (w : World) :
    Calls Try.prog 7 #[v, .int .i64 a, .int .i64 b] w fun e w' => e = .returned (.bool true) ∧ Below w.heap.size w w' := by
  go_enter Try.func7, Try.ntmps7
  go_wp2_with fail
  refine (nilOpen_any _ _ _).mono ?_
  rintro e w' ⟨rfl, rfl⟩
  go_wp2_with fail
  refine (nilAppend_any _ _).mono ?_
  rintro e w' ⟨rfl, rfl⟩
  go_wp2_with fail
  refine (nilLogLen_any _).mono ?_
  rintro e w' ⟨rfl, rfl⟩
  go_wp2_with fail
  refine (nilFree_any _).mono ?_
  rintro e w' ⟨rfl, rfl⟩
  go_wp2_with fail
  refine (nilFormat_any _ _ _).mono ?_
  rintro e w' ⟨rfl, rfl⟩
  go_wp2_with fail
  refine (awake_any _).mono ?_
  rintro e w' ⟨rfl, b⟩
  go_wp2
  go_ret
  exact ⟨rfl, b⟩
end Wal
end Go.Proofs.Ytfccoggdpogekaa

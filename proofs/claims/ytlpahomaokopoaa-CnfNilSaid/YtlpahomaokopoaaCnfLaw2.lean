/-
CnfNil: a set that there isn't. CnfMany: as many clauses as may be, and more.
-/
import Derived.Test.YtlpahomaokopoaaCnfAtM
import Derived.Test.YtlpahomaokopoaaCnfArgs
namespace Go.Proofs.Ytlpahomaokopoaa
open Go.RowKit
set_option linter.unusedSimpArgs false
set_option linter.unusedVariables false
namespace Cn
theorem most_nil (cv : Value) (w : World) (ca : Option Addr) (cn cc : Nat) (hcv : cv = .slice ca cn cc) : Calls Try.prog 17 #[.pointer none, cv] w fun e w' => e = .returned (.bool false) ∧ Below w.heap.size w w' := by
  have ct := takes_nil cv w ca cn cc hcv
  subst hcv
  go_enter Try.func17, Try.ntmps17
  go_wp2_with fail
  refine ct.mono ?_
  rintro e w' ⟨rfl, k1⟩
  have K1 := Lib.hid k1
  clear k1 ct
  go_wp2_with fail
  go_ret
  exact ⟨rfl, K1.out⟩
set_option maxRecDepth 100000 in
set_option maxHeartbeats 8000000 in
theorem nil_walk (v mv : Value) (c : List Int) (m : List Bool) (w : World) (h : LitV w v c) (hm : BoolV w mv m) :
    Calls Try.prog 7 #[v, mv] w fun e w' => e = .returned (.bool true) ∧ Below w.heap.size w w' := by
  obtain ⟨a, cap, rfl⟩ := h.shape
  obtain ⟨ma, mcap, rfl⟩ := hm.shape
  obtain ⟨N, hN⟩ : ∃ N, c.length = N := ⟨_, rfl⟩
  obtain ⟨M, hM⟩ : ∃ M, m.length = M := ⟨_, rfl⟩
  rw [hN]
  rw [hM] at hm ⊢
  have HM := Lib.hid hm
  have cv := vars_nil w
  have cl := len_nil w
  have ca := add_nil (.slice a N cap) w a N cap rfl
  clear hN h hm hM
  go_enter Try.func7, Try.ntmps7
  go_wp2_with fail
  refine cv.mono ?_
  rintro e w' ⟨rfl, rfl⟩
  go_wp2_with fail
  refine cl.mono ?_
  rintro e w' ⟨rfl, rfl⟩
  go_wp2_with fail
  refine ca.mono ?_
  rintro e w1 ⟨rfl, k1⟩
  have K1 := Lib.hid k1
  have ct := at_nil w1
  clear k1 ca cv cl
  go_wp2_with fail
  refine ct.mono ?_
  rintro e w1 ⟨rfl, rfl⟩
  have cm := most_nil (.slice a N cap) w1 a N cap rfl
  clear ct
  go_wp2_with fail
  refine cm.mono ?_
  rintro e w2 ⟨rfl, k2⟩
  have K2 := Lib.hid (K1.out.trans (k2.mono K1.out.size))
  have ch := holds_nil _ m w2 (HM.out.below K2.out)
  clear k2 cm
  go_wp2_with fail
  refine ch.mono ?_
  rintro e w3 ⟨rfl, k3⟩
  have K3 := Lib.hid (K2.out.trans (k3.mono K2.out.size))
  have cc := copy_nil w3
  clear k3 ch
  go_wp2_with fail
  refine cc.mono ?_
  rintro e w3 ⟨rfl, rfl⟩
  have ca := awake_any w3
  clear cc
  go_wp2_with fail
  refine ca.mono ?_
  rintro e w4 ⟨rfl, k4⟩
  have K4 := Lib.hid (K3.out.trans (k4.mono K3.out.size))
  clear ca k4
  go_wp2_with fail
  go_ret
  exact ⟨rfl, K4.out⟩
/-- The clauses that CnfMany adds. -/
def manyL (k : Nat) : List (List Int) := (List.range (min k 5000)).map fun i => [((i % 120 + 1 : Nat) : Int)]
theorem manyL_len (k : Nat) : (manyL k).length = min k 5000 := by simp [manyL]
theorem manyL_take (k : Nat) : takes 120 (manyL k) [((k % 120 + 1 : Nat) : Int)] = decide (k < 5000) := by
  unfold takes
  rw [manyL_len]
  have h1 : mays 120 [((k % 120 + 1 : Nat) : Int)] = true := by
    rw [mays_iff]
    intro x hx
    have : x = ((k % 120 + 1 : Nat) : Int) := by simpa using hx
    subst this
    have := Nat.mod_lt k (show 0 < 120 by omega)
    constructor <;> omega
  rw [h1, Bool.and_true]
  by_cases h : k < 5000
  · simp [h]; omega
  · simp [h]; omega
theorem manyL_add (k : Nat) : adds 120 (manyL k) [((k % 120 + 1 : Nat) : Int)] = manyL (k + 1) := by
  unfold adds
  rw [manyL_take]
  by_cases h : k < 5000
  · rw [if_pos (by simp [h])]
    have hb : bad [((k % 120 + 1 : Nat) : Int)] = false := by
      rw [bad_no]
      intro x hx hn
      have h1 : x = ((k % 120 + 1 : Nat) : Int) := by simpa using hx
      have h2 : -x = ((k % 120 + 1 : Nat) : Int) := by simpa using hn
      omega
    unfold addL
    rw [if_neg (by rw [hb]; decide)]
    unfold manyL
    rw [show min (k + 1) 5000 = k + 1 by omega, show min k 5000 = k by omega, List.range_succ, List.map_append]
    rfl
  · rw [if_neg (by simp [h])]
    unfold manyL
    rw [show min (k + 1) 5000 = 5000 by omega, show min k 5000 = 5000 by omega]
end Cn
end Go.Proofs.Ytlpahomaokopoaa

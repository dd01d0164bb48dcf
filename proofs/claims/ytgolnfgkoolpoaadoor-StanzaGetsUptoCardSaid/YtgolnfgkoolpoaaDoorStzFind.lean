/-
find: the place of the first field of a name.
-/
import Derived.Test.YtgolnfgkoolpoaaDoorStzOps
namespace Go.Proofs.YtgolnfgkoolpoaaDoor
open Go.RowKit
set_option linter.unusedSimpArgs false
set_option linter.unusedVariables false
namespace Stz
/-- The place of the first field of that name; -1. -/
def Found (fs : List Fld) (nm : Bs) (r : Int) : Prop :=
  (r = -1 ∧ ∀ i, i < fs.length → sameB (fs.getD i ([], [])).1 nm = false) ∨ ∃ i : Nat, i < fs.length ∧ r = i ∧ sameB (fs.getD i ([], [])).1 nm = true ∧ ∀ j, j < i → sameB (fs.getD j ([], [])).1 nm = false
theorem sameS_S (a c : Bs) : sameS (S a) (S c) = sameB a c := by unfold sameS; rw [S_data, S_data]
set_option maxRecDepth 100000 in
set_option maxHeartbeats 1000000 in
theorem findFn_any (nm : Bs) (lv : Value) (k : Nat) (t : Bs) (w : World) (hn : nm.length ≤ 9223372036854775807) (hc : w.cell? ⟨k, 0, none⟩ = some (.string (S t))) :
    Calls Tryd.prog 49 #[.agg #[.string (S nm), lv], .pointer (some ⟨k, 0, none⟩)] w fun e w' => e = .returned (.bool (sameB nm t)) ∧ Below w.heap.size w w' := by
  have hk := Txt.lt_cell hc
  have cs := fun w => same_any (S nm) (S t) w (by rw [S_size]; exact hn)
  simp only [sameS_S] at cs
  have CS := Lib.hid cs
  clear cs
  generalize sameB nm t = R at *
  have hb : Below w.heap.size w (w.alloc (.cells #[.string (S nm), lv] 42)) := (Below.refl _ _).alloc (Nat.le_refl _) _
  have HB := Lib.hid hb
  clear hb
  go_enter Tryd.func49, Tryd.ntmps49
  go_wp2_with fail
  refine (CS.out _).mono ?_
  rintro e w2 ⟨rfl, n, rfl⟩
  go_wp2_with fail
  go_ret
  exact ⟨rfl, HB.out.trans ((Txt.drewN_below _ n).mono HB.out.size)⟩
set_option maxRecDepth 100000 in
set_option maxHeartbeats 2000000 in
theorem find_any (v : Value) (fs : List Fld) (nm : Bs) (w : World) (hF : Flds w v fs) (hn : ∀ f ∈ fs, f.1.length ≤ 9223372036854775807) :
    Calls Tryd.prog 34 #[v, .string (S nm)] w fun e w' => ∃ r, e = .returned (.int .i64 r) ∧ Found fs nm r ∧ Below w.heap.size w w' := by
  obtain ⟨h0, a, cap, rfl, hcap, hread⟩ := id hF
  have HF := Lib.hid hF
  have HN := Lib.hid hn
  have HR := Lib.hid hread
  clear hF hn hread
  obtain ⟨N, hN⟩ : ∃ N, fs.length = N := ⟨_, rfl⟩
  have HNN := Lib.hid hN
  rw [hN] at h0 hcap
  rw [hN]
  clear hN
  have hb0 : Below w.heap.size w (w.alloc (.cells #[.string (S nm)] 9)) := (Below.refl _ _).alloc (Nat.le_refl _) _
  have HB0 := Lib.hid hb0
  clear hb0
  go_enter Tryd.func34, Tryd.ntmps34
  go_wp2_with go_in
  obtain ⟨W0, hW0⟩ : ∃ W0, w.alloc (.cells #[.string (S nm)] 9) = W0 := ⟨_, rfl⟩
  have hbox : W0.cell? ⟨w.heap.size, 0, none⟩ = some (.string (S nm)) := by rw [← hW0]; exact (Blk.Is.new w 9 #[.string (S nm)]).at rfl
  have hwz : W0.heap.size = w.heap.size + 1 := by rw [← hW0]; simp
  rw [hW0] at HB0 ⊢
  obtain ⟨z, hz⟩ : ∃ z, w.heap.size = z := ⟨_, rfl⟩
  have HZ := Lib.hid hz
  have HWZ := Lib.hid hwz
  rw [hz] at hbox HB0 ⊢
  clear hz hW0 hwz
  have HBOX := Lib.hid hbox
  clear hbox
  go_loopw [8] (fun i u => ∃ k : Nat, k ≤ N ∧ i = .int .i64 k ∧ Hid (∀ j, j < k → sameB (fs.getD j ([], [])).1 nm = false) ∧ Hid (Below W0.heap.size W0 u)) (fun i _ => N - (intOf i).toNat)
  case atStart => exact ⟨0, by omega, rfl, (fun j hj => absurd hj (by omega)), Below.refl _ _⟩
  case round =>
    obtain ⟨k, hk, rfl, HNO, HBU⟩ := hrel
    have hbox : wr.cell? ⟨z, 0, none⟩ = some (.string (S nm)) := by
      rw [HBU.out.cell (p := ⟨z, 0, none⟩) (by rw [HWZ.out, HZ.out]; show z < z + 1; omega)]; exact HBOX.out
    have hbw : Below w.heap.size w wr := by
      have h1 := HB0.out
      rw [← HZ.out] at h1
      exact h1.trans (HBU.out.mono h1.size)
    by_cases hlt : k < N
    · obtain ⟨g, off, rfl, hat⟩ := HR.out (by rw [HNN.out]; omega)
      obtain ⟨f1, u, f2, _⟩ := hat k (by rw [HNN.out]; exact hlt)
      have hfm : (fs.getD k ([], [])) ∈ fs := by
        have : k < fs.length := by rw [HNN.out]; exact hlt
        simp [List.getD, List.getElem?_eq_getElem this]
      have hfl := HN.out _ hfm
      rw [← hbw.cell (Txt.lt_cell f1)] at f1
      rw [← hbw.cell (Txt.lt_cell f2)] at f2
      have k0 : (0 : Int) ≤ k := by omega
      have k1 : (k : Int) < N := by omega
      rw [Nat.mul_comm 2 k] at f1 f2
      obtain ⟨X, hX⟩ : ∃ X, (fs.getD k ([], [])).1 = X := ⟨_, rfl⟩
      rw [hX] at f1 hfl
      have HX := Lib.hid hX
      have HBW := Lib.hid hbw
      clear hat hfm hX hbw
      have cf := findFn_any X u z nm wr hfl hbox
      clear hbox
      cases hm : sameB X nm
      · rw [hm] at cf
        have HM := Lib.hid hm
        clear hm
        go_wp2_with fail
        refine cf.mono ?_
        rintro e w2 ⟨rfl, b2⟩
        have HB2 := Lib.hid (HBU.out.trans (b2.mono HBU.out.size))
        clear b2
        go_wp2_with fail
        refine ⟨⟨k + 1, by omega, by go_num, fun j hj => ?_, HB2⟩, by simp [intOf]; omega⟩
        by_cases e : j = k
        · subst e; rw [HX.out]; exact HM.out
        · exact HNO.out j (by omega)
      · rw [hm] at cf
        have HM := Lib.hid hm
        clear hm
        go_wp2_with fail
        refine cf.mono ?_
        rintro e w2 ⟨rfl, b2⟩
        have HB2 := Lib.hid (HBW.out.trans (b2.mono HBW.out.size))
        clear b2
        go_wp2_with fail
        go_ret
        exact ⟨_, rfl, .inr ⟨k, by rw [HNN.out]; exact hlt, rfl, by rw [HX.out]; exact HM.out, HNO.out⟩, HB2.out⟩
    · obtain rfl : k = N := by omega
      have HBW := Lib.hid hbw
      clear hbox hbw
      go_wp2_with fail
      go_ret
      exact ⟨_, rfl, .inl ⟨rfl, by rw [HNN.out]; exact HNO.out⟩, HBW.out⟩
end Stz
end Go.Proofs.YtgolnfgkoolpoaaDoor

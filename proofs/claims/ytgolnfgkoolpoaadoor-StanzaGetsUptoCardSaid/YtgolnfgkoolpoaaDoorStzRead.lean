/-
The reader: a further line of a field.
-/
import Derived.Test.YtgolnfgkoolpoaaDoorStzFind
import Derived.Test.YtgolnfgkoolpoaaDoorRegT
import Derived.IntWalk
namespace Go.Proofs.YtgolnfgkoolpoaaDoor
open Go.RowKit
set_option linter.unusedSimpArgs false
set_option linter.unusedVariables false
namespace Reg
theorem From.done {P : Program} {Q : Exit → Act → World → Prop} {a : Act} {w : World} {l : List Oper} {n : Nat} (hn : decide (l.length ≤ n ∧ Region.ready .any l.toArray (upTo l.length n) = []) = true) (h : Q .normal a w) : From P l Q n a w := by
  obtain ⟨hn, hr⟩ := of_decide_eq_true hn
  unfold From
  rw [show l.length - n = 0 by omega]
  exact ⟨hr, h⟩
end Reg
namespace Stz
open Txt (b b_eq b_lt W wht trimL trimRight trimLeft)
/-- A reader, at block p. -/
def RdAt (w : World) (p B : Nat) (z : Zip) : Prop := ∃ sv, Blk.Is w p 55 #[sv, .bool z.cur.isSome] ∧ MemZ w B sv z
set_option maxRecDepth 100000 in
set_option maxHeartbeats 4000000 in
theorem goOn_no (p B : Nat) (done : List Sz) (s : ByteArray) (w : World) (h : RdAt w p B ⟨done, none⟩) :
    Calls Tryd.prog 43 #[.pointer (some ⟨p, 0, none⟩), .string s] w fun e w' => e = .returned (.int .i64 3) ∧ w' = w := by
  obtain ⟨sv, hi, _⟩ := h
  have c1 : w.cell? ⟨p, 1, none⟩ = some (.bool false) := hi.at rfl
  clear hi
  go_enter Tryd.func43, Tryd.ntmps43
  go_wp2_with fail
  go_ret
  exact ⟨rfl, rfl⟩
set_option maxRecDepth 100000 in
set_option maxHeartbeats 4000000 in
theorem goOn_any (p B : Nat) (done : List Sz) (n : Int) (fs : List Fld) (nm : Bs) (ls : List Bs) (s : ByteArray) (w : World) (h : RdAt w p B ⟨done, some (n, fs, (nm, ls))⟩) (hs : s.size ≤ 9223372036854775807) (hl : ls.length ≤ 70000) (hfl : fs.length ≤ 70000) (hdl : done.length ≤ 70000) :
    Calls Tryd.prog 43 #[.pointer (some ⟨p, 0, none⟩), .string s] w fun e w' => e = .returned (.int .i64 0) ∧ RdAt w' p B ⟨done, some (n, fs, (nm, ls ++ [further s.data.toList]))⟩ ∧ Below B w w' := by
  obtain ⟨sv, hi, hm⟩ := h
  have hm' : Mem w B sv done (some (n, fs, some (nm, ls))) := hm
  obtain ⟨g, cap, gf, capf, C, u, rfl, d1, d2, hC1, hC2, hown, hput⟩ := hm'.goOn
  have c0 : w.cell? ⟨p, 0, none⟩ = some (.slice (some ⟨g, 0, none⟩) (done.length + 1) cap) := hi.at rfl
  have c1 : w.cell? ⟨p, 1, none⟩ = some (.bool true) := hi.at rfl
  have H := Lib.hid hm'
  have HI := Lib.hid hi
  have HOWN := Lib.hid hown
  have HPUT := Lib.hid hput
  obtain ⟨D, hD⟩ : ∃ D, done.length = D := ⟨_, rfl⟩
  obtain ⟨F, hF⟩ : ∃ F, fs.length = F := ⟨_, rfl⟩
  have HD := Lib.hid hD
  have HF := Lib.hid hF
  rw [hD] at d1 c0 hdl
  rw [hF] at d1 d2 hfl
  rw [Nat.mul_comm 2 D] at d1
  rw [Nat.mul_comm 2 F] at d2
  have k4 : (D : Int) < (D : Int) + 1 := by omega
  have k5 : (F : Int) < (F : Int) + 1 := by omega
  have k0 : (0 : Int) ≤ D := by omega
  have k1 : (0 : Int) ≤ F := by omega
  have k2 : (D : Int) ≤ 70000 := by omega
  have k3 : (F : Int) ≤ 70000 := by omega
  have hw0 : IntKind.i64.wrap (D : Int) = (D : Int) := IntWalk.i64_in _ (by omega)
  have hw1 : IntKind.i64.wrap (F : Int) = (F : Int) := IntWalk.i64_in _ (by omega)
  have cf := further_any s
  have CF := Lib.hid cf
  clear hm hm' hown hput hD hF cf hi
  go_enter Tryd.func43, Tryd.ntmps43
  go_wp2_with fail
  go_quiet (fail)
  go_wp2_with fail
  obtain ⟨v1, hv1⟩ : ∃ v1, w.drewN nq = v1 := ⟨_, rfl⟩
  have hb1 : Below w.heap.size w v1 := by rw [← hv1]; exact Txt.drewN_below w nq
  have d2v : ∀ x, Below w.heap.size w x → x.cell? ⟨gf, F * 2 + 1, none⟩ = some u := fun x hx => by rw [hx.cell (Txt.lt_cell d2)]; exact d2
  have D2 := Lib.hid d2v
  clear d2v
  rw [hv1]
  have HB1 := Lib.hid hb1
  clear hv1 hb1 c0 c1 d1 d2
  have hS : Below w.heap.size w v1.drew := HB1.out.drew
  have HS := Lib.hid hS
  clear hS
  refine Reg.wp_region_T 8 (fun x => Below w.heap.size w x) (by kernel_rfl) ?_
  change Reg.anyT _ _ _ _ 8 _ 12 _ _ _
  refine Reg.T_pure 0 (.pointer (some ⟨gf, F * 2, none⟩)) rfl (by kernel_rfl) (fun _ _ _ h => h) (.inl ⟨rfl, fun w _ => rfl⟩) HS.out ?_
  simp only [Act.put, List.getElem_toArray, List.getElem_cons_zero, List.getElem_cons_succ, List.setIfInBounds_toArray, List.set_cons_zero, List.set_cons_succ]
  refine Reg.T_pure 1 (.pointer (some ⟨gf, F * 2, none⟩)) rfl (by kernel_rfl) (fun _ _ _ h => h) (.inl ⟨rfl, fun w _ => rfl⟩) HS.out ?_
  simp only [Act.put, List.getElem_toArray, List.getElem_cons_zero, List.getElem_cons_succ, List.setIfInBounds_toArray, List.set_cons_zero, List.set_cons_succ]
  refine Reg.T_pure 2 (.pointer (some ⟨gf, F * 2, none⟩)) rfl (by kernel_rfl) (fun _ _ _ h => h) (.inl ⟨rfl, fun w _ => rfl⟩) HS.out ?_
  simp only [Act.put, List.getElem_toArray, List.getElem_cons_zero, List.getElem_cons_succ, List.setIfInBounds_toArray, List.set_cons_zero, List.set_cons_succ]
  refine Reg.T_pure 3 (.pointer (some ⟨gf, F * 2 + 1, none⟩)) rfl (by kernel_rfl) (fun _ _ _ h => h) (.inl ⟨rfl, fun w _ => rfl⟩) HS.out ?_
  simp only [Act.put, List.getElem_toArray, List.getElem_cons_zero, List.getElem_cons_succ, List.setIfInBounds_toArray, List.set_cons_zero, List.set_cons_succ]
  refine Reg.T_load 4 u rfl (by kernel_rfl) (fun _ _ _ h => h) (Reg.yields_load_one rfl 40 _ rfl gf (F * 2 + 1) rfl u (fun x hx => D2.out x hx) Tryd.isAgg40) HS.out ?_
  simp only [Act.put, List.getElem_toArray, List.getElem_cons_zero, List.getElem_cons_succ, List.setIfInBounds_toArray, List.set_cons_zero, List.set_cons_succ]
  refine Reg.T_pure 5 (.string s) rfl (by kernel_rfl) (fun _ _ _ h => h) (.inl ⟨rfl, fun w _ => rfl⟩) HS.out ?_
  simp only [Act.put, List.getElem_toArray, List.getElem_cons_zero, List.getElem_cons_succ, List.setIfInBounds_toArray, List.set_cons_zero, List.set_cons_succ]
  refine Reg.T_only 6 rfl (by kernel_rfl) ?_
  go_wp2_with fail
  refine (CF.out v1.drew hs).mono ?_
  rintro e w2 ⟨t, rfl, ht, b2⟩
  have hb2 := HS.out.trans (b2.mono HS.out.size)
  have HB2 := Lib.hid hb2
  have HT := Lib.hid (S_of ht)
  clear ht b2 hb2
  go_wp2_with fail
  change _ ∧ _
  refine ⟨fun _ => HB2.out, ?_⟩
  refine Reg.T_only 7 rfl (by kernel_rfl) ?_
  go_wp2_with fail
  change _ ∧ _
  refine ⟨fun _ => HB2.out.alloc HB2.out.size _, ?_⟩
  refine Reg.T_only 8 rfl (by kernel_rfl) ?_
  obtain ⟨w3, hw3⟩ : ∃ w3, w2.alloc (.cells #[.string t] 9) = w3 := ⟨_, rfl⟩
  have hcell : w3.cell? ⟨w2.heap.size, 0, none⟩ = some (.string t) := by rw [← hw3]; exact (Blk.Is.new w2 9 #[.string t]).at rfl
  have hb3 : Below w.heap.size w w3 := by rw [← hw3]; exact HB2.out.alloc HB2.out.size _
  have ho3 := Own.owns_below HOWN.out hb3
  rw [hw3]
  have HB3 := Lib.hid hb3
  have HO3 := Lib.hid ho3
  have HCELL := Lib.hid hcell
  clear hw3 hcell hb3 ho3
  refine Txt.append_text rfl (.tmp 34) (.tmp 37) rfl C u (ls.map S) rfl (by rw [List.length_map]; exact HO3.out) ⟨w2.heap.size, 0, none⟩ 1 rfl t HCELL.out (by rw [List.length_map]; omega) (by have := HB3.out.size; omega) ?_
  intro v' w4 h4 h5
  obtain ⟨a4, c4, rfl, _⟩ := own_shape h4
  have hg := HPUT.out w3 HB3.out w4 h5
  obtain ⟨⟨e1, e2⟩, e3⟩ := hg
  have e4 := e3 (further s.data.toList) _ (by
    have := h4
    rw [List.length_append, List.length_map, List.map_append, HT.out] at this
    exact this)
  rw [HF.out, Nat.mul_comm 2 F] at e1 e2 e4
  have E4 := Lib.hid e4
  clear h4 h5 e3 e4
  change _ ∧ _
  refine ⟨fun hh => absurd hh (by decide), ?_⟩
  refine Reg.T_only 9 rfl (by kernel_rfl) ?_
  go_wp2_with fail
  change _ ∧ _
  refine ⟨fun hh => absurd hh (by decide), ?_⟩
  refine Reg.T_only 10 rfl (by kernel_rfl) ?_
  go_wp2_with fail
  change _ ∧ _
  refine ⟨fun hh => absurd hh (by decide), ?_⟩
  refine Reg.T_only 11 rfl (by kernel_rfl) ?_
  go_wp2_with fail
  change _ ∧ _
  refine ⟨fun hh => absurd hh (by decide), ?_⟩
  refine Reg.T_done (by kernel_rfl) ?_
  clear e1 e2
  go_wp2_with fail
  go_ret
  obtain ⟨m1, m2⟩ := E4.out
  refine ⟨rfl, ⟨_, m2.kinds p 55 _ (by decide) (by decide) (by decide) ((Blk.Chg.ofBelow' (S := fun _ => False) HB3.out).is HI.out (by simp)), m1⟩, ?_⟩
  have hBw : B ≤ w.heap.size := by omega
  exact (HB3.out.mono hBw).trans m2.below
end Stz
end Go.Proofs.YtgolnfgkoolpoaaDoor

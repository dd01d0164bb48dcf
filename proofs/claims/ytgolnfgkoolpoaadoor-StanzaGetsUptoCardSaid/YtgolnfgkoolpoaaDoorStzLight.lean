/-
Not too many: light.
-/
import Derived.Test.YtgolnfgkoolpoaaDoorStzArgs
import Derived.Test.YtgolnfgkoolpoaaDoorStzAwake
namespace Go.Proofs.YtgolnfgkoolpoaaDoor
open Go.RowKit
set_option linter.unusedSimpArgs false
set_option linter.unusedVariables false
namespace Stz
def lightS (fs : List Fld) : Bool := decide (fs.length ≤ 60) && fs.all fun f => decide (f.2.length ≤ 60)
def lightB (l : List Sz) : Bool := decide (l.length ≤ 30) && l.all fun s => lightS s.2
theorem light_many {l : List Sz} (h : 30 < l.length) : lightB l = false := by
  unfold lightB
  rw [decide_eq_false (by omega)]
  rfl
theorem light_at {l : List Sz} {i : Nat} (hi : i < l.length) (h : lightS (l.getD i (0, [])).2 = false) : lightB l = false := by
  unfold lightB
  rw [Bool.and_eq_false_iff]
  right
  rw [List.all_eq_false]
  exact ⟨l[i], List.getElem_mem hi, by rw [show l[i] = l.getD i (0, []) by simp [List.getD, List.getElem?_eq_getElem hi], h]; simp⟩
theorem light_yes {l : List Sz} (hl : l.length ≤ 30) (h : ∀ i, i < l.length → lightS (l.getD i (0, [])).2 = true) : lightB l = true := by
  unfold lightB
  rw [decide_eq_true hl, Bool.true_and, List.all_eq_true]
  intro s hs
  obtain ⟨i, hi, rfl⟩ := List.mem_iff_getElem.1 hs
  have := h i hi
  simpa [List.getD, List.getElem?_eq_getElem hi] using this
theorem lights_many {fs : List Fld} (h : 60 < fs.length) : lightS fs = false := by
  unfold lightS
  rw [decide_eq_false (by omega)]
  rfl
theorem lights_at {fs : List Fld} {i : Nat} (hi : i < fs.length) (h : 60 < (fs.getD i ([], [])).2.length) : lightS fs = false := by
  unfold lightS
  rw [Bool.and_eq_false_iff]
  right
  rw [List.all_eq_false]
  refine ⟨fs[i], List.getElem_mem hi, ?_⟩
  rw [show fs[i] = fs.getD i ([], []) by simp [List.getD, List.getElem?_eq_getElem hi], decide_eq_false (by omega)]
  simp
theorem lights_yes {fs : List Fld} (hl : fs.length ≤ 60) (h : ∀ i, i < fs.length → (fs.getD i ([], [])).2.length ≤ 60) : lightS fs = true := by
  unfold lightS
  rw [decide_eq_true hl, Bool.true_and, List.all_eq_true]
  intro s hs
  obtain ⟨i, hi, rfl⟩ := List.mem_iff_getElem.1 hs
  have := h i hi
  simpa [List.getD, List.getElem?_eq_getElem hi] using this
theorem light_cnt {l : List Sz} (h : lightB l = true) : l.length ≤ 30 ∧ ∀ s ∈ l, s.2.length ≤ 60 ∧ ∀ f ∈ s.2, f.2.length ≤ 60 := by
  simp only [lightB, lightS, Bool.and_eq_true, decide_eq_true_eq, List.all_eq_true] at h
  exact h
set_option maxRecDepth 100000 in
set_option maxHeartbeats 4000000 in
theorem light_any (v : Value) (l : List Sz) (w : World) (h : Stzs w v l) :
    Calls Tryd.prog 15 #[v] w fun e w' => e = .returned (.bool (lightB l)) ∧ Below w.heap.size w w' := by
  obtain ⟨hmx, a, cap, rfl, hcap, hread⟩ := id h
  have HR := Lib.hid hread
  obtain ⟨N, hN⟩ : ∃ N, l.length = N := ⟨_, rfl⟩
  have HN := Lib.hid hN
  rw [hN] at hcap hmx ⊢
  obtain ⟨G, hG⟩ : ∃ G, lightB l = G := ⟨_, rfl⟩
  have HG := Lib.hid hG
  rw [hG]
  clear hread hN hG h
  go_enter Tryd.func15, Tryd.ntmps15
  go_wp2_with fail
  go_loopw [9] (fun i u => ∃ k : Nat, k ≤ N ∧ k ≤ 30 ∧ i = .int .i64 k ∧ Hid (∀ j, j < k → lightS (l.getD j (0, [])).2 = true) ∧ Hid (Below w.heap.size w u)) (fun i _ => N - (intOf i).toNat)
  case atStart => exact ⟨0, by omega, by omega, rfl, Lib.hid (fun j hj => absurd hj (by omega)), Lib.hid (Below.refl _ _)⟩
  case round =>
    obtain ⟨k, hk, hk30, rfl, HP, HB⟩ := hrel
    by_cases hlt : k < N
    · have hkl : k < l.length := by rw [HN.out]; exact hlt
      obtain ⟨g, off, rfl, hat⟩ := HR.out (by omega)
      obtain ⟨x0, u, x1, hF⟩ := hat k hkl
      obtain ⟨s, hs⟩ : ∃ s, l.getD k (0, []) = s := ⟨_, rfl⟩
      rw [hs] at x0 hF
      rw [← HB.out.cell (Txt.lt_cell x0)] at x0
      rw [← HB.out.cell (Txt.lt_cell x1)] at x1
      have hF1 := hF.below HB.out
      obtain ⟨line, fs⟩ := s
      obtain ⟨F, hFn⟩ : ∃ F, fs.length = F := ⟨_, rfl⟩
      obtain ⟨hF60, fa, fc, rfl, hfc, hfr⟩ := id hF1
      have x0' : wr.cell? ⟨g, off + k * 2, none⟩ = some (.int .i64 line) := by rw [Nat.mul_comm]; exact x0
      have x1' : wr.cell? ⟨g, off + k * 2 + 1, none⟩ = some (.slice fa F fc) := by rw [Nat.mul_comm, ← hFn]; exact x1
      have k0 : (0 : Int) ≤ k := by omega
      have k1 : (k : Int) < N := by omega
      obtain ⟨W, hW⟩ : ∃ W, wr.alloc (.cells #[.int .i64 line, .slice fa F fc] 37) = W := ⟨_, rfl⟩
      have hbW : Below wr.heap.size wr W := by rw [← hW]; exact (Below.refl _ _).alloc (Nat.le_refl _) _
      have hiW : Blk.Is W wr.heap.size 37 #[.int .i64 line, .slice fa F fc] := by rw [← hW]; exact Blk.Is.new wr _ _
      have z1 : W.cell? ⟨wr.heap.size, 1, none⟩ = some (.slice fa F fc) := hiW.at rfl
      have hF2 : Flds W (.slice fa F fc) fs := by rw [← hFn]; exact hF1.below hbW
      have HFL := Lib.hid hF2
      have HBW := Lib.hid (HB.out.trans (hbW.mono HB.out.size))
      have HSL := Lib.hid hs
      have HKL := Lib.hid hkl
      rw [hFn] at hF60 hfc
      have HFN := Lib.hid hFn
      clear hat hF hF1 x0 x1 hs hkl hbW hiW hF2 hFn HB hfr
      by_cases h30 : 30 ≤ k
      · have h30' : (30 : Int) ≤ k := by omega
        go_wp2_with fail
        go_ret
        refine ⟨?_, HBW.out⟩
        rw [← HG.out, light_many (by rw [HN.out]; omega)]
        rfl
      · have h30' : ¬ (30 : Int) ≤ k := by omega
        by_cases h60 : 60 < F
        · have h60' : (60 : Int) < F := by omega
          go_wp2_with fail
          go_ret
          refine ⟨?_, HBW.out⟩
          rw [← HG.out, light_at HKL.out (by rw [HSL.out]; exact lights_many (by show 60 < fs.length; rw [HFN.out]; exact h60))]
          rfl
        · have h60' : ¬ (60 : Int) < F := by omega
          go_wp2_with fail
          clear hW z1 x0' x1' k0 k1
          go_loopw [25] (fun i u => ∃ q : Nat, q ≤ F ∧ i = .int .i64 q ∧ Hid (∀ j, j < q → (fs.getD j ([], [])).2.length ≤ 60) ∧ Hid (Below W.heap.size W u)) (fun i _ => F - (intOf i).toNat)
          case atStart => exact ⟨0, by omega, rfl, Lib.hid (fun j hj => absurd hj (by omega)), Lib.hid (Below.refl _ _)⟩
          case round =>
            obtain ⟨q, hq, rfl, HQ, HBQ⟩ := hrel
            by_cases hql : q < F
            · have hqf : q < fs.length := by rw [HFN.out]; exact hql
              obtain ⟨_, fa', fc', ef, _, hfread⟩ := HFL.out
              simp only [Value.slice.injEq] at ef
              obtain ⟨rfl, eF, rfl⟩ := ef
              clear eF
              obtain ⟨fg, foff, rfl, hfat⟩ := hfread (by omega)
              obtain ⟨y0, u, y1, hT⟩ := hfat q hqf
              obtain ⟨f, hf⟩ : ∃ f, fs.getD q ([], []) = f := ⟨_, rfl⟩
              rw [hf] at y0 hT
              rw [← HBQ.out.cell (Txt.lt_cell y0)] at y0
              rw [← HBQ.out.cell (Txt.lt_cell y1)] at y1
              obtain ⟨nm, ls⟩ := f
              obtain ⟨M, hM⟩ : ∃ M, ls.length = M := ⟨_, rfl⟩
              obtain ⟨_, la, lc, rfl, _, _⟩ := id hT
              have y0' : wr.cell? ⟨fg, foff + q * 2, none⟩ = some (.string (S nm)) := by rw [Nat.mul_comm]; exact y0
              have y1' : wr.cell? ⟨fg, foff + q * 2 + 1, none⟩ = some (.slice la M lc) := by rw [Nat.mul_comm]; rw [List.length_map, hM] at y1; exact y1
              have q0 : (0 : Int) ≤ q := by omega
              have q1 : (q : Int) < F := by omega
              obtain ⟨V, hV⟩ : ∃ V, wr.alloc (.cells #[.string (S nm), .slice la M lc] 42) = V := ⟨_, rfl⟩
              have hbV : Below wr.heap.size wr V := by rw [← hV]; exact (Below.refl _ _).alloc (Nat.le_refl _) _
              have hiV : Blk.Is V wr.heap.size 42 #[.string (S nm), .slice la M lc] := by rw [← hV]; exact Blk.Is.new wr _ _
              have v1 : V.cell? ⟨wr.heap.size, 1, none⟩ = some (.slice la M lc) := hiV.at rfl
              have HBV := Lib.hid (HBQ.out.trans (hbV.mono HBQ.out.size))
              have HFQ := Lib.hid hf
              have HQF := Lib.hid hqf
              have HM := Lib.hid hM
              clear hfat y0 y1 hf hT hM hbV hiV hqf hfread HBQ
              by_cases hm : 60 < M
              · have hm' : (60 : Int) < M := by omega
                go_wp2_with fail
                go_ret
                refine ⟨?_, HBW.out.trans (HBV.out.mono HBW.out.size)⟩
                rw [← HG.out, light_at HKL.out (by rw [HSL.out]; exact lights_at HQF.out (by rw [HFQ.out]; show 60 < ls.length; rw [HM.out]; exact hm))]
                rfl
              · have hm' : ¬ (60 : Int) < M := by omega
                go_wp2_with fail
                refine ⟨⟨q + 1, by omega, by go_num, Lib.hid (fun j hj => ?_), HBV⟩, by simp [intOf]; omega⟩
                rcases Nat.lt_or_ge j q with h | h
                · exact HQ.out j h
                · obtain rfl : j = q := by omega
                  rw [HFQ.out]
                  show ls.length ≤ 60
                  rw [HM.out]
                  omega
            · obtain rfl : q = F := by omega
              go_wp2_with fail
              refine ⟨⟨k + 1, by omega, by omega, by go_num, Lib.hid (fun j hj => ?_), Lib.hid (HBW.out.trans (HBQ.out.mono HBW.out.size))⟩, by simp [intOf]; omega⟩
              rcases Nat.lt_or_ge j k with h | h
              · exact HP.out j h
              · obtain rfl : j = k := by omega
                rw [HSL.out]
                exact lights_yes (by show fs.length ≤ 60; rw [HFN.out]; omega) (fun i hi => HQ.out i (by rw [← HFN.out]; exact hi))
    · obtain rfl : k = N := by omega
      go_wp2_with fail
      go_ret
      refine ⟨?_, HB.out⟩
      rw [← HG.out, light_yes (by rw [HN.out]; exact hk30) (fun i hi => HP.out i (by rw [← HN.out]; exact hi))]
      rfl
end Stz
end Go.Proofs.YtgolnfgkoolpoaaDoor

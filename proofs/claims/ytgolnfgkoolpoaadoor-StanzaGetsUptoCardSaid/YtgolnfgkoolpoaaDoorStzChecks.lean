/-
Why stanzas may not be printed.
-/
import Derived.Test.YtgolnfgkoolpoaaDoorStzCheck
namespace Go.Proofs.YtgolnfgkoolpoaaDoor
open Go.RowKit
set_option linter.unusedSimpArgs false
set_option linter.unusedVariables false
namespace Stz
theorem fields_no : ∀ (fs ahead : List Fld), (∀ i, i < fs.length → fieldErr (ahead ++ fs.take i) (fs.getD i ([], [])) = 0) → fieldsErr ahead fs = 0
  | [], _, _ => rfl
  | f :: r, ahead, h => by
    have h0 := h 0 (by simp)
    simp only [List.take_zero, List.append_nil, List.getD_cons_zero] at h0
    unfold fieldsErr
    rw [if_neg (by rw [h0]; simp)]
    refine fields_no r (ahead ++ [f]) fun i hi => ?_
    have := h (i + 1) (by simp; omega)
    simpa using this
theorem fields_at : ∀ (fs ahead : List Fld) (i : Nat), i < fs.length → (∀ j, j < i → fieldErr (ahead ++ fs.take j) (fs.getD j ([], [])) = 0) → fieldErr (ahead ++ fs.take i) (fs.getD i ([], [])) ≠ 0 → fieldsErr ahead fs = fieldErr (ahead ++ fs.take i) (fs.getD i ([], []))
  | f :: r, ahead, 0, _, _, h => by
    simp only [List.take_zero, List.append_nil, List.getD_cons_zero] at h ⊢
    unfold fieldsErr
    rw [if_pos h]
  | f :: r, ahead, i + 1, hi, hj, h => by
    have h0 := hj 0 (by omega)
    simp only [List.take_zero, List.append_nil, List.getD_cons_zero] at h0
    unfold fieldsErr
    rw [if_neg (by rw [h0]; simp)]
    have e : ahead ++ (f :: r).take (i + 1) = (ahead ++ [f]) ++ r.take i := by simp
    rw [e] at h ⊢
    exact fields_at r (ahead ++ [f]) i (by simpa using hi) (fun j hj' => by have := hj (j + 1) (by omega); simpa using this) h
theorem each_no : ∀ (l : List Sz), (∀ i, i < l.length → stanzaErr (l.getD i (0, [])) = 0) → eachErr l = 0
  | [], _ => rfl
  | s :: r, h => by
    have h0 := h 0 (by simp)
    simp only [List.getD_cons_zero] at h0
    unfold eachErr
    rw [if_neg (by rw [h0]; simp)]
    refine each_no r fun i hi => ?_
    have := h (i + 1) (by simp; omega)
    simpa using this
theorem each_at : ∀ (l : List Sz) (i : Nat), i < l.length → (∀ j, j < i → stanzaErr (l.getD j (0, [])) = 0) → stanzaErr (l.getD i (0, [])) ≠ 0 → eachErr l = stanzaErr (l.getD i (0, []))
  | s :: r, 0, _, _, h => by
    simp only [List.getD_cons_zero] at h ⊢
    unfold eachErr
    rw [if_pos h]
  | s :: r, i + 1, hi, hj, h => by
    have h0 := hj 0 (by omega)
    simp only [List.getD_cons_zero] at h0
    unfold eachErr
    rw [if_neg (by rw [h0]; simp)]
    exact each_at r i (by simpa using hi) (fun j hj' => by have := hj (j + 1) (by omega); simpa using this) (by simpa using h)
theorem listErr_at {l : List Sz} (hl : ¬ 200 < l.length) {i : Nat} (hi : i < l.length) (hj : ∀ j, j < i → stanzaErr (l.getD j (0, [])) = 0) {G : Nat} (h : stanzaErr (l.getD i (0, [])) = G) (hG : G ≠ 0) : listErr l = G := by
  unfold listErr
  rw [if_neg hl, each_at l i hi hj (by rw [h]; exact hG), h]
set_option maxRecDepth 100000 in
set_option maxHeartbeats 4000000 in
theorem check_any (v : Value) (l : List Sz) (w : World) (h : Stzs w v l) (hs : ∀ s ∈ l, ∀ f ∈ s.2, Szd f) (hT : Lib.Utf8Tabs 1 2 w) :
    Calls Tryd.prog 30 #[v] w fun e w' => e = .returned (.int .i64 (listErr l)) ∧ Below w.heap.size w w' := by
  obtain ⟨hmx, a, cap, rfl, hcap, hread⟩ := id h
  have HR := Lib.hid hread
  have HS := Lib.hid hs
  have HTT := Lib.hid hT
  have htl := Lib.hid (Txt.tabs_lt hT)
  obtain ⟨N, hN⟩ : ∃ N, l.length = N := ⟨_, rfl⟩
  have HN := Lib.hid hN
  rw [hN] at hcap hmx ⊢
  obtain ⟨G, hG⟩ : ∃ G, listErr l = G := ⟨_, rfl⟩
  have HG := Lib.hid hG
  rw [hG]
  clear hread hs hT hN hG h
  go_enter Tryd.func30, Tryd.ntmps30
  by_cases hbig : 200 < N
  · have hbig' : (200 : Int) < N := by omega
    go_wp2_with fail
    go_ret
    refine ⟨?_, Below.refl _ _⟩
    rw [← HG.out]
    unfold listErr
    rw [if_pos (by rw [HN.out]; exact hbig)]
    rfl
  · have hbig' : ¬ (200 : Int) < N := by omega
    go_wp2_with fail
    go_loopw [12] (fun i u => ∃ k : Nat, k ≤ N ∧ i = .int .i64 k ∧ Hid (∀ j, j < k → stanzaErr (l.getD j (0, [])) = 0) ∧ Hid (Below w.heap.size w u)) (fun i _ => N - (intOf i).toNat)
    case atStart => exact ⟨0, by omega, rfl, Lib.hid (fun j hj => absurd hj (by omega)), Lib.hid (Below.refl _ _)⟩
    case round =>
      obtain ⟨k, hk, rfl, HP, HB⟩ := hrel
      by_cases hlt : k < N
      · have hkl : k < l.length := by rw [HN.out]; exact hlt
        obtain ⟨g, off, rfl, hat⟩ := HR.out (by omega)
        obtain ⟨x0, u, x1, hF⟩ := hat k hkl
        obtain ⟨s, hs⟩ : ∃ s, l.getD k (0, []) = s := ⟨_, rfl⟩
        have hsm : ∀ f ∈ s.2, Szd f := HS.out s (by rw [← hs]; simp [List.getD, List.getElem?_eq_getElem hkl])
        rw [hs] at x0 hF
        rw [← HB.out.cell (Txt.lt_cell x0)] at x0
        rw [← HB.out.cell (Txt.lt_cell x1)] at x1
        have hF1 := hF.below HB.out
        obtain ⟨line, fs⟩ := s
        obtain ⟨F, hFn⟩ : ∃ F, fs.length = F := ⟨_, rfl⟩
        obtain ⟨hF60, fa, fc, rfl, hfc, _⟩ := id hF1
        have x0' : wr.cell? ⟨g, off + k * 2, none⟩ = some (.int .i64 line) := by rw [Nat.mul_comm]; exact x0
        have x1' : wr.cell? ⟨g, off + k * 2 + 1, none⟩ = some (.slice fa F fc) := by rw [Nat.mul_comm, ← hFn]; exact x1
        have k0 : (0 : Int) ≤ k := by omega
        have k1 : (k : Int) < N := by omega
        obtain ⟨W, hW⟩ : ∃ W, wr.alloc (.cells #[.int .i64 line, .slice fa F fc] 37) = W := ⟨_, rfl⟩
        have hbW : Below wr.heap.size wr W := by rw [← hW]; exact (Below.refl _ _).alloc (Nat.le_refl _) _
        have hiW : Blk.Is W wr.heap.size 37 #[.int .i64 line, .slice fa F fc] := by rw [← hW]; exact Blk.Is.new wr _ _
        have z1 : W.cell? ⟨wr.heap.size, 1, none⟩ = some (.slice fa F fc) := hiW.at rfl
        have HIW := Lib.hid hiW
        have hsW : wr.heap.size < W.heap.size := by rw [← hW]; simp
        have hF2 : Flds W (.slice fa F fc) fs := by rw [← hFn]; exact hF1.below hbW
        have HFL := Lib.hid hF2
        have HBW := Lib.hid (HB.out.trans (hbW.mono HB.out.size))
        have HSL := Lib.hid hs
        have HKL := Lib.hid hkl
        have HSM := Lib.hid hsm
        rw [hFn] at hF60 hfc
        have HFN := Lib.hid hFn
        clear hat hF hF1 x0 x1 hs hkl hsm hbW hiW hF2 hFn HB
        by_cases hz : F = 0
        · have HZ := Lib.hid hz
          have hb0 : ((F : Int) == 0) = true := by subst hz; rfl
          have hz1 : ¬ (40 : Int) < F := by omega
          clear hz
          go_wp2_with fail
          go_ret
          refine ⟨?_, HBW.out⟩
          rw [← HG.out, listErr_at (by rw [HN.out]; exact hbig) HKL.out HP.out (G := 12) ?_ (by decide)]
          · rfl
          · rw [HSL.out]
            unfold stanzaErr
            rw [if_pos (.inl (List.length_eq_zero_iff.1 (by show fs.length = 0; rw [HFN.out]; exact HZ.out)))]
        · have hb0 : ((F : Int) == 0) = false := by
            rw [beq_eq_false_iff_ne]
            omega
          by_cases h40 : 40 < F
          · have h40' : (40 : Int) < F := by omega
            go_wp2_with fail
            go_ret
            refine ⟨?_, HBW.out⟩
            rw [← HG.out, listErr_at (by rw [HN.out]; exact hbig) HKL.out HP.out (G := 12) ?_ (by decide)]
            · rfl
            · rw [HSL.out]
              unfold stanzaErr
              rw [if_pos (.inr (by show 40 < fs.length; rw [HFN.out]; exact h40))]
          · have h40' : ¬ (40 : Int) < F := by omega
            have hse : stanzaErr (line, fs) = fieldsErr [] fs := by
              unfold stanzaErr
              rw [if_neg]
              rintro (h | h)
              · have : fs = [] := h
                rw [this] at HFN
                exact hz HFN.out.symm
              · have : 40 < fs.length := h
                rw [HFN.out] at this
                exact h40 this
            have HSE := Lib.hid hse
            clear hse
            go_wp2_with fail
            obtain ⟨z, hz⟩ : ∃ z, wr.heap.size = z := ⟨_, rfl⟩
            rw [hz] at z1 HIW hsW ⊢
            clear hW hz z1 k0 k1 x0' x1' hb0
            go_loopw [29] (fun i u => ∃ q : Nat, q ≤ F ∧ i = .int .i64 q ∧ Hid (∀ j, j < q → fieldErr (fs.take j) (fs.getD j ([], [])) = 0) ∧ Hid (Below W.heap.size W u)) (fun i _ => F - (intOf i).toNat)
            case atStart => exact ⟨0, by omega, rfl, Lib.hid (fun j hj => absurd hj (by omega)), Lib.hid (Below.refl _ _)⟩
            case round =>
              obtain ⟨q, hq, rfl, HQ, HBQ⟩ := hrel
              have z1 : wr.cell? ⟨z, 1, none⟩ = some (.slice fa F fc) := (show Blk.Is wr z 37 #[.int .i64 line, .slice fa F fc] from (HBQ.out.block _ hsW).trans HIW.out).at rfl
              by_cases hql : q < F
              · have hql' : (q : Int) < F := by omega
                have hqf : q < fs.length := by rw [HFN.out]; exact hql
                have cc := checkField_any fa F fc fs q wr (HFL.out.below HBQ.out) hqf HSM.out (Txt.tabs_below HTT.out (HBW.out.trans (HBQ.out.mono HBW.out.size)) htl.out)
                obtain ⟨E, hE⟩ : ∃ E, fieldErr (fs.take q) (fs.getD q ([], [])) = E := ⟨_, rfl⟩
                rw [hE] at cc
                have HE := Lib.hid hE
                have HQF := Lib.hid hqf
                clear hE hqf
                go_wp2_with fail
                refine cc.mono ?_
                rintro e w4 ⟨rfl, b4⟩
                have HB4 := Lib.hid (HBQ.out.trans (b4.mono HBQ.out.size))
                clear cc b4 z1
                by_cases hE0 : E = 0
                · have HE0 := Lib.hid hE0
                  have hb0 : ((E : Int) == 0) = true := by subst hE0; rfl
                  clear hE0
                  go_wp2_with fail
                  refine ⟨⟨q + 1, by omega, by go_num, Lib.hid (fun j hj => ?_), HB4⟩, by simp [intOf]; omega⟩
                  rcases Nat.lt_or_ge j q with h | h
                  · exact HQ.out j h
                  · obtain rfl : j = q := by omega
                    rw [HE.out, HE0.out]
                · have HE0 := Lib.hid hE0
                  have hb0 : ((E : Int) == 0) = false := by
                    rw [beq_eq_false_iff_ne]
                    omega
                  clear hE0
                  go_wp2_with fail
                  go_ret
                  refine ⟨?_, HBW.out.trans (HB4.out.mono HBW.out.size)⟩
                  rw [← HG.out, listErr_at (by rw [HN.out]; exact hbig) HKL.out HP.out (G := E) ?_ HE0.out]
                  · rfl
                  · rw [HSL.out, HSE.out, fields_at fs [] q HQF.out HQ.out (by rw [List.nil_append, HE.out]; exact HE0.out), List.nil_append, HE.out]
              · obtain rfl : q = F := by omega
                go_wp2_with fail
                refine ⟨⟨k + 1, by omega, by go_num, Lib.hid (fun j hj => ?_), Lib.hid (HBW.out.trans (HBQ.out.mono HBW.out.size))⟩, by simp [intOf]; omega⟩
                rcases Nat.lt_or_ge j k with h | h
                · exact HP.out j h
                · obtain rfl : j = k := by omega
                  rw [HSL.out, HSE.out]
                  exact fields_no fs [] (fun i hi => HQ.out i (by rw [← HFN.out]; exact hi))
      · obtain rfl : k = N := by omega
        go_wp2_with fail
        go_ret
        refine ⟨?_, HB.out⟩
        rw [← HG.out]
        unfold listErr
        rw [if_neg (by rw [HN.out]; exact hbig), each_no l (fun j hj => HP.out j (by rw [← HN.out]; exact hj))]
        rfl
end Stz
end Go.Proofs.YtgolnfgkoolpoaaDoor

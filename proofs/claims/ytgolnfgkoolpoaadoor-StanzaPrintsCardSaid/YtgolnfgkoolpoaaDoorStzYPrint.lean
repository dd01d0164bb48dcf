/-
The reference's Print.
-/
import Derived.Test.YtgolnfgkoolpoaaDoorStzYField
import Derived.Deep.RegionHeld3
namespace Go.Proofs.YtgolnfgkoolpoaaDoor
open Go.RowKit
set_option linter.unusedSimpArgs false
set_option linter.unusedVariables false
namespace Stz
/-- What Print tells: of bytes, whether they are none matters not. -/
def YP (l : List Sz) (t : Bs) (er : Nat) : Prop := t = (print l).1 ∧ er = (print l).2
theorem YP.err {l : List Sz} {er : Nat} (h : listErr l = er) (h0 : er ≠ 0) : YP l [] er := by
  unfold YP print
  rw [if_pos (by rw [h]; exact h0), h]
  exact ⟨rfl, rfl⟩
theorem YP.long {l : List Sz} (h : listErr l = 0) (h0 : 65536 < (fl (allLines l)).length) : YP l [] 2 := by
  unfold YP print
  rw [if_neg (by rw [h]; simp), if_pos h0]
  exact ⟨rfl, rfl⟩
theorem YP.good {l : List Sz} (h : listErr l = 0) (h0 : ¬ 65536 < (fl (allLines l)).length) : YP l (fl (allLines l)) 0 := by
  unfold YP print
  rw [if_neg (by rw [h]; simp), if_neg h0]
  exact ⟨rfl, rfl⟩
theorem fl_len {ls : List Bs} {m : Nat} (h : ∀ x ∈ ls, x.length ≤ m) : (fl ls).length ≤ (m + 1) * ls.length := by
  induction ls with
  | nil => simp [fl]
  | cons x r ih =>
    have h1 := h x (by simp)
    have h2 := ih (fun y hy => h y (by simp [hy]))
    simp only [fl, List.length_append, List.length_cons]
    rw [Nat.mul_add]
    omega
set_option maxRecDepth 100000 in
set_option maxHeartbeats 4000000 in
theorem yprint_any (v : Value) (l : List Sz) (w : World) (h : Stzs w v l) (hs : ∀ s ∈ l, ∀ f ∈ s.2, Szd f) (hcnt : ∀ s ∈ l, ∀ f ∈ s.2, f.2.length ≤ 1000) :
    Calls Tryd.prog 17 #[v] w fun e w' => ∃ u t er, e = .returned (.tuple #[u, .int .i64 (er : Nat)]) ∧ YP l t er ∧ BytesAt w' u t ∧ Below w.heap.size w w' := by
  have HST := Lib.hid h
  obtain ⟨hmx, a, cap, rfl, hcap, hread⟩ := id h
  have HS := Lib.hid hs
  have HCT := Lib.hid hcnt
  obtain ⟨N, hN⟩ : ∃ N, l.length = N := ⟨_, rfl⟩
  have HN := Lib.hid hN
  rw [hN] at hcap hmx HST ⊢
  clear hread hs hN h hcnt
  go_enter Tryd.func17, Tryd.ntmps17
  by_cases hbig : 200 < N
  · have hbig' : (200 : Int) < N := by omega
    go_wp2_with fail
    go_ret2
    refine ⟨_, [], 12, rfl, YP.err ?_ (by decide), BytesAt.none _, Below.refl _ _⟩
    unfold listErr
    rw [if_pos (by rw [HN.out]; exact hbig)]
  · have hbig' : ¬ (200 : Int) < N := by omega
    go_wp2_with fail
-- ROUND BEGINS
    go_loopw [4, 16] (fun s4 i u => ∃ k : Nat, k ≤ N ∧ i = .int .i64 k ∧ Hid (Mine u w.heap.size s4 (nums (fl (allLines (l.take k))))) ∧ Hid ((fl (allLines (l.take k))).length ≤ 1001000 * (41 * k)) ∧ Hid (∀ j, j < k → stanzaErr (l.getD j (0, [])) = 0) ∧ Hid (Below w.heap.size w u)) (fun _ i _ => N - (intOf i).toNat)
    case atStart => exact ⟨0, by omega, rfl, Lib.hid (mine_none _ _), Lib.hid (by rw [List.take_zero]; exact Nat.zero_le _), Lib.hid (fun j hj => absurd hj (by omega)), Lib.hid (Below.refl _ _)⟩
    case round =>
      obtain ⟨k, hk, rfl, HM, HBL, HP, HB⟩ := hrel
      obtain ⟨ba, bc, rfl, hbc, _⟩ := HM.out.row
      obtain ⟨bn, hbn⟩ : ∃ bn, (nums (fl (allLines (l.take k)))).length = bn := ⟨_, rfl⟩
      rw [hbn] at HM hbc ⊢
      have HBN := Lib.hid hbn
      clear hbn
      by_cases hlt : k < N
      · have hkl : k < l.length := by rw [HN.out]; exact hlt
        obtain ⟨_, a', cap', ea, _, hread⟩ := HST.out
        simp only [Value.slice.injEq] at ea
        obtain ⟨rfl, eN, rfl⟩ := ea
        clear eN
        obtain ⟨g, off, rfl, hat⟩ := hread (by omega)
        obtain ⟨x0, u, x1, hF⟩ := hat k hkl
        obtain ⟨s, hs⟩ : ∃ s, l.getD k (0, []) = s := ⟨_, rfl⟩
        have hsl : s ∈ l := by rw [← hs]; simp [List.getD, List.getElem?_eq_getElem hkl]
        have hsm : ∀ f ∈ s.2, Szd f := HS.out s hsl
        have hct : ∀ f ∈ s.2, f.2.length ≤ 1000 := HCT.out s hsl
        rw [hs] at x0 hF
        rw [← HB.out.cell (Txt.lt_cell x0)] at x0
        rw [← HB.out.cell (Txt.lt_cell x1)] at x1
        obtain ⟨line, fs⟩ := s
        obtain ⟨F, hFn⟩ : ∃ F, fs.length = F := ⟨_, rfl⟩
        obtain ⟨hF60, fa, fc, rfl, hfc, _⟩ := id hF
        have x0' : wr.cell? ⟨g, off + k * 2, none⟩ = some (.int .i64 line) := by rw [Nat.mul_comm]; exact x0
        have x1' : wr.cell? ⟨g, off + k * 2 + 1, none⟩ = some (.slice fa F fc) := by rw [Nat.mul_comm, ← hFn]; exact x1
        have k0 : (0 : Int) ≤ k := by omega
        have k1 : (k : Int) < N := by omega
        obtain ⟨W, hW⟩ : ∃ W, wr.alloc (.cells #[.int .i64 line, .slice fa F fc] 37) = W := ⟨_, rfl⟩
        have hbW : Below wr.heap.size wr W := by rw [← hW]; exact (Below.refl _ _).alloc (Nat.le_refl _) _
        have hiW : Blk.Is W wr.heap.size 37 #[.int .i64 line, .slice fa F fc] := by rw [← hW]; exact Blk.Is.new wr _ _
        have z1 : W.cell? ⟨wr.heap.size, 1, none⟩ = some (.slice fa F fc) := hiW.at rfl
        have hsW : wr.heap.size < W.heap.size := by rw [← hW]; simp
        have HMW := Lib.hid (HM.out.below hbW)
        have HBW := Lib.hid (HB.out.trans (hbW.mono HB.out.size))
        have HIW := Lib.hid hiW
        have HF := Lib.hid (show Flds w (.slice fa F fc) fs by rw [← hFn]; exact hF)
        have HSM := Lib.hid hsm
        have HCF := Lib.hid hct
        have HSL := Lib.hid hs
        have HKL := Lib.hid hkl
        rw [hFn] at hF60 hfc
        have HFN := Lib.hid hFn
        clear hat hF x0 x1 hs hkl hsm hct hsl hbW hiW hFn hread HM HB
        obtain ⟨z, hz⟩ : ∃ z, wr.heap.size = z := ⟨_, rfl⟩
        rw [hz] at z1 HIW hsW
        by_cases hz0 : F = 0
        · have HZ := Lib.hid hz0
          have hb0 : ((F : Int) == 0) = true := by subst hz0; rfl
          clear hz0
          go_wp2_with fail
          go_ret2
          refine ⟨_, [], 12, rfl, YP.err (listErr_at (by rw [HN.out]; exact hbig) HKL.out HP.out (G := 12) ?_ (by decide)) (by decide), BytesAt.none _, HBW.out⟩
          rw [HSL.out]
          unfold stanzaErr
          rw [if_pos (.inl (List.length_eq_zero_iff.1 (by show fs.length = 0; rw [HFN.out]; exact HZ.out)))]
        · have hb0 : ((F : Int) == 0) = false := by
            rw [beq_eq_false_iff_ne]
            omega
          by_cases h40 : 40 < F
          · have h40' : (40 : Int) < F := by omega
            go_wp2_with fail
            go_ret2
            refine ⟨_, [], 12, rfl, YP.err (listErr_at (by rw [HN.out]; exact hbig) HKL.out HP.out (G := 12) ?_ (by decide)) (by decide), BytesAt.none _, HBW.out⟩
            rw [HSL.out]
            unfold stanzaErr
            rw [if_pos (.inr (by show 40 < fs.length; rw [HFN.out]; exact h40))]
          have h40' : ¬ (40 : Int) < F := by omega
          have HSE := Lib.hid (show stanzaErr (line, fs) = fieldsErr [] fs by
            unfold stanzaErr
            rw [if_neg]
            rintro (h | h)
            · have : fs = [] := h
              rw [this] at HFN
              exact hz0 HFN.out.symm
            · have : 40 < fs.length := h
              rw [HFN.out] at this
              exact h40 this)
          by_cases hk0 : k = 0
          · have hk0' : ¬ (0 : Int) < k := by omega
            have HEND := Lib.hid (show allLines (l.take (k + 1)) = [] ++ stanzaLines fs by
              rw [take_sz l HKL.out, all_snoc, if_pos ((take_nil l HKL.out).2 hk0), HSL.out]; rfl)
            have HM1 := Lib.hid (show Mine W w.heap.size (.slice ba bn bc) (nums (fl ([] ++ stanzaLines (fs.take 0)))) by
              have := HMW.out
              rwa [(take_nil l HKL.out).2 hk0] at this)
            have HLN := Lib.hid (show (fl ([] ++ stanzaLines (fs.take 0))).length ≤ 1001000 * (41 * k + 0 + 1) by rw [List.take_zero]; show 0 ≤ _; omega)
            clear hk0 HMW
            go_wp2_with fail
            have HB3 := HBW
            have wm1 : Blk.Is W z 37 #[.int .i64 line, .slice fa F fc] := HIW.out
            have hzw : z < W.heap.size := hsW
            obtain ⟨wm, hwm⟩ : ∃ wm, W = wm := ⟨_, rfl⟩
            obtain ⟨sv, hsv⟩ : ∃ sv, Value.slice ba bn bc = sv := ⟨_, rfl⟩
            rw [hwm] at HB3 HM1 wm1 hzw ⊢
            rw [hsv] at HM1 ⊢
            clear hwm hsv
            clear z1 hk0' x0' x1' hW k0 k1
            have WM1 := Lib.hid wm1
            clear wm1
            go_loopw [4, 39] (fun s4 i u => ∃ q : Nat, q ≤ F ∧ i = .int .i64 q ∧ Hid (Mine u w.heap.size s4 (nums (fl ([] ++ stanzaLines (fs.take q))))) ∧ Hid ((fl ([] ++ stanzaLines (fs.take q))).length ≤ 1001000 * (41 * k + q + 1)) ∧ Hid (∀ j, j < q → fieldErr (fs.take j) (fs.getD j ([], [])) = 0) ∧ Hid (Below w.heap.size w u) ∧ Hid (Blk.Is u z 37 #[.int .i64 line, .slice fa F fc])) (fun _ i _ => F - (intOf i).toNat)
            case atStart => exact ⟨0, by omega, rfl, HM1, HLN, Lib.hid (fun j hj => absurd hj (by omega)), HB3, WM1⟩
            case round =>
              obtain ⟨q, hq, rfl, HMQ, HLQ, HFE, HBQ, HIQ⟩ := hrel
              obtain ⟨ba, bc, rfl, hbc, _⟩ := HMQ.out.row
              obtain ⟨bn, hbn⟩ : ∃ bn, (nums (fl ([] ++ stanzaLines (fs.take q)))).length = bn := ⟨_, rfl⟩
              rw [hbn] at HMQ hbc ⊢
              have HBN := Lib.hid hbn
              clear hbn
              by_cases hql : q < F
              · have hqf : q < fs.length := by rw [HFN.out]; exact hql
                obtain ⟨_, fa', fc', ef, _, hfread⟩ := HF.out
                simp only [Value.slice.injEq] at ef
                obtain ⟨rfl, eF, rfl⟩ := ef
                clear eF
                obtain ⟨fg, foff, rfl, hfat⟩ := hfread (by omega)
                obtain ⟨y0, u, y1, hT⟩ := hfat q hqf
                obtain ⟨f, hf⟩ : ∃ f, fs.getD q ([], []) = f := ⟨_, rfl⟩
                have hfm : f ∈ fs := by rw [← hf]; simp [List.getD, List.getElem?_eq_getElem hqf]
                have hszd : Szd f := HSM.out f hfm
                have hcf : f.2.length ≤ 1000 := HCF.out f hfm
                rw [hf] at y0 hT
                rw [← HBQ.out.cell (Txt.lt_cell y0)] at y0
                rw [← HBQ.out.cell (Txt.lt_cell y1)] at y1
                obtain ⟨nm, ls⟩ := f
                obtain ⟨M, hM⟩ : ∃ M, ls.length = M := ⟨_, rfl⟩
                obtain ⟨_, la, lc, rfl, _, _⟩ := id hT
                have y0' : wr.cell? ⟨fg, foff + q * 2, none⟩ = some (.string (S nm)) := by rw [Nat.mul_comm]; exact y0
                have y1' : wr.cell? ⟨fg, foff + q * 2 + 1, none⟩ = some (.slice la M lc) := by rw [Nat.mul_comm]; rw [List.length_map, hM] at y1; exact y1
                have hT' : Txt.Texts w (.slice la M lc) (ls.map S) := by rw [List.length_map, hM] at hT; exact hT
                have q0 : (0 : Int) ≤ q := by omega
                have q1 : (q : Int) < F := by omega
                have q2 : (q : Int) ≤ fc := by omega
                obtain ⟨V, hV⟩ : ∃ V, wr.alloc (.cells #[.string (S nm), .slice la M lc] 42) = V := ⟨_, rfl⟩
                have hbV : Below wr.heap.size wr V := by rw [← hV]; exact (Below.refl _ _).alloc (Nat.le_refl _) _
                have hiV : Blk.Is V wr.heap.size 42 #[.string (S nm), .slice la M lc] := by rw [← hV]; exact Blk.Is.new wr _ _
                have v0 : V.cell? ⟨wr.heap.size, 0, none⟩ = some (.string (S nm)) := hiV.at rfl
                have v1 : V.cell? ⟨wr.heap.size, 1, none⟩ = some (.slice la M lc) := hiV.at rfl
                have v2 : V.cell? ⟨z, 1, none⟩ = some (.slice (some ⟨fg, foff, none⟩) F fc) := (show Blk.Is V z 37 #[.int .i64 line, .slice (some ⟨fg, foff, none⟩) F fc] from (hbV.block _ HIQ.out.lt).trans HIQ.out).at rfl
                have HBV := Lib.hid (HBQ.out.trans (hbV.mono HBQ.out.size))
                have HMV := Lib.hid (HMQ.out.below hbV)
                have HIV := Lib.hid (show Blk.Is V z 37 #[.int .i64 line, .slice (some ⟨fg, foff, none⟩) F fc] from (hbV.block _ HIQ.out.lt).trans HIQ.out)
                have HT := Lib.hid hT'
                have HQF := Lib.hid hqf
                have HFQ := Lib.hid hf
                have HSZ := Lib.hid hszd
                have HCQ := Lib.hid hcf
                clear hfat y0 y1 hf hfm hszd hcf hT hT' hM hbV hiV hqf hfread HMQ HBQ HIQ
                have hbw : w.heap.size ≤ V.heap.size := HBV.out.size
                have l0 : ∀ u, Below V.heap.size V u → u.cell? ⟨wr.heap.size, 0, none⟩ = some (.string (S nm)) := fun u hu => by rw [hu.cell (Txt.lt_cell v0)]; exact v0
                have l1 : ∀ u, Below V.heap.size V u → u.cell? ⟨wr.heap.size, 1, none⟩ = some (.slice la M lc) := fun u hu => by rw [hu.cell (Txt.lt_cell v1)]; exact v1
                have l2 : ∀ u, Below V.heap.size V u → u.cell? ⟨z, 1, none⟩ = some (.slice (some ⟨fg, foff, none⟩) F fc) := fun u hu => by rw [hu.cell (Txt.lt_cell v2)]; exact v2
                have HC := Lib.hid (show ∀ u, Below V.heap.size V u → _ from fun u hu => yfield_any nm (.slice la M lc) ls (.slice (some ⟨fg, foff, none⟩) q fc) (fs.take q) u (HT.out.below (HBV.out.trans (hu.mono hbw))) ((HF.out.below (HBV.out.trans (hu.mono hbw))).take q (Nat.le_of_lt HQF.out)) HSZ.out (fun f hf => HSM.out f (List.mem_of_mem_take hf)) (Nat.le_trans HCQ.out (by omega)))
                go_wp2_with fail
                clear v0 v1 v2 y0' y1' hV
                go_region_held3 (fun u => Below V.heap.size V u)
                  (first | exact (Below.refl _ _).drew | assumption | (refine Below.trans ?_ (Below.mono hb5 ?_); assumption; exact Below.size (by assumption)))
                  (first
                    | (go_at_call 33; refine (HC.out _ (by assumption)).mono ?_; rintro e w5 ⟨t, er, rfl, hyf, hb5⟩))
                have hB5 : Below V.heap.size V w5 := by assumption
                rename_i hHeld
                clear hHeld hb5
                have HB5 := Lib.hid (HBV.out.trans (hB5.mono hbw))
                have HM5 := Lib.hid (HMV.out.below hB5)
                have HI5 := Lib.hid (show Blk.Is w5 z 37 #[.int .i64 line, .slice (some ⟨fg, foff, none⟩) F fc] from (hB5.block _ HIV.out.lt).trans HIV.out)
                have HYF := Lib.hid hyf
                clear hB5 hyf l0 l1 l2 HC HMV HBV HIV
                by_cases he : er = 0
                · have he0 : ((er : Int) == 0) = true := by subst he; rfl
                  have he1 : ((er : Int) != 0) = false := by subst he; rfl
                  have HER := Lib.hid he
                  have HTX := Lib.hid (show t = fl (fieldLines (nm, ls)) by
                    have h1 := HYF.out.1
                    have h2 := HYF.out.2
                    rwa [if_pos (by rw [← h1]; exact he)] at h2)
                  have HE0 := Lib.hid (show fieldErr (fs.take q) (nm, ls) = 0 by rw [← HYF.out.1]; exact he)
                  have HTL := Lib.hid (show t.length ≤ 1001000 by
                    rw [HTX.out]
                    have h1 := fl_len (m := 1000) (ls := fieldLines (nm, ls)) (fun x hx => (field_lines_ok HE0.out x hx).2)
                    rw [lines_len] at h1
                    have h2 := HCQ.out
                    have h3 : (1000 + 1) * (nm, ls).2.length ≤ 1001 * 1000 := Nat.mul_le_mul_left 1001 h2
                    omega)
                  clear he
                  have hsz5 : w.heap.size ≤ w5.heap.size := HB5.out.size
                  have hbl : bn ≤ 1001000 * (41 * k + q + 1) := by
                    have h1 := HLQ.out
                    have h2 := HBN.out
                    rw [nums_len] at h2
                    omega
                  have hkk : k ≤ 200 := by omega
                  have hqq : q ≤ 40 := by omega
                  obtain ⟨X, hX⟩ : ∃ X, nums (fl ([] ++ stanzaLines (fs.take q))) = X := ⟨_, rfl⟩
                  rw [hX] at HM5
                  have HXX := Lib.hid hX
                  clear he0 hX
                  go_wp2_with (at_builtin; refine append_S rfl (.tmp 56) (.tmp 57) rfl w.heap.size _ _ rfl HM5.out t rfl ?_ hsz5 ?_)
                  · rw [← HXX.out, HBN.out]; have := HTL.out; omega
                  intro v6 w6 m6 g6
                  have HB6 := Lib.hid (Own.below_grown HB5.out HM5.out.1 g6 hsz5)
                  have HI6 := Lib.hid (grown_is HM5.out HI5.out (by decide) g6)
                  have HM6 := Lib.hid (show Mine w6 w.heap.size v6 (nums (fl (([]) ++ stanzaLines (fs.take (q + 1))))) by
                    rw [stanza_snoc fs HQF.out, HFQ.out, ← List.append_assoc, fl_app, nums_app, ← HTX.out, HXX.out]
                    exact m6)
                  have HL6 := Lib.hid (show (fl (([]) ++ stanzaLines (fs.take (q + 1)))).length ≤ 1001000 * (41 * k + (q + 1) + 1) by
                    rw [stanza_snoc fs HQF.out, HFQ.out, ← List.append_assoc, fl_app, List.length_append, ← HTX.out]
                    have := HTL.out
                    have := HLQ.out
                    omega)
                  obtain ⟨a6, c6, h6, _, _⟩ := m6.row
                  obtain ⟨n6, hn6⟩ : ∃ n6, (X ++ nums t).length = n6 := ⟨_, rfl⟩
                  rw [hn6] at h6
                  subst h6
                  clear m6 g6 hn6 hbl hkk hqq he1
                  go_wp2_with fail
                  refine ⟨⟨q + 1, by omega, by go_num, HM6, HL6, Lib.hid (fun j hj => ?_), HB6, HI6⟩, by simp [intOf]; omega⟩
                  rcases Nat.lt_or_ge j q with h | h
                  · exact HFE.out j h
                  · obtain rfl : j = q := by omega
                    rw [HFQ.out]
                    exact HE0.out
                · have he0 : ((er : Int) == 0) = false := by
                    rw [beq_eq_false_iff_ne]
                    omega
                  have he1 : ((er : Int) != 0) = true := by simp [bne, he0]
                  have HER := Lib.hid he
                  clear he
                  go_wp2_with fail
                  go_ret2
                  refine ⟨_, [], er, rfl, YP.err (listErr_at (by rw [HN.out]; exact hbig) HKL.out HP.out (G := er) ?_ HER.out) HER.out, BytesAt.none _, HB5.out⟩
                  rw [HSL.out, HSE.out, fields_at fs [] q HQF.out HFE.out (by rw [List.nil_append, HFQ.out, ← HYF.out.1]; exact HER.out), List.nil_append, HFQ.out, ← HYF.out.1]
              · obtain rfl : q = F := by omega
                go_wp2_with fail
                refine ⟨⟨k + 1, by omega, by go_num, Lib.hid ?_, Lib.hid ?_, Lib.hid (fun j hj => ?_), HBQ⟩, by simp [intOf]; omega⟩
                · rw [HEND.out]
                  have := HMQ.out
                  rwa [show fs.take q = fs from List.take_of_length_le (by rw [HFN.out]; exact Nat.le_refl _)] at this
                · rw [HEND.out]
                  have := HLQ.out
                  rw [show fs.take q = fs from List.take_of_length_le (by rw [HFN.out]; exact Nat.le_refl _)] at this
                  omega
                · rcases Nat.lt_or_ge j k with h | h
                  · exact HP.out j h
                  · obtain rfl : j = k := by omega
                    rw [HSL.out, HSE.out]
                    exact fields_no fs [] (fun i hi => HFE.out i (by rw [← HFN.out]; exact hi))
          · have hk0' : (0 : Int) < k := by omega
            have HEND := Lib.hid (show allLines (l.take (k + 1)) = (allLines (l.take k) ++ [[]]) ++ stanzaLines fs by
              rw [take_sz l HKL.out, all_snoc, if_neg (fun e => hk0 ((take_nil l HKL.out).1 e)), HSL.out, List.append_assoc]; rfl)
            clear hk0
            have bA : Below W.heap.size W (W.alloc (.cells #[.int .u8 10] 5)) := (Below.refl _ _).alloc (Nat.le_refl _) _
            have rA : Row (W.alloc (.cells #[.int .u8 10] 5)) (some ⟨W.heap.size, 0, none⟩) 1 [10] := Row.ofIs (Blk.Is.new W 5 #[.int .u8 10]) 0 1 _ rfl (by decide) (by unfold Byte; decide) (fun j hj => by
              obtain rfl : j = 0 := by omega
              rfl)
            have RA := Lib.hid rA
            have HMA := Lib.hid (HMW.out.below bA)
            have HBA := Lib.hid (HBW.out.trans (bA.mono HBW.out.size))
            have HIA := Lib.hid (show Blk.Is (W.alloc (.cells #[.int .u8 10] 5)) z 37 #[.int .i64 line, .slice fa F fc] from HIW.out.alloc _)
            have hszA : w.heap.size ≤ (W.alloc (.cells #[.int .u8 10] 5)).heap.size := HBA.out.size
            clear bA rA HMW
            go_wp2_with (at_builtin; refine append_bytes rfl (.tmp 33) (.tmp 34) rfl w.heap.size _ _ rfl HMA.out (some ⟨W.heap.size, 0, none⟩) 1 1 rfl _ RA.out (by intro h; cases h) ?_ hszA ?_)
            · rw [nums_len]; have := HBL.out; omega
            intro sv w3 m3 g3
            have HB3 := Lib.hid (Own.below_grown HBA.out HMA.out.1 g3 hszA)
            have HM1 := Lib.hid (show Mine w3 w.heap.size sv (nums (fl ((allLines (l.take k) ++ [[]]) ++ stanzaLines (fs.take 0)))) by
              have : nums (fl ((allLines (l.take k) ++ [[]]) ++ stanzaLines (fs.take 0))) = nums (fl (allLines (l.take k))) ++ [10] := by
                rw [List.take_zero, show stanzaLines [] = [] from rfl, List.append_nil, fl_app, nums_app]; rfl
              rw [this]; exact m3)
            have HLN := Lib.hid (show (fl ((allLines (l.take k) ++ [[]]) ++ stanzaLines (fs.take 0))).length ≤ 1001000 * (41 * k + 0 + 1) by
              rw [List.take_zero, show stanzaLines [] = [] from rfl, List.append_nil, fl_app, List.length_append]
              have := HBL.out
              show _ + 1 ≤ _
              omega)
            have wm1 : Blk.Is w3 z 37 #[.int .i64 line, .slice fa F fc] := grown_is HMA.out HIA.out (by decide) g3
            obtain ⟨wm, hwm⟩ : ∃ wm, w3 = wm := ⟨_, rfl⟩
            have z1 : w3.cell? ⟨z, 1, none⟩ = some (.slice fa F fc) := wm1.at rfl
            rw [hwm] at HB3 HM1 wm1 z1 ⊢
            have hzw : z < wm.heap.size := wm1.lt
            obtain ⟨sa, sn, sc, hsh⟩ : ∃ sa sn sc, sv = .slice sa sn sc := by
              obtain ⟨a1, c1, h1, _⟩ := HM1.out.row
              exact ⟨_, _, _, h1⟩
            subst hsh
            clear m3 g3 hwm RA HMA HBA HIA hszA
            go_wp2_with fail
            obtain ⟨sv, hsv⟩ : ∃ sv, Value.slice sa sn sc = sv := ⟨_, rfl⟩
            rw [hsv] at HM1 ⊢
            clear hsv
            clear z1 hk0' x0' x1' hW k0 k1
            have WM1 := Lib.hid wm1
            clear wm1
            go_loopw [4, 39] (fun s4 i u => ∃ q : Nat, q ≤ F ∧ i = .int .i64 q ∧ Hid (Mine u w.heap.size s4 (nums (fl (allLines (l.take k) ++ [[]] ++ stanzaLines (fs.take q))))) ∧ Hid ((fl (allLines (l.take k) ++ [[]] ++ stanzaLines (fs.take q))).length ≤ 1001000 * (41 * k + q + 1)) ∧ Hid (∀ j, j < q → fieldErr (fs.take j) (fs.getD j ([], [])) = 0) ∧ Hid (Below w.heap.size w u) ∧ Hid (Blk.Is u z 37 #[.int .i64 line, .slice fa F fc])) (fun _ i _ => F - (intOf i).toNat)
            case atStart => exact ⟨0, by omega, rfl, HM1, HLN, Lib.hid (fun j hj => absurd hj (by omega)), HB3, WM1⟩
            case round =>
              obtain ⟨q, hq, rfl, HMQ, HLQ, HFE, HBQ, HIQ⟩ := hrel
              obtain ⟨ba, bc, rfl, hbc, _⟩ := HMQ.out.row
              obtain ⟨bn, hbn⟩ : ∃ bn, (nums (fl (allLines (l.take k) ++ [[]] ++ stanzaLines (fs.take q)))).length = bn := ⟨_, rfl⟩
              rw [hbn] at HMQ hbc ⊢
              have HBN := Lib.hid hbn
              clear hbn
              by_cases hql : q < F
              · have hqf : q < fs.length := by rw [HFN.out]; exact hql
                obtain ⟨_, fa', fc', ef, _, hfread⟩ := HF.out
                simp only [Value.slice.injEq] at ef
                obtain ⟨rfl, eF, rfl⟩ := ef
                clear eF
                obtain ⟨fg, foff, rfl, hfat⟩ := hfread (by omega)
                obtain ⟨y0, u, y1, hT⟩ := hfat q hqf
                obtain ⟨f, hf⟩ : ∃ f, fs.getD q ([], []) = f := ⟨_, rfl⟩
                have hfm : f ∈ fs := by rw [← hf]; simp [List.getD, List.getElem?_eq_getElem hqf]
                have hszd : Szd f := HSM.out f hfm
                have hcf : f.2.length ≤ 1000 := HCF.out f hfm
                rw [hf] at y0 hT
                rw [← HBQ.out.cell (Txt.lt_cell y0)] at y0
                rw [← HBQ.out.cell (Txt.lt_cell y1)] at y1
                obtain ⟨nm, ls⟩ := f
                obtain ⟨M, hM⟩ : ∃ M, ls.length = M := ⟨_, rfl⟩
                obtain ⟨_, la, lc, rfl, _, _⟩ := id hT
                have y0' : wr.cell? ⟨fg, foff + q * 2, none⟩ = some (.string (S nm)) := by rw [Nat.mul_comm]; exact y0
                have y1' : wr.cell? ⟨fg, foff + q * 2 + 1, none⟩ = some (.slice la M lc) := by rw [Nat.mul_comm]; rw [List.length_map, hM] at y1; exact y1
                have hT' : Txt.Texts w (.slice la M lc) (ls.map S) := by rw [List.length_map, hM] at hT; exact hT
                have q0 : (0 : Int) ≤ q := by omega
                have q1 : (q : Int) < F := by omega
                have q2 : (q : Int) ≤ fc := by omega
                obtain ⟨V, hV⟩ : ∃ V, wr.alloc (.cells #[.string (S nm), .slice la M lc] 42) = V := ⟨_, rfl⟩
                have hbV : Below wr.heap.size wr V := by rw [← hV]; exact (Below.refl _ _).alloc (Nat.le_refl _) _
                have hiV : Blk.Is V wr.heap.size 42 #[.string (S nm), .slice la M lc] := by rw [← hV]; exact Blk.Is.new wr _ _
                have v0 : V.cell? ⟨wr.heap.size, 0, none⟩ = some (.string (S nm)) := hiV.at rfl
                have v1 : V.cell? ⟨wr.heap.size, 1, none⟩ = some (.slice la M lc) := hiV.at rfl
                have v2 : V.cell? ⟨z, 1, none⟩ = some (.slice (some ⟨fg, foff, none⟩) F fc) := (show Blk.Is V z 37 #[.int .i64 line, .slice (some ⟨fg, foff, none⟩) F fc] from (hbV.block _ HIQ.out.lt).trans HIQ.out).at rfl
                have HBV := Lib.hid (HBQ.out.trans (hbV.mono HBQ.out.size))
                have HMV := Lib.hid (HMQ.out.below hbV)
                have HIV := Lib.hid (show Blk.Is V z 37 #[.int .i64 line, .slice (some ⟨fg, foff, none⟩) F fc] from (hbV.block _ HIQ.out.lt).trans HIQ.out)
                have HT := Lib.hid hT'
                have HQF := Lib.hid hqf
                have HFQ := Lib.hid hf
                have HSZ := Lib.hid hszd
                have HCQ := Lib.hid hcf
                clear hfat y0 y1 hf hfm hszd hcf hT hT' hM hbV hiV hqf hfread HMQ HBQ HIQ
                have hbw : w.heap.size ≤ V.heap.size := HBV.out.size
                have l0 : ∀ u, Below V.heap.size V u → u.cell? ⟨wr.heap.size, 0, none⟩ = some (.string (S nm)) := fun u hu => by rw [hu.cell (Txt.lt_cell v0)]; exact v0
                have l1 : ∀ u, Below V.heap.size V u → u.cell? ⟨wr.heap.size, 1, none⟩ = some (.slice la M lc) := fun u hu => by rw [hu.cell (Txt.lt_cell v1)]; exact v1
                have l2 : ∀ u, Below V.heap.size V u → u.cell? ⟨z, 1, none⟩ = some (.slice (some ⟨fg, foff, none⟩) F fc) := fun u hu => by rw [hu.cell (Txt.lt_cell v2)]; exact v2
                have HC := Lib.hid (show ∀ u, Below V.heap.size V u → _ from fun u hu => yfield_any nm (.slice la M lc) ls (.slice (some ⟨fg, foff, none⟩) q fc) (fs.take q) u (HT.out.below (HBV.out.trans (hu.mono hbw))) ((HF.out.below (HBV.out.trans (hu.mono hbw))).take q (Nat.le_of_lt HQF.out)) HSZ.out (fun f hf => HSM.out f (List.mem_of_mem_take hf)) (Nat.le_trans HCQ.out (by omega)))
                go_wp2_with fail
                clear v0 v1 v2 y0' y1' hV
                go_region_held3 (fun u => Below V.heap.size V u)
                  (first | exact (Below.refl _ _).drew | assumption | (refine Below.trans ?_ (Below.mono hb5 ?_); assumption; exact Below.size (by assumption)))
                  (first
                    | (go_at_call 33; refine (HC.out _ (by assumption)).mono ?_; rintro e w5 ⟨t, er, rfl, hyf, hb5⟩))
                have hB5 : Below V.heap.size V w5 := by assumption
                rename_i hHeld
                clear hHeld hb5
                have HB5 := Lib.hid (HBV.out.trans (hB5.mono hbw))
                have HM5 := Lib.hid (HMV.out.below hB5)
                have HI5 := Lib.hid (show Blk.Is w5 z 37 #[.int .i64 line, .slice (some ⟨fg, foff, none⟩) F fc] from (hB5.block _ HIV.out.lt).trans HIV.out)
                have HYF := Lib.hid hyf
                clear hB5 hyf l0 l1 l2 HC HMV HBV HIV
                by_cases he : er = 0
                · have he0 : ((er : Int) == 0) = true := by subst he; rfl
                  have he1 : ((er : Int) != 0) = false := by subst he; rfl
                  have HER := Lib.hid he
                  have HTX := Lib.hid (show t = fl (fieldLines (nm, ls)) by
                    have h1 := HYF.out.1
                    have h2 := HYF.out.2
                    rwa [if_pos (by rw [← h1]; exact he)] at h2)
                  have HE0 := Lib.hid (show fieldErr (fs.take q) (nm, ls) = 0 by rw [← HYF.out.1]; exact he)
                  have HTL := Lib.hid (show t.length ≤ 1001000 by
                    rw [HTX.out]
                    have h1 := fl_len (m := 1000) (ls := fieldLines (nm, ls)) (fun x hx => (field_lines_ok HE0.out x hx).2)
                    rw [lines_len] at h1
                    have h2 := HCQ.out
                    have h3 : (1000 + 1) * (nm, ls).2.length ≤ 1001 * 1000 := Nat.mul_le_mul_left 1001 h2
                    omega)
                  clear he
                  have hsz5 : w.heap.size ≤ w5.heap.size := HB5.out.size
                  have hbl : bn ≤ 1001000 * (41 * k + q + 1) := by
                    have h1 := HLQ.out
                    have h2 := HBN.out
                    rw [nums_len] at h2
                    omega
                  have hkk : k ≤ 200 := by omega
                  have hqq : q ≤ 40 := by omega
                  obtain ⟨X, hX⟩ : ∃ X, nums (fl (allLines (l.take k) ++ [[]] ++ stanzaLines (fs.take q))) = X := ⟨_, rfl⟩
                  rw [hX] at HM5
                  have HXX := Lib.hid hX
                  clear he0 hX
                  go_wp2_with (at_builtin; refine append_S rfl (.tmp 56) (.tmp 57) rfl w.heap.size _ _ rfl HM5.out t rfl ?_ hsz5 ?_)
                  · rw [← HXX.out, HBN.out]; have := HTL.out; omega
                  intro v6 w6 m6 g6
                  have HB6 := Lib.hid (Own.below_grown HB5.out HM5.out.1 g6 hsz5)
                  have HI6 := Lib.hid (grown_is HM5.out HI5.out (by decide) g6)
                  have HM6 := Lib.hid (show Mine w6 w.heap.size v6 (nums (fl ((allLines (l.take k) ++ [[]]) ++ stanzaLines (fs.take (q + 1))))) by
                    rw [stanza_snoc fs HQF.out, HFQ.out, ← List.append_assoc, fl_app, nums_app, ← HTX.out, HXX.out]
                    exact m6)
                  have HL6 := Lib.hid (show (fl ((allLines (l.take k) ++ [[]]) ++ stanzaLines (fs.take (q + 1)))).length ≤ 1001000 * (41 * k + (q + 1) + 1) by
                    rw [stanza_snoc fs HQF.out, HFQ.out, ← List.append_assoc, fl_app, List.length_append, ← HTX.out]
                    have := HTL.out
                    have := HLQ.out
                    omega)
                  obtain ⟨a6, c6, h6, _, _⟩ := m6.row
                  obtain ⟨n6, hn6⟩ : ∃ n6, (X ++ nums t).length = n6 := ⟨_, rfl⟩
                  rw [hn6] at h6
                  subst h6
                  clear m6 g6 hn6 hbl hkk hqq he1
                  go_wp2_with fail
                  refine ⟨⟨q + 1, by omega, by go_num, HM6, HL6, Lib.hid (fun j hj => ?_), HB6, HI6⟩, by simp [intOf]; omega⟩
                  rcases Nat.lt_or_ge j q with h | h
                  · exact HFE.out j h
                  · obtain rfl : j = q := by omega
                    rw [HFQ.out]
                    exact HE0.out
                · have he0 : ((er : Int) == 0) = false := by
                    rw [beq_eq_false_iff_ne]
                    omega
                  have he1 : ((er : Int) != 0) = true := by simp [bne, he0]
                  have HER := Lib.hid he
                  clear he
                  go_wp2_with fail
                  go_ret2
                  refine ⟨_, [], er, rfl, YP.err (listErr_at (by rw [HN.out]; exact hbig) HKL.out HP.out (G := er) ?_ HER.out) HER.out, BytesAt.none _, HB5.out⟩
                  rw [HSL.out, HSE.out, fields_at fs [] q HQF.out HFE.out (by rw [List.nil_append, HFQ.out, ← HYF.out.1]; exact HER.out), List.nil_append, HFQ.out, ← HYF.out.1]
              · obtain rfl : q = F := by omega
                go_wp2_with fail
                refine ⟨⟨k + 1, by omega, by go_num, Lib.hid ?_, Lib.hid ?_, Lib.hid (fun j hj => ?_), HBQ⟩, by simp [intOf]; omega⟩
                · rw [HEND.out]
                  have := HMQ.out
                  rwa [show fs.take q = fs from List.take_of_length_le (by rw [HFN.out]; exact Nat.le_refl _)] at this
                · rw [HEND.out]
                  have := HLQ.out
                  rw [show fs.take q = fs from List.take_of_length_le (by rw [HFN.out]; exact Nat.le_refl _)] at this
                  omega
                · rcases Nat.lt_or_ge j k with h | h
                  · exact HP.out j h
                  · obtain rfl : j = k := by omega
                    rw [HSL.out, HSE.out]
                    exact fields_no fs [] (fun i hi => HFE.out i (by rw [← HFN.out]; exact hi))
      · obtain rfl : k = N := by omega
        have hl0 : listErr l = 0 := by
          unfold listErr
          rw [if_neg (by rw [HN.out]; exact hbig), each_no l (fun j hj => HP.out j (by rw [← HN.out]; exact hj))]
        have hm := HM.out
        rw [List.take_of_length_le (by rw [HN.out]; exact Nat.le_refl _)] at hm
        have hn := HBN.out
        rw [List.take_of_length_le (by rw [HN.out]; exact Nat.le_refl _), nums_len] at hn
        have HM9 := Lib.hid hm
        have HL0 := Lib.hid hl0
        have HN9 := Lib.hid hn
        clear hm hl0 hn
        by_cases hlong : 65536 < bn
        · have hlong' : (65536 : Int) < bn := by omega
          go_wp2_with fail
          go_ret2
          exact ⟨_, [], 2, rfl, YP.long HL0.out (by rw [HN9.out]; exact hlong), BytesAt.none _, HB.out⟩
        · have hlong' : ¬ (65536 : Int) < bn := by omega
          go_wp2_with fail
          go_ret2
          exact ⟨_, _, 0, rfl, YP.good HL0.out (by rw [HN9.out]; exact hlong), bytes_mine HM9.out, HB.out⟩
-- ROUND ENDS
end Stz
end Go.Proofs.YtgolnfgkoolpoaaDoor

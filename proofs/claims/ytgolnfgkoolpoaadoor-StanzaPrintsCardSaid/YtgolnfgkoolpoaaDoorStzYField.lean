/-
The reference's field.
-/
import Derived.Test.YtgolnfgkoolpoaaDoorStzPrint
namespace Go.Proofs.YtgolnfgkoolpoaaDoor
open Go.RowKit
set_option linter.unusedSimpArgs false
set_option linter.unusedVariables false
namespace Stz
open Txt (trimL trimRight)
/-- A name with a colon behind it. -/
theorem name_colon (nm : Bs) : nameB nm = decide (nameLen (nm ++ [58]) = (nm.length : Int) ∧ nm.length ≠ 0) := by
  by_cases h : ∀ d ∈ nm, d ≠ 58
  · have hc : cutL (nm ++ [58]) = some (nm, []) := cut_app h []
    unfold nameLen
    rw [hc]
    cases nm with
    | nil => rfl
    | cons c r =>
      cases hn : nameB (c :: r) with
      | true => simp [hn]
      | false =>
        rw [eq_comm, decide_eq_false_iff_not]
        rintro ⟨h1, _⟩
        simp [hn] at h1
        omega
  · have hf : nameB nm = false := by
      cases hn : nameB nm with
      | false => rfl
      | true =>
        obtain ⟨_, _, _, _, _, hall⟩ := name_cons hn
        exact absurd (fun d hd => sgn_colon (hall d hd)) h
    rw [hf, eq_comm, decide_eq_false_iff_not]
    rintro ⟨h1, h2⟩
    unfold nameLen at h1
    cases hc : cutL (nm ++ [58]) with
    | none => rw [hc] at h1; simp at h1
    | some p =>
      rw [hc] at h1
      obtain ⟨a, b⟩ := p
      obtain ⟨e1, e2⟩ := cut_eq hc
      have hla : a.length = nm.length := by
        simp only at h1
        split at h1 <;> omega
      have : a = nm := by
        have := congrArg (List.take nm.length) e1
        rw [List.take_left', ← hla, List.take_left'] at this
        · exact this.symm
        · rfl
        · rfl
      rw [this] at e2
      exact h e2
theorem name_no {nm : Bs} (h : nameB nm = false) : nameLen (nm ++ [58]) ≠ (nm.length : Int) := by
  intro e
  cases nm with
  | nil => revert e; decide
  | cons c r =>
    rw [name_colon, decide_eq_false_iff_not] at h
    exact h ⟨e, by simp⟩
theorem name_yes {nm : Bs} (h : nameB nm = true) : nameLen (nm ++ [58]) = (nm.length : Int) ∧ nm.length ≠ 0 := by
  rw [name_colon, decide_eq_true_eq] at h
  exact h
theorem sameB_comm (a c : Bs) : sameB a c = sameB c a := by
  unfold sameB
  rw [Bool.eq_iff_iff, beq_iff_eq, beq_iff_eq]
  exact eq_comm
theorem any_no {fs : List Fld} {nm : Bs} (h : ∀ j, j < fs.length → sameB nm (fs.getD j ([], [])).1 = false) : fs.any (fun g => sameB g.1 nm) = false := by
  rw [List.any_eq_false]
  intro g hg
  obtain ⟨i, hi, rfl⟩ := List.mem_iff_getElem.1 hg
  have := h i hi
  simp only [List.getD, List.getElem?_eq_getElem hi, Option.getD_some] at this
  rw [sameB_comm, this]
  simp
theorem any_yes {fs : List Fld} {nm : Bs} {j : Nat} (hj : j < fs.length) (h : sameB nm (fs.getD j ([], [])).1 = true) : fs.any (fun g => sameB g.1 nm) = true := by
  rw [List.any_eq_true]
  refine ⟨fs[j], List.getElem_mem hj, ?_⟩
  rw [sameB_comm]
  simpa [List.getD, List.getElem?_eq_getElem hj] using h
theorem first_two (nm : Bs) {x : Bs} (h : ¬ x = []) : S nm ++ ⟨#[58, 32]⟩ ++ S x = S (firstLine nm x) := by
  rw [show (⟨#[58, 32]⟩ : ByteArray) = S [58, 32] from rfl, S_app, S_app]
  unfold firstLine
  rw [if_neg h]
  simp
theorem line_at (nm : Bs) (ls : List Bs) (i : Nat) {x : Bs} (hx : ls.getD i [] = x) : lineAt (nm, ls) i = if i = 0 then firstLine nm x else nextLine x := by
  unfold lineAt
  rw [← hx]
  split
  · rename_i h; subst h; rfl
  · rfl
theorem fl_next (nm : Bs) (ls : List Bs) {j : Nat} (hj : j < ls.length) : S (fl ((fieldLines (nm, ls)).take (j + 1))) = S (fl ((fieldLines (nm, ls)).take j) ++ (lineAt (nm, ls) j ++ [10])) := by
  rw [take_one (by rw [lines_len]; exact hj), fl_app, lines_at (nm, ls) hj]
  rfl
/-- What the reference's field tells. -/
def YF (fs : List Fld) (f : Fld) (t : Bs) (er : Nat) : Prop := er = fieldErr fs f ∧ t = if fieldErr fs f = 0 then fl (fieldLines f) else []
theorem YF.bad {fs : List Fld} {f : Fld} {er : Nat} (h : fieldErr fs f = er) (h0 : er ≠ 0) : YF fs f [] er := ⟨h.symm, by rw [if_neg (by rw [h]; exact h0)]⟩
theorem YF.good {fs : List Fld} {f : Fld} (h : fieldErr fs f = 0) : YF fs f (fl (fieldLines f)) 0 := ⟨h.symm, by rw [if_pos h]⟩
set_option maxRecDepth 100000 in
set_option maxHeartbeats 4000000 in
theorem yfield_any (nm : Bs) (u : Value) (ls : List Bs) (v : Value) (fs : List Fld) (w : World) (ht : Txt.Texts w u (ls.map S)) (hF : Flds w v fs) (hs : Szd (nm, ls)) (hfs : ∀ f ∈ fs, Szd f) (hcnt : ls.length ≤ 1000000) :
    Calls Tryd.prog 33 #[.agg #[.string (S nm), u], v] w fun e w' => ∃ t er, e = .returned (.tuple #[.string (S t), .int .i64 (er : Nat)]) ∧ YF fs (nm, ls) t er ∧ Below w.heap.size w w' := by
  obtain ⟨hN62, la, lc, rfl, _, _⟩ := id ht
  obtain ⟨hM60, fa, fc, rfl, _, _⟩ := id hF
  obtain ⟨N, hN⟩ : ∃ N, ls.length = N := ⟨_, rfl⟩
  obtain ⟨M, hM⟩ : ∃ M, fs.length = M := ⟨_, rfl⟩
  rw [List.length_map, hN] at hN62 ht ⊢
  rw [hN] at hcnt
  rw [hM] at hM60 hF ⊢
  obtain ⟨W, hW⟩ : ∃ W, w.alloc (.cells #[.string (S nm), .slice la N lc] 42) = W := ⟨_, rfl⟩
  have hbW : Below w.heap.size w W := by rw [← hW]; exact (Below.refl _ _).alloc (Nat.le_refl _) _
  have hiW : Blk.Is W w.heap.size 42 #[.string (S nm), .slice la N lc] := by rw [← hW]; exact Blk.Is.new w _ _
  have z0 : W.cell? ⟨w.heap.size, 0, none⟩ = some (.string (S nm)) := hiW.at rfl
  have z1 : W.cell? ⟨w.heap.size, 1, none⟩ = some (.slice la N lc) := hiW.at rfl
  have hsW : w.heap.size < W.heap.size := by rw [← hW]; simp
  have hsn := S_size nm
  have hnm : nm.length ≤ 140737488351232 := hs.1
  have cn := fun W => yfieldName_any (S (nm ++ [58])) W (by rw [S_size, List.length_append]; show nm.length + 1 ≤ _; omega)
  rw [S_data] at cn
  rw [show S (nm ++ [58]) = S nm ++ ⟨#[58]⟩ from (S_app nm [58]).symm] at cn
  obtain ⟨X, hX⟩ : ∃ X, nameLen (nm ++ [58]) = X := ⟨_, rfl⟩
  rw [hX] at cn
  have CN := Lib.hid cn
  have HT := Lib.hid (ht.below hbW)
  have HF := Lib.hid (hF.below hbW)
  have HBW := Lib.hid hbW
  have HIW := Lib.hid hiW
  have HS := Lib.hid hs
  have HFS := Lib.hid hfs
  have HN := Lib.hid hN
  have HM := Lib.hid hM
  clear cn ht hF hbW hiW hs hfs hN hM
  go_enter Tryd.func33, Tryd.ntmps33
  cases hnb : nameB nm with
  | false =>
    have hne := name_no hnb
    rw [hX] at hne
    have hb0 : (X != (nm.length : Int)) = true := by simpa using hne
    have HNB := Lib.hid hnb
    clear hnb hne hX
    go_wp2_with fail
    clear hW
    go_quiet ((with_reducible exact Calls.quiet_of_same (CN.out _)))
    go_wp2_with fail
    go_ret2
    refine ⟨[], 3, rfl, YF.bad ?_ (by decide), HBW.out.trans ((Txt.drewN_below _ _).mono HBW.out.size)⟩
    unfold fieldErr
    rw [if_pos (by simp [HNB.out])]
  | true =>
    obtain ⟨he1, he2⟩ := name_yes hnb
    rw [hX] at he1
    have hb0 : (X != (nm.length : Int)) = false := by simp [he1]
    have hb1 : ((nm.length : Int) == 0) = false := by
      rw [beq_eq_false_iff_ne]
      omega
    have HNB := Lib.hid hnb
    clear hnb he1 he2 hX
    by_cases hN0 : N = 0
    · have hb2 : ((N : Int) == 0) = true := by subst hN0; rfl
      have HN0 := Lib.hid hN0
      clear hN0
      go_wp2_with fail
      clear hW
      go_quiet ((with_reducible exact Calls.quiet_of_same (CN.out _)))
      go_wp2_with fail
      go_ret2
      refine ⟨[], 3, rfl, YF.bad ?_ (by decide), HBW.out.trans ((Txt.drewN_below _ _).mono HBW.out.size)⟩
      have : ls = [] := List.length_eq_zero_iff.1 (by rw [HN.out]; exact HN0.out)
      unfold fieldErr
      rw [if_pos (by simp [this, textsOK])]
    · have hb2 : ((N : Int) == 0) = false := by
        rw [beq_eq_false_iff_ne]
        omega
      go_wp2_with fail
      clear hW
      go_quiet ((with_reducible exact Calls.quiet_of_same (CN.out _)))
      clear hb0 hb1 hb2 z0 z1
      have bq : Below W.heap.size W (W.drewN nq) := Txt.drewN_below _ _
      have hT1 := HT.out.below bq
      have hF1 := HF.out.below bq
      have hB1 := HBW.out.trans (bq.mono HBW.out.size)
      have hi1 : Blk.Is (W.drewN nq) w.heap.size 42 #[.string (S nm), .slice la N lc] := (bq.block _ hsW).trans HIW.out
      have hs1 : w.heap.size < (W.drewN nq).heap.size := Nat.lt_of_lt_of_le hsW bq.size
      clear HT HF HBW HIW bq hsW
      generalize W.drewN nq = w1 at *
      have HT1 := Lib.hid hT1
      have HF1 := Lib.hid hF1
      have HB1 := Lib.hid hB1
      have HI1 := Lib.hid hi1
      have z1 : w1.cell? ⟨w.heap.size, 1, none⟩ = some (.slice la N lc) := hi1.at rfl
      clear hT1 hF1 hB1 hi1
      go_wp2_with fail
      go_loopw [37] (fun i u => ∃ k : Nat, k ≤ N ∧ i = .int .i64 k ∧ Hid (∀ j, j < k → textAt ls j = true) ∧ Hid (Below w1.heap.size w1 u)) (fun i _ => N - (intOf i).toNat)
      case atStart => exact ⟨0, by omega, rfl, Lib.hid (fun j hj => absurd hj (by omega)), Lib.hid (Below.refl _ _)⟩
      case round =>
        obtain ⟨k, hk, rfl, HP, HB⟩ := hrel
        by_cases hlt : k < N
        · have hkl : k < ls.length := by rw [HN.out]; exact hlt
          obtain ⟨_, la', lc', ea, _, hread⟩ := HT1.out
          simp only [Value.slice.injEq] at ea
          obtain ⟨rfl, eN, rfl⟩ := ea
          clear eN
          obtain ⟨g, off, rfl, hat⟩ := hread (by rw [List.length_map]; omega)
          have hc := hat k (by rw [List.length_map]; exact hkl)
          rw [map_getD ls hkl] at hc
          obtain ⟨x, hx⟩ : ∃ x, ls.getD k [] = x := ⟨_, rfl⟩
          have hxl : x.length ≤ 140737488351232 := by
            rw [← hx]
            exact HS.out.2 _ (by simp [List.getD, List.getElem?_eq_getElem hkl])
          rw [hx] at hc
          rw [← HB.out.cell (Txt.lt_cell hc)] at hc
          have k0 : (0 : Int) ≤ k := by omega
          have k1 : (k : Int) < N := by omega
          have cg := Txt.ygood_any (S x) wr (by rw [S_size]; omega)
          have HKL := Lib.hid hkl
          have HX := Lib.hid hx
          have hb1' := HB1.out.trans (HB.out.mono HB1.out.size)
          have HB1' := Lib.hid hb1'
          clear hat hread hx hkl hb1' z1
          by_cases hgd : goodL x
          · have hge : Txt.good (S x) = -1 := hgd
            rw [hge] at cg
            have CG := Lib.hid cg
            have HGD := Lib.hid hgd
            clear cg hge hgd
            by_cases hk0 : k = 0
            · have HK0 := Lib.hid hk0
              have hb0 : ((k : Int) == 0) = true := by subst hk0; rfl
              have hk1 : ¬ (0 : Int) < k := by omega
              clear hk0
              go_wp2_with fail
              refine CG.out.mono ?_
              rintro e w2 ⟨rfl, rfl⟩
              clear CG
              go_wp2_with fail
              refine (Txt.ytrim_any (S x) w2 (by rw [S_size]; omega)).mono ?_
              rintro e w3 ⟨t, rfl, ht, b3⟩
              have HB3 := Lib.hid (HB.out.trans (b3.mono HB.out.size))
              have HBF := Lib.hid (HB1'.out.trans (b3.mono HB1'.out.size))
              have hse := str_eq t (S x)
              rw [S_data] at ht hse
              rw [ht] at hse
              clear b3 HB ht HB1'
              by_cases hsame : trimL x = x
              · rw [decide_eq_true hsame] at hse
                have HSM := Lib.hid hsame
                clear hsame
                go_wp2_with fail
                refine ⟨⟨k + 1, by omega, by go_num, Lib.hid (fun j hj => ?_), HB3⟩, by simp [intOf]; omega⟩
                rcases Nat.lt_or_ge j k with h | h
                · exact HP.out j h
                · obtain rfl : j = k := by omega
                  unfold textAt
                  rw [if_pos HK0.out, HX.out]
                  simp only [firstOK, Bool.and_eq_true, decide_eq_true_eq]
                  exact ⟨HGD.out, by rw [HSM.out]; simp⟩
              · rw [decide_eq_false hsame] at hse
                have HSM := Lib.hid hsame
                clear hsame
                go_wp2_with fail
                go_ret2
                refine ⟨[], 3, rfl, YF.bad ?_ (by decide), HBF.out⟩
                unfold fieldErr
                rw [if_pos]
                rw [texts_bad HKL.out ?_]
                · simp
                · unfold textAt
                  rw [if_pos HK0.out, HX.out]
                  simp only [firstOK, Bool.and_eq_false_iff]
                  exact .inr (by rw [beq_eq_false_iff_ne]; exact HSM.out)
            · have HK0 := Lib.hid hk0
              have hb0 : ((k : Int) == 0) = false := by
                rw [beq_eq_false_iff_ne]
                omega
              have hk1 : (0 : Int) < k := by omega
              clear hk0
              go_wp2_with fail
              refine CG.out.mono ?_
              rintro e w2 ⟨rfl, rfl⟩
              clear CG
              go_wp2_with fail
              refine (Txt.ytail_any (S x) w2 (by rw [S_size]; omega)).mono ?_
              rintro e w3 ⟨t, rfl, ht, b3⟩
              have HB3 := Lib.hid (HB.out.trans (b3.mono HB.out.size))
              have HBF := Lib.hid (HB1'.out.trans (b3.mono HB1'.out.size))
              have hse := str_eq t (S x)
              have hdt := str_eq_dot (S x)
              rw [S_data] at ht hse hdt
              rw [ht] at hse
              clear b3 HB ht HB1'
              by_cases hsame : trimRight x = x
              · rw [decide_eq_true hsame] at hse
                have HSM := Lib.hid hsame
                clear hsame
                by_cases hdot : x = [46]
                · rw [decide_eq_true hdot] at hdt
                  have HDT := Lib.hid hdot
                  clear hdot
                  go_wp2_with fail
                  go_ret2
                  refine ⟨[], 3, rfl, YF.bad ?_ (by decide), HBF.out⟩
                  unfold fieldErr
                  rw [if_pos]
                  rw [texts_bad HKL.out ?_]
                  · simp
                  · unfold textAt
                    rw [if_neg HK0.out, HX.out]
                    simp only [nextOK, Bool.and_eq_false_iff]
                    exact .inr (by rw [beq_eq_false_iff_ne]; exact fun e => (further_self.1 e).2 HDT.out)
                · rw [decide_eq_false hdot] at hdt
                  have HDT := Lib.hid hdot
                  clear hdot
                  go_wp2_with fail
                  refine ⟨⟨k + 1, by omega, by go_num, Lib.hid (fun j hj => ?_), HB3⟩, by simp [intOf]; omega⟩
                  rcases Nat.lt_or_ge j k with h | h
                  · exact HP.out j h
                  · obtain rfl : j = k := by omega
                    unfold textAt
                    rw [if_neg HK0.out, HX.out]
                    simp only [nextOK, Bool.and_eq_true, decide_eq_true_eq]
                    exact ⟨HGD.out, by rw [further_self.2 ⟨HSM.out, HDT.out⟩]; simp⟩
              · rw [decide_eq_false hsame] at hse
                have HSM := Lib.hid hsame
                clear hsame hdt
                go_wp2_with fail
                go_ret2
                refine ⟨[], 3, rfl, YF.bad ?_ (by decide), HBF.out⟩
                unfold fieldErr
                rw [if_pos]
                rw [texts_bad HKL.out ?_]
                · simp
                · unfold textAt
                  rw [if_neg HK0.out, HX.out]
                  simp only [nextOK, Bool.and_eq_false_iff]
                  exact .inr (by rw [beq_eq_false_iff_ne]; exact fun e => HSM.out (further_self.1 e).1)
          · have hge : ¬ Txt.good (S x) = -1 := hgd
            have hg0 : 0 ≤ Txt.good (S x) := by
              rcases Txt.good_ge (S x) with h | h
              · exact absurd h hge
              · exact h
            have hg1 : ¬ Txt.good (S x) < 0 := by omega
            have CG := Lib.hid cg
            have HGD := Lib.hid hgd
            clear hge hgd cg
            go_wp2_with fail
            refine CG.out.mono ?_
            rintro e w2 ⟨rfl, rfl⟩
            clear CG
            go_wp2_with fail
            go_ret2
            refine ⟨[], 3, rfl, YF.bad ?_ (by decide), HB1'.out⟩
            unfold fieldErr
            rw [if_pos]
            rw [texts_bad HKL.out ?_]
            · simp
            · unfold textAt
              rw [HX.out]
              split <;> simp [firstOK, nextOK, HGD.out]
        · obtain rfl : k = N := by omega
          have HTX := Lib.hid (texts_all (by rw [HN.out]; omega) (fun i hi => HP.out i (by rw [HN.out] at hi; exact hi)))
          have HBK := Lib.hid (HB1.out.trans (HB.out.mono HB1.out.size))
          have HTK := Lib.hid (HT1.out.below HB.out)
          have HFK := Lib.hid (HF1.out.below HB.out)
          have HIK := Lib.hid (show Blk.Is wr w.heap.size 42 #[.string (S nm), .slice la k lc] from (HB.out.block _ hs1).trans HI1.out)
          have hsk : w.heap.size < wr.heap.size := Nat.lt_of_lt_of_le hs1 HB.out.size
          clear HP z1 HB1 HT1 HF1 HI1 hs1 HB
          obtain ⟨wk, hwk⟩ : ∃ wk, wr = wk := ⟨_, rfl⟩
          rw [hwk] at HBK HTK HFK HIK hsk ⊢
          clear hwk
          obtain ⟨z, hz⟩ : ∃ z, w.heap.size = z := ⟨_, rfl⟩
          have HZ := Lib.hid hz
          rw [hz] at hsk HIK ⊢
          clear hz
          go_wp2_with fail
          go_loopw [72] (fun i u => ∃ q : Nat, q ≤ M ∧ i = .int .i64 q ∧ Hid (∀ j, j < q → sameB nm (fs.getD j ([], [])).1 = false) ∧ Hid (Below wk.heap.size wk u)) (fun i _ => M - (intOf i).toNat)
          case atStart => exact ⟨0, by omega, rfl, Lib.hid (fun j hj => absurd hj (by omega)), Lib.hid (Below.refl _ _)⟩
          case round =>
            obtain ⟨q, hq, rfl, HQ, HB⟩ := hrel
            have x0 : wr.cell? ⟨z, 0, none⟩ = some (.string (S nm)) := (show Blk.Is wr z 42 #[.string (S nm), .slice la k lc] from (HB.out.block _ hsk).trans HIK.out).at rfl
            by_cases hql : q < M
            · have hqf : q < fs.length := by rw [HM.out]; exact hql
              obtain ⟨_, fa', fc', ef, _, hfread⟩ := HFK.out
              simp only [Value.slice.injEq] at ef
              obtain ⟨rfl, eF, rfl⟩ := ef
              clear eF
              obtain ⟨fg, foff, rfl, hfat⟩ := hfread (by omega)
              obtain ⟨y0, u, y1, hTg⟩ := hfat q hqf
              obtain ⟨gn, hgn⟩ : ∃ gn, (fs.getD q ([], [])).1 = gn := ⟨_, rfl⟩
              rw [hgn] at y0
              rw [← HB.out.cell (Txt.lt_cell y0)] at y0
              rw [← HB.out.cell (Txt.lt_cell y1)] at y1
              rw [Nat.mul_comm 2 q] at y0 y1
              obtain ⟨_, ga, gc, rfl, _, _⟩ := id hTg
              obtain ⟨gl, hgl⟩ : ∃ gl, ((fs.getD q ([], [])).2.map S).length = gl := ⟨_, rfl⟩
              rw [hgl] at y1
              have q0 : (0 : Int) ≤ q := by omega
              have q1 : (q : Int) < M := by omega
              have cs := fun w => ysame_any (S nm) (S gn) w (by rw [S_size]; omega)
              simp only [sameS_S] at cs
              have CS := Lib.hid cs
              obtain ⟨V, hV⟩ : ∃ V, wr.alloc (.cells #[.string (S gn), .slice ga gl gc] 42) = V := ⟨_, rfl⟩
              have hbV : Below wr.heap.size wr V := by rw [← hV]; exact (Below.refl _ _).alloc (Nat.le_refl _) _
              have hiV : Blk.Is V wr.heap.size 42 #[.string (S gn), .slice ga gl gc] := by rw [← hV]; exact Blk.Is.new wr _ _
              have v0 : V.cell? ⟨wr.heap.size, 0, none⟩ = some (.string (S gn)) := hiV.at rfl
              have v2 : V.cell? ⟨z, 0, none⟩ = some (.string (S nm)) := by rw [hbV.cell (Txt.lt_cell x0)]; exact x0
              have HBV := Lib.hid (HB.out.trans (hbV.mono HB.out.size))
              have HQF := Lib.hid hqf
              have HGN := Lib.hid hgn
              clear hfat hfread hTg hgl cs hbV hiV hqf hgn HB
              go_wp2_with fail
              refine (CS.out _).mono ?_
              rintro e w5 ⟨rfl, nq5, rfl⟩
              have HB5 := Lib.hid (HBV.out.trans ((Txt.drewN_below V nq5).mono HBV.out.size))
              generalize V.drewN nq5 = w5 at *
              clear CS hV v0 v2 HBV x0
              cases hsm : sameB nm gn with
              | true =>
                have HSM := Lib.hid hsm
                clear hsm
                go_wp2_with fail
                go_ret2
                refine ⟨[], 4, rfl, YF.bad ?_ (by decide), HBK.out.trans (HB5.out.mono HBK.out.size)⟩
                unfold fieldErr
                rw [if_neg (by simp [HNB.out, HTX.out]), if_pos (any_yes HQF.out (by rw [HGN.out]; exact HSM.out))]
              | false =>
                have HSM := Lib.hid hsm
                clear hsm
                go_wp2_with fail
                refine ⟨⟨q + 1, by omega, by go_num, Lib.hid (fun j hj => ?_), HB5⟩, by simp [intOf]; omega⟩
                rcases Nat.lt_or_ge j q with h | h
                · exact HQ.out j h
                · obtain rfl : j = q := by omega
                  rw [HGN.out]
                  exact HSM.out
            · obtain rfl : q = M := by omega
              have HNO := Lib.hid (any_no (fun j hj => HQ.out j (by rw [← HM.out]; exact hj)))
              have HBK2 := Lib.hid (HBK.out.trans (HB.out.mono HBK.out.size))
              have HTK2 := Lib.hid (HTK.out.below HB.out)
              have x1 : wr.cell? ⟨z, 1, none⟩ = some (.slice la k lc) := (show Blk.Is wr z 42 #[.string (S nm), .slice la k lc] from (HB.out.block _ hsk).trans HIK.out).at rfl
              have HIK2 := Lib.hid (show Blk.Is wr z 42 #[.string (S nm), .slice la k lc] from (HB.out.block _ hsk).trans HIK.out)
              have hsk2 : z < wr.heap.size := Nat.lt_of_lt_of_le hsk HB.out.size
              clear HQ HB HBK HTK HIK hsk x0 HFK
              obtain ⟨wm, hwm⟩ : ∃ wm, wr = wm := ⟨_, rfl⟩
              rw [hwm] at HBK2 HTK2 HIK2 hsk2 x1 ⊢
              clear hwm
              go_wp2_with fail
              clear x1
-- LAST BEGINS
              go_loopw [10, 85] (fun s10 i u => ∃ (j : Nat) (T : ByteArray), j ≤ k ∧ s10 = .string T ∧ i = .int .i64 j ∧ Hid (T = S (fl ((fieldLines (nm, ls)).take j))) ∧ T.size ≤ 1001 * j ∧ Hid (∀ i, i < j → ¬ 1000 < (lineAt (nm, ls) i).length) ∧ u = wm) (fun _ i _ => k - (intOf i).toNat)
              case atStart => exact ⟨0, _, by omega, rfl, rfl, Lib.hid rfl, by decide, Lib.hid (fun i hi => absurd hi (by omega)), rfl⟩
              case round =>
                obtain ⟨j, T, hj, rfl, rfl, HTE, hTs, HLO, rfl⟩ := hrel
                by_cases hjl : j < k
                · have hjf : j < ls.length := by rw [HN.out]; exact hjl
                  obtain ⟨_, la', lc', ea, _, hread⟩ := HTK2.out
                  simp only [Value.slice.injEq] at ea
                  obtain ⟨rfl, eN, rfl⟩ := ea
                  clear eN
                  obtain ⟨g, off, rfl, hat⟩ := hread (by rw [List.length_map]; omega)
                  have hc := hat j (by rw [List.length_map]; exact hjf)
                  rw [map_getD ls hjf] at hc
                  obtain ⟨x, hx⟩ : ∃ x, ls.getD j [] = x := ⟨_, rfl⟩
                  have hxl : x.length ≤ 140737488351232 := by
                    rw [← hx]
                    exact HS.out.2 _ (by simp [List.getD, List.getElem?_eq_getElem hjf])
                  rw [hx] at hc
                  have HLA := Lib.hid (line_at nm ls j hx)
                  have x0 : wr.cell? ⟨z, 0, none⟩ = some (.string (S nm)) := HIK2.out.at rfl
                  have j0 : (0 : Int) ≤ j := by omega
                  have j1 : (j : Int) < k := by omega
                  have hsx := S_size x
                  have hem := is_empty (S x)
                  rw [S_data] at hem
                  have HJL := Lib.hid hjf
                  have HNX := Lib.hid (fl_next nm ls hjf)
                  clear hat hread hx hjf
                  by_cases hj0 : j = 0
                  · have HJ0 := Lib.hid hj0
                    have hb0 : ((j : Int) == 0) = true := by subst hj0; rfl
                    clear hj0
                    by_cases hxe : x = []
                    · have HXE := Lib.hid hxe
                      rw [decide_eq_true hxe] at hem
                      clear hxe
                      have HLA2 := Lib.hid (show (S nm ++ ⟨#[58]⟩ : ByteArray) = S (lineAt (nm, ls) j) by rw [HLA.out, if_pos HJ0.out, HXE.out]; exact first_nil nm)
                      have hlen : (lineAt (nm, ls) j).length = nm.length + 1 := by
                        have := congrArg ByteArray.size HLA2.out
                        rw [S_size] at this
                        rw [← this]
                        simp only [ByteArray.size_append, S_size]; first | done | rfl | (show _ = _; simp [ByteArray.size]; try omega)
                      have HLEN := Lib.hid hlen
                      clear hlen
                      by_cases hlong : 1000 < nm.length + 1
                      · have hlong' : (1000 : Int) < (nm.length : Int) + 1 := by omega
                        go_wp2_with fail
                        go_ret2
                        refine ⟨[], 2, rfl, YF.bad ?_ (by decide), HBK2.out⟩
                        unfold fieldErr
                        rw [if_neg (by simp [HNB.out, HTX.out]), if_neg (by rw [HNO.out]; simp), if_pos (long_yes (f := (nm, ls)) HJL.out (by rw [HLEN.out]; exact hlong))]
                      · have hlong' : ¬ (1000 : Int) < (nm.length : Int) + 1 := by omega
                        go_wp2_with fail
                        refine ⟨⟨j + 1, _, by omega, rfl, by go_num, Lib.hid ?_, ?_, Lib.hid (fun i hi => ?_), by trivial⟩, by simp [intOf]; omega⟩
                        · have e := HNX.out
                          rw [e, HTE.out, show (S nm ++ ⟨#[58]⟩ : ByteArray) = S (lineAt (nm, ls) j) from HLA2.out, show (⟨#[10]⟩ : ByteArray) = S [10] from rfl, S_app, S_app]
                        · have e1 := HLEN.out
                          have e2 := congrArg ByteArray.size HLA2.out
                          rw [S_size] at e2
                          simp only [ByteArray.size_append] at e2 ⊢
                          rw [e2, show (⟨#[10]⟩ : ByteArray).size = 1 from rfl]
                          omega
                        · rcases Nat.lt_or_ge i j with h | h
                          · exact HLO.out i h
                          · obtain rfl : i = j := by omega
                            rw [HLEN.out]
                            exact hlong
                    · have HXE := Lib.hid hxe
                      rw [decide_eq_false hxe] at hem
                      clear hxe
                      have HLA2 := Lib.hid (show (S nm ++ ⟨#[58, 32]⟩ ++ S x : ByteArray) = S (lineAt (nm, ls) j) by rw [HLA.out, if_pos HJ0.out]; exact first_two nm HXE.out)
                      have hlen : (lineAt (nm, ls) j).length = nm.length + 2 + x.length := by
                        have := congrArg ByteArray.size HLA2.out
                        rw [S_size] at this
                        rw [← this]
                        simp only [ByteArray.size_append, S_size]; first | done | rfl | (show _ = _; simp [ByteArray.size]; try omega)
                      have HLEN := Lib.hid hlen
                      clear hlen
                      by_cases hlong : 1000 < nm.length + 2 + x.length
                      · have hlong' : (1000 : Int) < (nm.length : Int) + 2 + x.length := by omega
                        go_wp2_with fail
                        go_ret2
                        refine ⟨[], 2, rfl, YF.bad ?_ (by decide), HBK2.out⟩
                        unfold fieldErr
                        rw [if_neg (by simp [HNB.out, HTX.out]), if_neg (by rw [HNO.out]; simp), if_pos (long_yes (f := (nm, ls)) HJL.out (by rw [HLEN.out]; exact hlong))]
                      · have hlong' : ¬ (1000 : Int) < (nm.length : Int) + 2 + x.length := by omega
                        go_wp2_with fail
                        refine ⟨⟨j + 1, _, by omega, rfl, by go_num, Lib.hid ?_, ?_, Lib.hid (fun i hi => ?_), by trivial⟩, by simp [intOf]; omega⟩
                        · have e := HNX.out
                          rw [e, HTE.out, show (S nm ++ ⟨#[58, 32]⟩ ++ S x : ByteArray) = S (lineAt (nm, ls) j) from HLA2.out, show (⟨#[10]⟩ : ByteArray) = S [10] from rfl, S_app, S_app]
                        · have e1 := HLEN.out
                          have e2 := congrArg ByteArray.size HLA2.out
                          rw [S_size] at e2
                          simp only [ByteArray.size_append] at e2 ⊢
                          rw [e2, show (⟨#[10]⟩ : ByteArray).size = 1 from rfl]
                          omega
                        · rcases Nat.lt_or_ge i j with h | h
                          · exact HLO.out i h
                          · obtain rfl : i = j := by omega
                            rw [HLEN.out]
                            exact hlong
                  · have HJ0 := Lib.hid hj0
                    have hb0 : ((j : Int) == 0) = false := by rw [beq_eq_false_iff_ne]; omega
                    clear hj0
                    by_cases hxe : x = []
                    · have HXE := Lib.hid hxe
                      rw [decide_eq_true hxe] at hem
                      clear hxe
                      have HLA2 := Lib.hid (show (⟨#[32, 46]⟩ : ByteArray) = S (lineAt (nm, ls) j) by rw [HLA.out, if_neg HJ0.out, HXE.out]; exact rfl)
                      have hlen : (lineAt (nm, ls) j).length = 2 := by
                        have := congrArg ByteArray.size HLA2.out
                        rw [S_size] at this
                        rw [← this]
                        rfl
                      have HLEN := Lib.hid hlen
                      clear hlen
                      go_wp2_with fail
                      refine ⟨⟨j + 1, _, by omega, rfl, by go_num, Lib.hid ?_, ?_, Lib.hid (fun i hi => ?_), by trivial⟩, by simp [intOf]; omega⟩
                      · have e := HNX.out
                        rw [e, HTE.out, show (⟨#[32, 46]⟩ : ByteArray) = S (lineAt (nm, ls) j) from HLA2.out, show (⟨#[10]⟩ : ByteArray) = S [10] from rfl, S_app, S_app]
                      · have e1 := HLEN.out
                        have e2 := congrArg ByteArray.size HLA2.out
                        rw [S_size] at e2
                        simp only [ByteArray.size_append] at e2 ⊢
                        show T.size + (2 + 1) ≤ _
                        omega
                      · rcases Nat.lt_or_ge i j with h | h
                        · exact HLO.out i h
                        · obtain rfl : i = j := by omega
                          rw [HLEN.out]
                          omega
                    · have HXE := Lib.hid hxe
                      rw [decide_eq_false hxe] at hem
                      clear hxe
                      have HLA2 := Lib.hid (show (⟨#[32]⟩ ++ S x : ByteArray) = S (lineAt (nm, ls) j) by rw [HLA.out, if_neg HJ0.out]; exact next_some HXE.out)
                      have hlen : (lineAt (nm, ls) j).length = 1 + x.length := by
                        have := congrArg ByteArray.size HLA2.out
                        rw [S_size] at this
                        rw [← this]
                        simp only [ByteArray.size_append, S_size]; first | done | rfl | (show _ = _; simp [ByteArray.size]; try omega)
                      have HLEN := Lib.hid hlen
                      clear hlen
                      by_cases hlong : 1000 < 1 + x.length
                      · have hlong' : (1000 : Int) < 1 + (x.length : Int) := by omega
                        go_wp2_with fail
                        go_ret2
                        refine ⟨[], 2, rfl, YF.bad ?_ (by decide), HBK2.out⟩
                        unfold fieldErr
                        rw [if_neg (by simp [HNB.out, HTX.out]), if_neg (by rw [HNO.out]; simp), if_pos (long_yes (f := (nm, ls)) HJL.out (by rw [HLEN.out]; exact hlong))]
                      · have hlong' : ¬ (1000 : Int) < 1 + (x.length : Int) := by omega
                        go_wp2_with fail
                        refine ⟨⟨j + 1, _, by omega, rfl, by go_num, Lib.hid ?_, ?_, Lib.hid (fun i hi => ?_), by trivial⟩, by simp [intOf]; omega⟩
                        · have e := HNX.out
                          rw [e, HTE.out, show (⟨#[32]⟩ ++ S x : ByteArray) = S (lineAt (nm, ls) j) from HLA2.out, show (⟨#[10]⟩ : ByteArray) = S [10] from rfl, S_app, S_app]
                        · have e1 := HLEN.out
                          have e2 := congrArg ByteArray.size HLA2.out
                          rw [S_size] at e2
                          simp only [ByteArray.size_append] at e2 ⊢
                          rw [e2, show (⟨#[10]⟩ : ByteArray).size = 1 from rfl]
                          omega
                        · rcases Nat.lt_or_ge i j with h | h
                          · exact HLO.out i h
                          · obtain rfl : i = j := by omega
                            rw [HLEN.out]
                            exact hlong
                · obtain rfl : j = k := by omega
                  go_wp2_with fail
                  go_ret2
                  have hg : fieldErr fs (nm, ls) = 0 := by
                    unfold fieldErr
                    rw [if_neg (by simp [HNB.out, HTX.out]), if_neg (by rw [HNO.out]; simp), if_neg (by rw [long_no (f := (nm, ls)) (fun i hi => HLO.out i (by rw [← HN.out]; exact hi))]; simp)]
                  refine ⟨fl (fieldLines (nm, ls)), 0, ?_, YF.good hg, HBK2.out⟩
                  have e := HTE.out
                  rw [List.take_of_length_le (by rw [lines_len]; show ls.length ≤ _; rw [HN.out]; exact Nat.le_refl _)] at e
                  rw [← e]
                  rfl
-- LAST ENDS
end Stz
end Go.Proofs.YtgolnfgkoolpoaaDoor

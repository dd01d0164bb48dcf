/-
The reference's Stanzas: its contract.
-/
import Derived.Test.YtgolnfgkoolpoaaDoorStzParse
namespace Go.Proofs.YtgolnfgkoolpoaaDoor
open Go.RowKit
set_option linter.unusedSimpArgs false
set_option linter.unusedVariables false
namespace Stz
open Txt (b b_eq b_lt wht trimL trimRight trimLeft)
theorem head_b {x : ByteArray} (h : 0 < x.size) : ∃ c l, x.data.toList = c :: l ∧ c.toNat = b x 0 := by
  obtain ⟨c, h1, h2⟩ := Txt.drop_cons x 0 h
  rw [List.drop_zero] at h1
  exact ⟨c, _, h1, h2⟩
theorem hash_head {x : ByteArray} (h : 0 < x.size) (hb : b x 0 = 35) : x.data.toList.head? = some 35 := by
  obtain ⟨c, l, h1, h2⟩ := head_b h
  rw [h1]
  rw [hb] at h2
  exact congrArg some (UInt8.toNat_inj.1 h2)
theorem no_hash {x : ByteArray} (h : ¬ (0 < x.size ∧ b x 0 = 35)) : x.data.toList.head? ≠ some 35 := by
  intro e
  have hpos : 0 < x.size := by
    have := Txt.len_list x
    cases hq : x.data.toList with
    | nil => rw [hq] at e; cases e
    | cons c l => rw [hq] at this; simp at this; omega
  obtain ⟨c, l, h1, h2⟩ := head_b hpos
  rw [h1] at e
  have := Option.some.inj e
  apply h
  refine ⟨hpos, ?_⟩
  rw [← h2, this]; rfl
theorem take_hash {z : Zip} {x : ByteArray} {n : Int} (h : x.data.toList.head? = some 35) : take z x.data.toList n = .ok z := by
  unfold take; rw [if_pos h]
theorem take_blank {z : Zip} {x : ByteArray} {n : Int} (h : x.data.toList.head? ≠ some 35) (h2 : trimL x.data.toList = []) : take z x.data.toList n = .ok z.close := by
  unfold take; rw [if_neg h, if_pos h2]
theorem take_goOn {z : Zip} {x : ByteArray} {n : Int} (h : x.data.toList.head? ≠ some 35) (h2 : trimL x.data.toList ≠ []) (h3 : Txt.W (x.data.toList.headD 0) = true) : take z x.data.toList n = goOn z x.data.toList.tail := by
  unfold take; rw [if_neg h, if_neg h2, if_pos h3]
theorem take_field {z : Zip} {x : ByteArray} {n : Int} (h : x.data.toList.head? ≠ some 35) (h2 : trimL x.data.toList ≠ []) (h3 : Txt.W (x.data.toList.headD 0) = false) : take z x.data.toList n = field z x.data.toList n := by
  unfold take; rw [if_neg h, if_neg h2, if_neg (by rw [h3]; simp)]
theorem nameLen_cases (l : Bs) : (nameLen l = -1 ∧ ∀ z n, field z l n = .error 3) ∨ ∃ nm r, nameLen l = (nm.length : Int) ∧ l = nm ++ 58 :: r ∧ ∀ z n, field z l n = begin z nm r n := by
  unfold nameLen field
  cases hc : cutL l with
  | none => exact .inl ⟨rfl, fun _ _ => rfl⟩
  | some p =>
    obtain ⟨nm, r⟩ := p
    simp only
    cases hn : nameB nm with
    | false => exact .inl ⟨by simp, fun _ _ => by simp⟩
    | true => exact .inr ⟨nm, r, by simp, (cut_eq hc).1, fun _ _ => by simp⟩
theorem name_parts {x : ByteArray} {nm r : Bs} (h : x.data.toList = nm ++ 58 :: r) : x.extract 0 nm.length = S nm ∧ x.extract (nm.length + 1) x.size = S r ∧ nm.length + 1 ≤ x.size := by
  have hl := congrArg List.length h
  rw [Txt.len_list, List.length_append, List.length_cons] at hl
  refine ⟨S_of ?_, S_of ?_, by omega⟩
  · rw [Txt.ext_list x 0 nm.length (by omega), h]
    simp
  · rw [Txt.ext_list x (nm.length + 1) x.size (Nat.le_refl _), h, ← List.drop_drop, List.drop_left]
    show List.take _ r = r
    rw [List.take_of_length_le (by omega)]
theorem own_any {w : World} {B : Nat} {sv : Value} {done : List Sz} {cur : Option (Int × List Fld × Option Fld)} (h : Mem w B sv done cur) : ∃ a cap, sv = .slice a (done.length + cnt cur) cap := by
  obtain ⟨_, _, _, _, _, _, hown, _⟩ := h
  obtain ⟨a, c, e, _⟩ := own_shape hown
  exact ⟨a, c, e⟩
set_option maxRecDepth 100000 in
set_option maxHeartbeats 16000000 in
theorem ystanzas_any (a : Option Addr) (len cap : Nat) (zs : List Int) (w : World) (hr : Row w a len zs) (hcap : len ≤ cap) :
    Calls Tryd.prog 12 #[.slice a len cap] w fun e w' => ∃ v l er n, e = .returned (.tuple #[v, .agg #[.int .i64 (er : Nat), .int .i64 (n : Nat)]]) ∧ PR (strOfNums zs) l er n ∧ Small l ∧ Stzs w' v l ∧ Below w.heap.size w w' := by
  have HR := Lib.hid hr
  have cl := fun w1 (hb : Below w.heap.size w w1) => Txt.ylines_all a len cap zs w1 (hr.below hb) hcap
  have CL := Lib.hid cl
  clear cl hr hcap
  have hb0 : Below w.heap.size w (w.alloc (.cells #[.int .i64 0, .int .i64 0] 26)) := (Below.refl _ _).alloc (Nat.le_refl _) _
  have HB0 := Lib.hid hb0
  clear hb0
  go_enter Tryd.func12, Tryd.ntmps12
  go_wp2_with fail
  refine (CL.out _ HB0.out).mono ?_
  rintro e w1 ⟨v, ls, er, n, rfl, hlr, hll, htx, b1⟩
  have hw1 : w.heap.size + 1 ≤ w1.heap.size := by have := b1.size; simpa using this
  have hb1 : Below w.heap.size w w1 := HB0.out.trans (b1.mono (by simp))
  have ia1 : Blk.Is w1 w.heap.size 26 #[.int .i64 0, .int .i64 0] := (Blk.Chg.ofBelow' (S := fun _ => False) b1).is (Blk.Is.new w 26 #[.int .i64 0, .int .i64 0]) (by simp)
  have HLR := Lib.hid hlr
  have HLL := Lib.hid hll
  have HTX := Lib.hid htx
  have HB1 := Lib.hid hb1
  have HIA := Lib.hid ia1
  clear b1 hlr htx hb1
  by_cases he : er = 0
  · subst he
    have hne : ((0 : Int) != 0) = false := by simp
    obtain ⟨w2, hw2⟩ : ∃ w2, w1.alloc (.cells #[.int .i64 0, .int .i64 n] 26) = w2 := ⟨_, rfl⟩
    have i2 : Blk.Is w2 w1.heap.size 26 #[.int .i64 0, .int .i64 n] := by rw [← hw2]; exact Blk.Is.new w1 26 #[.int .i64 0, .int .i64 n]
    have hb12 : Below w1.heap.size w1 w2 := by rw [← hw2]; exact (Below.refl _ _).alloc (Nat.le_refl _) _
    have c20 : w2.cell? ⟨w1.heap.size, 0, none⟩ = some (.int .i64 0) := i2.at rfl
    have hb2 : Below w.heap.size w w2 := HB1.out.trans (hb12.mono HB1.out.size)
    have hia2 : Blk.Is w2 w.heap.size 26 #[.int .i64 0, .int .i64 0] := (Blk.Chg.ofBelow' (S := fun _ => False) hb12).is ia1 (by simp)
    have htx2 := HTX.out
    have HB12 := Lib.hid hb12
    have hls : ∀ i, i < ls.length → Txt.E (ls.getD i ByteArray.empty) = 0 := by
      have hlr := HLR.out
      unfold Txt.LR at hlr
      split at hlr
      · exact absurd hlr.2.1 (by decide)
      · rcases hlr with ⟨_, _, _, h⟩ | ⟨_, h, _⟩
        · exact h
        · exact absurd rfl h
    obtain ⟨p, hp⟩ : ∃ p, w2.heap.size = p := ⟨_, rfl⟩
    have HB2 := Lib.hid hb2
    have HIA2 := Lib.hid hia2
    have HLS := Lib.hid hls
    have HPW := Lib.hid (show w.heap.size < p by have := hb12.size; omega)
    have HP1 := Lib.hid (show w1.heap.size ≤ p by have := hb12.size; omega)
    have HP2 := Lib.hid (show p ≤ w2.heap.size by omega)
    obtain ⟨_, av, capv, rfl, hcv, hread⟩ := htx2
    have HREAD := Lib.hid hread
    obtain ⟨L, hL⟩ : ∃ L, ls.length = L := ⟨_, rfl⟩
    have HL := Lib.hid hL
    have hL2 : (L : Int) ≤ 65538 := by omega
    rw [hL] at hll hcv
    rw [hL]
    clear i2 hb12 hb2 hia2 hls hread hw1 ia1 HTX hL hp
    go_wp2_with fail
    clear c20 hw2 hne
    go_loopw [6, 7, 27] (fun sv so i u => ∃ (k : Nat) (z : Zip), k ≤ L ∧ i = .int .i64 k ∧ so = .bool z.cur.isSome ∧ Hid (run start 1 ((bytes ls).take k) = .ok z) ∧ Hid (MemZ u p sv z) ∧ Hid (Fit k z) ∧ Hid (Below p w2 u)) (fun _ _ i _ => L - (intOf i).toNat)
    case atStart => exact ⟨0, start, by omega, rfl, rfl, rfl, mem_start w2 p HP2.out, fit_start, Below.refl _ _⟩
    case round =>
      obtain ⟨k, z, hk, rfl, rfl, HRUN, HMZ, HFIT, HBK⟩ := hrel
      obtain ⟨asv, msv, csv, rfl⟩ : ∃ a m c, u6 = .slice a m c := by obtain ⟨a, c, e⟩ := own_any HMZ.out; exact ⟨a, _, c, e⟩
      by_cases hlt : k < L
      · obtain ⟨gb, off, rfl, hcells⟩ := HREAD.out (by rw [HL.out]; omega)
        have hck := hcells k (by rw [HL.out]; exact hlt)
        have hbu : Below w1.heap.size w1 wr := HB12.out.trans (HBK.out.mono HP1.out)
        rw [← hbu.cell (Txt.lt_cell hck)] at hck
        obtain ⟨x, hx⟩ : ∃ x, ls.getD k ByteArray.empty = x := ⟨_, rfl⟩
        rw [hx] at hck
        have hE := HLS.out k (by rw [HL.out]; exact hlt)
        rw [hx] at hE
        have hxs : x.size ≤ 1000 := by
          unfold Txt.E at hE
          split at hE
          · cases hE
          · omega
        have k0 : (0 : Int) ≤ k := by omega
        have k1 : (k : Int) < L := by omega
        have hbx : (bytes ls).getD k [] = x.data.toList := by
          unfold bytes
          have : k < ls.length := by rw [HL.out]; exact hlt
          rw [← hx]
          simp [List.getD, this]
        have hkl : k < (bytes ls).length := by unfold bytes; rw [List.length_map, HL.out]; exact hlt
        have hsn := run_snoc hkl z HRUN.out
        rw [hbx] at hsn
        have hbd := fun c => @run_bad (bytes ls) k hkl z c HRUN.out
        rw [hbx] at hbd
        have hft := fun z' => @fit_take k z z' x.data.toList ((k : Int) + 1) HFIT.out (by rw [Txt.len_list]; omega)
        have HSN := Lib.hid hsn
        have HBD := Lib.hid hbd
        have HFT := Lib.hid hft
        have hxi : (x.size : Int) ≤ 1000 := by omega
        clear hx hE hbx hkl hsn hbd hft hcells hbu
        by_cases hh : 0 < x.size ∧ b x 0 = 35
        · obtain ⟨hp0, hb0⟩ := hh
          have hp0' : (0 : Int) < (x.size : Int) := by omega
          have hbb : ((x[0]'hp0).toNat : Int) = 35 := by have := b_eq x 0 hp0; omega
          have ht := take_hash (z := z) (n := (k : Int) + 1) (hash_head hp0 hb0)
          have HRUN2 : Hid (run start 1 ((bytes ls).take (k + 1)) = .ok z) := by have := HSN.out; rw [ht] at this; exact this
          have HFIT2 := Lib.hid (HFT.out z ht)
          clear ht hb0
          go_wp2_with fail
          refine ⟨⟨k + 1, z, by omega, by go_num, rfl, HRUN2, HMZ, HFIT2, HBK⟩, ?_⟩
          simp [intOf]; omega
        · have hnh := no_hash hh
          have HBZ := Lib.hid (show p ≤ wr.heap.size from Nat.le_trans HP2.out HBK.out.size)
          have cyt := Txt.ytrim_any x wr (by omega)
          have CYT := Lib.hid cyt
          clear cyt
          by_cases h2 : trimL x.data.toList = []
          · have ht := take_blank (z := z) (n := (k : Int) + 1) hnh h2
            have HRUN2 : Hid (run start 1 ((bytes ls).take (k + 1)) = .ok z.close) := by have := HSN.out; rw [ht] at this; exact this
            have HFIT2 := Lib.hid (HFT.out z.close ht)
            have H2 := Lib.hid h2
            have hcs : z.close.cur.isSome = false := by
              obtain ⟨d, q⟩ := z
              cases q <;> rfl
            have HCS := Lib.hid hcs
            clear ht h2 hcs
            by_cases hp0 : 0 < x.size
            · have hp0' : (0 : Int) < (x.size : Int) := by omega
              have hbb := b_eq x 0 hp0
              have hbl := b_lt x 0
              obtain ⟨c, hc⟩ : ∃ c, b x 0 = c := ⟨_, rfl⟩
              rw [hc] at hbb hh hbl
              have hc35 : ((c : Int) == 35) = false := by rw [beq_eq_false_iff_ne]; omega
              clear hc
              go_wp2_with fail
              refine CYT.out.mono ?_
              rintro e w5 ⟨t, rfl, ht, b5⟩
              have hem := eq_empty t
              rw [ht, decide_eq_true H2.out] at hem
              have HM5 := Lib.hid (MemZ.close (Mem.below HMZ.out b5))
              have HB5 := Lib.hid (HBK.out.trans (b5.mono HBZ.out))
              clear ht b5
              go_wp2_with fail
              refine ⟨⟨k + 1, z.close, by omega, by go_num, by rw [HCS.out], HRUN2, HM5, HFIT2, HB5⟩, ?_⟩
              simp [intOf]; omega
            · have hp0' : ¬ (0 : Int) < (x.size : Int) := by omega
              go_wp2_with fail
              refine CYT.out.mono ?_
              rintro e w5 ⟨t, rfl, ht, b5⟩
              have hem := eq_empty t
              rw [ht, decide_eq_true H2.out] at hem
              have HM5 := Lib.hid (MemZ.close (Mem.below HMZ.out b5))
              have HB5 := Lib.hid (HBK.out.trans (b5.mono HBZ.out))
              clear ht b5
              go_wp2_with fail
              refine ⟨⟨k + 1, z.close, by omega, by go_num, by rw [HCS.out], HRUN2, HM5, HFIT2, HB5⟩, ?_⟩
              simp [intOf]; omega
          · have H2 := Lib.hid h2
            have hp0 : 0 < x.size := by
              have := Txt.len_list x
              cases hq : x.data.toList with
              | nil => rw [hq] at h2; exact absurd rfl h2
              | cons c l => rw [hq] at this; simp at this; omega
            have hp0' : (0 : Int) < (x.size : Int) := by omega
            have hp1' : (1 : Int) ≤ (x.size : Int) := by omega
            have hbb := b_eq x 0 hp0
            have hbl := b_lt x 0
            obtain ⟨y1, y2, y3, y4⟩ := head_take x hp0
            obtain ⟨c, hc⟩ : ∃ c, b x 0 = c := ⟨_, rfl⟩
            rw [hc] at hbb hh hbl y4
            have hc35 : ((c : Int) == 35) = false := by rw [beq_eq_false_iff_ne]; omega
            have HTL := Lib.hid y3
            clear hc y1 y2 y3
            cases hw : wht c with
            | true =>
              rw [hw] at y4
              have htk := fun n => take_goOn (z := z) (n := n) hnh h2 y4
              have HTK := Lib.hid htk
              have HW := Lib.hid hw
              clear htk y4 h2 hnh hw
              obtain ⟨d, q⟩ := z
              cases q with
              | none =>
                have HRX : Hid (run start 1 (bytes ls) = .error (3, k + 1)) := HBD.out 3 (HTK.out _)
                go_wp2_with fail
                refine CYT.out.mono ?_
                rintro e w5 ⟨t, rfl, ht, b5⟩
                have hem := eq_empty t
                rw [ht, decide_eq_false H2.out] at hem
                have HM5 := Lib.hid (Mem.below HMZ.out b5)
                have HB5 := Lib.hid (HBK.out.trans (b5.mono HBZ.out))
                have HBZ5 := Lib.hid (Nat.le_trans HBZ.out b5.size)
                clear ht b5
                go_wp2_with fail
                refine (Txt.ywhite_any c w5).mono ?_
                rintro e w6 ⟨rfl, rfl⟩
                rw [HW.out]
                have hia5 : Blk.Is w6 w.heap.size 26 #[.int .i64 0, .int .i64 0] := (HB5.out.block _ HPW.out).trans HIA2.out
                have r50 : w6.cell? ⟨w.heap.size, 0, none⟩ = some (.int .i64 0) := hia5.at rfl
                have r51 : w6.cell? ⟨w.heap.size, 1, none⟩ = some (.int .i64 0) := hia5.at rfl
                have f50 := hia5.free 0
                have f51 := hia5.free 1
                have HIA5 := Lib.hid hia5
                clear hia5
                repeat (first | go_values | go_skip | go_guarded | go_step | go_upon | (simp only [Int.not_lt, Int.not_le] at *; go_simp))
                have hF : Blk.Is ((w6.setCell ⟨w.heap.size, 0, none⟩ (.int .i64 3)).setCell ⟨w.heap.size, 1, none⟩ (.int .i64 ((k : Int) + 1))) w.heap.size 26 #[.int .i64 3, .int .i64 ((k : Int) + 1)] := Txt.two_set HIA5.out _ _
                have hBF : Below w.heap.size w ((w6.setCell ⟨w.heap.size, 0, none⟩ (.int .i64 3)).setCell ⟨w.heap.size, 1, none⟩ (.int .i64 ((k : Int) + 1))) :=
                  (((HB2.out.trans (HB5.out.mono (Nat.le_of_lt HPW.out)))).setCell (p := ⟨w.heap.size, 0, none⟩) (Nat.le_refl _) _).setCell (p := ⟨w.heap.size, 1, none⟩) (Nat.le_refl _) _
                obtain ⟨V9, hV9⟩ : ∃ V9, ((w6.setCell ⟨w.heap.size, 0, none⟩ (.int .i64 3)).setCell ⟨w.heap.size, 1, none⟩ (.int .i64 ((k : Int) + 1))) = V9 := ⟨_, rfl⟩
                rw [hV9] at hF hBF ⊢
                have j0 : V9.cell? ⟨w.heap.size, 0, none⟩ = some (.int .i64 3) := hF.at rfl
                have j1 : V9.cell? ⟨w.heap.size, 1, none⟩ = some (.int .i64 ((k : Int) + 1)) := hF.at rfl
                clear r50 r51 f50 f51 hV9
                refine bodyPost_ret (by simp [results, Tryd.results12, go_sem, j0, j1]; try rfl) rfl ?_
                refine ⟨_, [], 3, k + 1, rfl, ⟨ls, 0, n, HLR.out, .inr ⟨rfl, ?_⟩⟩, ⟨by simp, fun s hs => by cases hs⟩, Stzs.none _, hBF⟩
                unfold parse
                rw [HRX.out]
              | some q =>
                obtain ⟨n0, fs, nm, lls⟩ := q
                have ht : take ⟨d, some (n0, fs, (nm, lls))⟩ x.data.toList ((k : Int) + 1) = .ok ⟨d, some (n0, fs, (nm, lls ++ [further x.data.toList.tail]))⟩ := HTK.out _
                have HRUN2 : Hid (run start 1 ((bytes ls).take (k + 1)) = .ok ⟨d, some (n0, fs, (nm, lls ++ [further x.data.toList.tail]))⟩) := by have := HSN.out; rw [ht] at this; exact this
                have HFIT2 := Lib.hid (HFT.out _ ht)
                clear ht
                go_wp2_with fail
                refine CYT.out.mono ?_
                rintro e w5 ⟨t, rfl, ht, b5⟩
                have hem := eq_empty t
                rw [ht, decide_eq_false H2.out] at hem
                have HM5 := Lib.hid (Mem.below HMZ.out b5)
                have HB5 := Lib.hid (HBK.out.trans (b5.mono HBZ.out))
                have HBZ5 := Lib.hid (Nat.le_trans HBZ.out b5.size)
                clear ht b5
                go_wp2_with fail
                refine (Txt.ywhite_any c w5).mono ?_
                rintro e w6 ⟨rfl, rfl⟩
                rw [HW.out]
                have hxs2 : (x.extract 1 x.size).size ≤ 9223372036854775807 := by simp [ByteArray.size_extract]; omega
                have cyl := Txt.ytail_any (x.extract 1 x.size) w6 hxs2
                have CYL := Lib.hid cyl
                clear cyl hxs2
                go_wp2_with fail
                refine CYL.out.mono ?_
                rintro e w7 ⟨t2, rfl, ht2, b7⟩
                rw [HTL.out] at ht2
                have HB7 := Lib.hid (HB5.out.trans (b7.mono HBZ5.out))
                have HBZ7 := Lib.hid (Nat.le_trans HBZ5.out b7.size)
                have HM7 := Lib.hid (Mem.below HM5.out b7)
                clear b7
                have hdq := str_eq_dot t2
                have hfu : further x.data.toList.tail = if trimRight x.data.toList.tail = [46] then [] else trimRight x.data.toList.tail := rfl
                have hff := HFIT.out.2.2 n0 fs (nm, lls) rfl
                have hll2 := (hff.2.2 (nm, lls) (by simp)).2
                have hfl2 := hff.2.1
                have hdl2 := HFIT.out.1
                simp only at hll2 hfl2 hdl2
                by_cases hdot : t2.data.toList = [46]
                · rw [decide_eq_true hdot] at hdq
                  rw [← ht2, if_pos hdot] at hfu
                  have HFU := Lib.hid (show (⟨#[]⟩ : ByteArray) = S (further x.data.toList.tail) by rw [hfu]; rfl)
                  clear hdot hfu ht2 hff
                  obtain ⟨g, capS, gf, capf, C, u, esv, d1, d2, hC1, hC2, hown, hput⟩ := Mem.goOn (nm := nm) (ls := lls) HM7.out
                  simp only [Value.slice.injEq] at esv
                  obtain ⟨rfl, hmsv, rfl⟩ := esv
                  obtain ⟨ua, ucap, rfl, _⟩ := own_shape hown
                  obtain ⟨D, hD⟩ : ∃ D, d.length = D := ⟨_, rfl⟩
                  obtain ⟨Fn, hFn⟩ : ∃ Fn, fs.length = Fn := ⟨_, rfl⟩
                  have HD := Lib.hid hD
                  have HFn := Lib.hid hFn
                  rw [hD] at d1 hmsv hdl2
                  rw [hFn] at d1 d2 hfl2
                  subst hmsv
                  rw [Nat.mul_comm 2 D] at d1
                  rw [Nat.mul_comm 2 Fn] at d2
                  have HOWN := Lib.hid hown
                  have HPUT := Lib.hid hput
                  have k4 : (D : Int) < (D : Int) + 1 := by omega
                  have k5 : (Fn : Int) < (Fn : Int) + 1 := by omega
                  have k6 : (0 : Int) ≤ D := by omega
                  have k7 : (0 : Int) ≤ Fn := by omega
                  have k8 : (D : Int) ≤ 200 := by omega
                  have k9 : (Fn : Int) ≤ 40 := by omega
                  obtain ⟨w8, hw8⟩ : ∃ w8, w7.alloc (.cells #[.string ⟨#[]⟩] 9) = w8 := ⟨_, rfl⟩
                  have hb78 : Below w7.heap.size w7 w8 := by rw [← hw8]; exact (Below.refl _ _).alloc (Nat.le_refl _) _
                  have hcell : w8.cell? ⟨w7.heap.size, 0, none⟩ = some (.string ⟨#[]⟩) := by rw [← hw8]; exact (Blk.Is.new w7 9 #[.string ⟨#[]⟩]).at rfl
                  have ho8 := Own.owns_below HOWN.out hb78
                  have HB78 := Lib.hid hb78
                  have HO8 := Lib.hid ho8
                  have HCELL := Lib.hid hcell
                  have HW8 := Lib.hid hw8
                  have hC8 : C ≤ w8.heap.size := Nat.le_trans hC2 hb78.size
                  clear hown hput hD hFn hb78 hcell ho8 hw8
                  go_wp2_with (at_builtin; rw [HW8.out]; refine Txt.append_text rfl (.tmp 76) (.tmp 78) rfl C (.slice ua lls.length ucap) (lls.map S) rfl (by rw [List.length_map]; exact HO8.out) ⟨w7.heap.size, 0, none⟩ 1 rfl ⟨#[]⟩ HCELL.out (by rw [List.length_map]; omega) hC8 ?_; intro v' w9 h4 h5; simp only [List.length_append, List.length_map, List.length_singleton] at h4; obtain ⟨a4, c4, rfl, _⟩ := own_shape h4; have hg := HPUT.out w8 HB78.out w9 h5; obtain ⟨⟨e1, e2⟩, e3⟩ := hg; have e4 := e3 (further x.data.toList.tail) _ (by (have := h4); rw [List.map_append, HFU.out] at this; exact this); rw [HFn.out, Nat.mul_comm 2 Fn] at e1 e2 e4; have E4 := Lib.hid e4; clear h4 h5 e3 e4 d1 d2)
                  obtain ⟨w10, hw10⟩ : ∃ w10, w10 = w9.setCell ⟨gf, Fn * 2 + 1, none⟩ (.slice a4 (lls.length + 1) c4) := ⟨_, rfl⟩
                  rw [← hw10]
                  have hm10 : MemZ w10 p (.slice (some ⟨g, 0, none⟩) (D + 1) csv) ⟨d, some (n0, fs, (nm, lls ++ [further x.data.toList.tail]))⟩ := by rw [hw10]; exact E4.out.1
                  have HM10 := Lib.hid hm10
                  refine ⟨⟨k + 1, ⟨d, some (n0, fs, (nm, lls ++ [further x.data.toList.tail]))⟩, by omega, by go_num, rfl, HRUN2, HM10, HFIT2, ?_⟩, ?_⟩
                  · rw [hw10]; exact (HB7.out.trans (HB78.out.mono HBZ7.out)).trans E4.out.2.below
                  · simp [intOf]; omega
                · rw [decide_eq_false hdot] at hdq
                  rw [← ht2, if_neg hdot] at hfu
                  have HFU := Lib.hid (show t2 = S (further x.data.toList.tail) by rw [hfu]; exact (S_self t2).symm)
                  clear hdot hfu ht2 hff
                  obtain ⟨g, capS, gf, capf, C, u, esv, d1, d2, hC1, hC2, hown, hput⟩ := Mem.goOn (nm := nm) (ls := lls) HM7.out
                  simp only [Value.slice.injEq] at esv
                  obtain ⟨rfl, hmsv, rfl⟩ := esv
                  obtain ⟨ua, ucap, rfl, _⟩ := own_shape hown
                  obtain ⟨D, hD⟩ : ∃ D, d.length = D := ⟨_, rfl⟩
                  obtain ⟨Fn, hFn⟩ : ∃ Fn, fs.length = Fn := ⟨_, rfl⟩
                  have HD := Lib.hid hD
                  have HFn := Lib.hid hFn
                  rw [hD] at d1 hmsv hdl2
                  rw [hFn] at d1 d2 hfl2
                  subst hmsv
                  rw [Nat.mul_comm 2 D] at d1
                  rw [Nat.mul_comm 2 Fn] at d2
                  have HOWN := Lib.hid hown
                  have HPUT := Lib.hid hput
                  have k4 : (D : Int) < (D : Int) + 1 := by omega
                  have k5 : (Fn : Int) < (Fn : Int) + 1 := by omega
                  have k6 : (0 : Int) ≤ D := by omega
                  have k7 : (0 : Int) ≤ Fn := by omega
                  have k8 : (D : Int) ≤ 200 := by omega
                  have k9 : (Fn : Int) ≤ 40 := by omega
                  obtain ⟨w8, hw8⟩ : ∃ w8, w7.alloc (.cells #[.string t2] 9) = w8 := ⟨_, rfl⟩
                  have hb78 : Below w7.heap.size w7 w8 := by rw [← hw8]; exact (Below.refl _ _).alloc (Nat.le_refl _) _
                  have hcell : w8.cell? ⟨w7.heap.size, 0, none⟩ = some (.string t2) := by rw [← hw8]; exact (Blk.Is.new w7 9 #[.string t2]).at rfl
                  have ho8 := Own.owns_below HOWN.out hb78
                  have HB78 := Lib.hid hb78
                  have HO8 := Lib.hid ho8
                  have HCELL := Lib.hid hcell
                  have HW8 := Lib.hid hw8
                  have hC8 : C ≤ w8.heap.size := Nat.le_trans hC2 hb78.size
                  clear hown hput hD hFn hb78 hcell ho8 hw8
                  go_wp2_with (at_builtin; rw [HW8.out]; refine Txt.append_text rfl (.tmp 76) (.tmp 78) rfl C (.slice ua lls.length ucap) (lls.map S) rfl (by rw [List.length_map]; exact HO8.out) ⟨w7.heap.size, 0, none⟩ 1 rfl t2 HCELL.out (by rw [List.length_map]; omega) hC8 ?_; intro v' w9 h4 h5; simp only [List.length_append, List.length_map, List.length_singleton] at h4; obtain ⟨a4, c4, rfl, _⟩ := own_shape h4; have hg := HPUT.out w8 HB78.out w9 h5; obtain ⟨⟨e1, e2⟩, e3⟩ := hg; have e4 := e3 (further x.data.toList.tail) _ (by (have := h4); rw [List.map_append, HFU.out] at this; exact this); rw [HFn.out, Nat.mul_comm 2 Fn] at e1 e2 e4; have E4 := Lib.hid e4; clear h4 h5 e3 e4 d1 d2)
                  obtain ⟨w10, hw10⟩ : ∃ w10, w10 = w9.setCell ⟨gf, Fn * 2 + 1, none⟩ (.slice a4 (lls.length + 1) c4) := ⟨_, rfl⟩
                  rw [← hw10]
                  have hm10 : MemZ w10 p (.slice (some ⟨g, 0, none⟩) (D + 1) csv) ⟨d, some (n0, fs, (nm, lls ++ [further x.data.toList.tail]))⟩ := by rw [hw10]; exact E4.out.1
                  have HM10 := Lib.hid hm10
                  refine ⟨⟨k + 1, ⟨d, some (n0, fs, (nm, lls ++ [further x.data.toList.tail]))⟩, by omega, by go_num, rfl, HRUN2, HM10, HFIT2, ?_⟩, ?_⟩
                  · rw [hw10]; exact (HB7.out.trans (HB78.out.mono HBZ7.out)).trans E4.out.2.below
                  · simp [intOf]; omega
            | false =>
              rw [hw] at y4
              have htk := fun n => take_field (z := z) (n := n) hnh h2 y4
              have HTK := Lib.hid htk
              have HW := Lib.hid hw
              clear htk y4 h2 hnh hw
              rcases nameLen_cases x.data.toList with ⟨hN, hfld⟩ | ⟨nm, r, hN, hxe, hfld⟩
              · have HRX : Hid (run start 1 (bytes ls) = .error (3, k + 1)) := HBD.out 3 (by rw [HTK.out, hfld])
                have cfn := fun w => yfieldName_any x w (by omega)
                rw [hN] at cfn
                have CFN := Lib.hid cfn
                clear cfn hN hfld
                go_wp2_with fail
                refine CYT.out.mono ?_
                rintro e w5 ⟨t, rfl, ht, b5⟩
                have hem := eq_empty t
                rw [ht, decide_eq_false H2.out] at hem
                have HM5 := Lib.hid (Mem.below HMZ.out b5)
                have HB5 := Lib.hid (HBK.out.trans (b5.mono HBZ.out))
                have HBZ5 := Lib.hid (Nat.le_trans HBZ.out b5.size)
                clear ht b5
                go_wp2_with fail
                refine (Txt.ywhite_any c w5).mono ?_
                rintro e w6 ⟨rfl, rfl⟩
                rw [HW.out]
                have hia5 : Blk.Is w6 w.heap.size 26 #[.int .i64 0, .int .i64 0] := (HB5.out.block _ HPW.out).trans HIA2.out
                have r50 : w6.cell? ⟨w.heap.size, 0, none⟩ = some (.int .i64 0) := hia5.at rfl
                have r51 : w6.cell? ⟨w.heap.size, 1, none⟩ = some (.int .i64 0) := hia5.at rfl
                have f50 := hia5.free 0
                have f51 := hia5.free 1
                have HIA5 := Lib.hid hia5
                clear hia5
                go_wp2_with fail
                refine (CFN.out _).mono ?_
                rintro e w7 ⟨rfl, rfl⟩
                repeat (first | go_values | go_skip | go_guarded | go_step | go_upon | (simp only [Int.not_lt, Int.not_le] at *; go_simp))
                have hF : Blk.Is ((w7.setCell ⟨w.heap.size, 0, none⟩ (.int .i64 3)).setCell ⟨w.heap.size, 1, none⟩ (.int .i64 ((k : Int) + 1))) w.heap.size 26 #[.int .i64 3, .int .i64 ((k : Int) + 1)] := Txt.two_set HIA5.out _ _
                have hBF : Below w.heap.size w ((w7.setCell ⟨w.heap.size, 0, none⟩ (.int .i64 3)).setCell ⟨w.heap.size, 1, none⟩ (.int .i64 ((k : Int) + 1))) :=
                  (((HB2.out.trans (HB5.out.mono (Nat.le_of_lt HPW.out)))).setCell (p := ⟨w.heap.size, 0, none⟩) (Nat.le_refl _) _).setCell (p := ⟨w.heap.size, 1, none⟩) (Nat.le_refl _) _
                obtain ⟨V9, hV9⟩ : ∃ V9, ((w7.setCell ⟨w.heap.size, 0, none⟩ (.int .i64 3)).setCell ⟨w.heap.size, 1, none⟩ (.int .i64 ((k : Int) + 1))) = V9 := ⟨_, rfl⟩
                rw [hV9] at hF hBF ⊢
                have j0 : V9.cell? ⟨w.heap.size, 0, none⟩ = some (.int .i64 3) := hF.at rfl
                have j1 : V9.cell? ⟨w.heap.size, 1, none⟩ = some (.int .i64 ((k : Int) + 1)) := hF.at rfl
                clear r50 r51 f50 f51 hV9
                refine bodyPost_ret (by simp [results, Tryd.results12, go_sem, j0, j1]; try rfl) rfl ?_
                refine ⟨_, [], 3, k + 1, rfl, ⟨ls, 0, n, HLR.out, .inr ⟨rfl, ?_⟩⟩, ⟨by simp, fun s hs => by cases hs⟩, Stzs.none _, hBF⟩
                unfold parse
                rw [HRX.out]
              · obtain ⟨hp1, hp2, hp3⟩ := name_parts hxe
                have cfn := fun w => yfieldName_any x w (by omega)
                rw [hN] at cfn
                have CFN := Lib.hid cfn
                have HTF : Hid (∀ n, take z x.data.toList n = begin z nm r n) := fun n => (HTK.out n).trans (hfld z n)
                have hlen := congrArg List.length hxe
                rw [Txt.len_list, List.length_append, List.length_cons] at hlen
                have hrl : r.length ≤ 1000 := by omega
                obtain ⟨N, hNN⟩ : ∃ N, nm.length = N := ⟨_, rfl⟩
                have hNk : N + 1 ≤ x.size := by omega
                have hNl : N ≤ 1000 := by omega
                have HE1 : Hid (x.extract 0 N = S nm) := by rw [← hNN]; exact hp1
                have HE2 : Hid (x.extract (N + 1) x.size = S r) := by rw [← hNN]; exact hp2
                rw [hNN] at CFN
                have n0 : (0 : Int) ≤ (N : Int) := by omega
                have n1 : (N : Int) ≤ (x.size : Int) := by omega
                have n2 : (N : Int) + 1 ≤ (x.size : Int) := by omega
                have n3 : ¬ (N : Int) < 0 := by omega
                clear cfn hN hfld hp1 hp2 hp3 hxe hlen hNN
                obtain ⟨d, q⟩ := z
                cases q with
                | none =>
                  have hdl := HFIT.out.1
                  simp only at hdl
                  obtain ⟨D, hD⟩ : ∃ D, d.length = D := ⟨_, rfl⟩
                  have HD := Lib.hid hD
                  rw [hD] at hdl
                  have hmsv : msv = D := by
                    obtain ⟨a', c', e'⟩ := own_any HMZ.out
                    simp only [Value.slice.injEq] at e'
                    rw [e'.2.1, ← hD]
                    rfl
                  subst hmsv
                  clear hD
                  by_cases h200 : msv = 200
                  · have h200' : ((msv : Int) == 200) = true := by simp [h200]
                    have HRX : Hid (run start 1 (bytes ls) = .error (12, k + 1)) := HBD.out 12 (by rw [HTF.out]; unfold begin; simp only; rw [if_pos (by rw [HD.out]; exact h200)])
                    go_wp2_with fail
                    refine CYT.out.mono ?_
                    rintro e w5 ⟨t, rfl, ht, b5⟩
                    have hem := eq_empty t
                    rw [ht, decide_eq_false H2.out] at hem
                    have HM5 := Lib.hid (Mem.below HMZ.out b5)
                    have HB5 := Lib.hid (HBK.out.trans (b5.mono HBZ.out))
                    have HBZ5 := Lib.hid (Nat.le_trans HBZ.out b5.size)
                    clear ht b5
                    go_wp2_with fail
                    refine (Txt.ywhite_any c w5).mono ?_
                    rintro e w6 ⟨rfl, rfl⟩
                    rw [HW.out]
                    have hia5 : Blk.Is w6 w.heap.size 26 #[.int .i64 0, .int .i64 0] := (HB5.out.block _ HPW.out).trans HIA2.out
                    have r50 : w6.cell? ⟨w.heap.size, 0, none⟩ = some (.int .i64 0) := hia5.at rfl
                    have r51 : w6.cell? ⟨w.heap.size, 1, none⟩ = some (.int .i64 0) := hia5.at rfl
                    have f50 := hia5.free 0
                    have f51 := hia5.free 1
                    have HIA5 := Lib.hid hia5
                    clear hia5
                    go_wp2_with fail
                    refine (CFN.out _).mono ?_
                    rintro e w7 ⟨rfl, rfl⟩
                    repeat (first | go_values | go_skip | go_guarded | go_step | go_upon | (simp only [Int.not_lt, Int.not_le] at *; go_simp))
                    have hF : Blk.Is ((w7.setCell ⟨w.heap.size, 0, none⟩ (.int .i64 12)).setCell ⟨w.heap.size, 1, none⟩ (.int .i64 ((k : Int) + 1))) w.heap.size 26 #[.int .i64 12, .int .i64 ((k : Int) + 1)] := Txt.two_set HIA5.out _ _
                    have hBF : Below w.heap.size w ((w7.setCell ⟨w.heap.size, 0, none⟩ (.int .i64 12)).setCell ⟨w.heap.size, 1, none⟩ (.int .i64 ((k : Int) + 1))) :=
                      (((HB2.out.trans (HB5.out.mono (Nat.le_of_lt HPW.out)))).setCell (p := ⟨w.heap.size, 0, none⟩) (Nat.le_refl _) _).setCell (p := ⟨w.heap.size, 1, none⟩) (Nat.le_refl _) _
                    obtain ⟨V9, hV9⟩ : ∃ V9, ((w7.setCell ⟨w.heap.size, 0, none⟩ (.int .i64 12)).setCell ⟨w.heap.size, 1, none⟩ (.int .i64 ((k : Int) + 1))) = V9 := ⟨_, rfl⟩
                    rw [hV9] at hF hBF ⊢
                    have j0 : V9.cell? ⟨w.heap.size, 0, none⟩ = some (.int .i64 12) := hF.at rfl
                    have j1 : V9.cell? ⟨w.heap.size, 1, none⟩ = some (.int .i64 ((k : Int) + 1)) := hF.at rfl
                    clear r50 r51 f50 f51 hV9
                    refine bodyPost_ret (by simp [results, Tryd.results12, go_sem, j0, j1]; try rfl) rfl ?_
                    refine ⟨_, [], 12, k + 1, rfl, ⟨ls, 0, n, HLR.out, .inr ⟨rfl, ?_⟩⟩, ⟨by simp, fun s hs => by cases hs⟩, Stzs.none _, hBF⟩
                    unfold parse
                    rw [HRX.out]
                  · have h200' : ((msv : Int) == 200) = false := by rw [beq_eq_false_iff_ne]; omega
                    go_wp2_with fail
                    refine CYT.out.mono ?_
                    rintro e w5 ⟨t, rfl, ht, b5⟩
                    have hem := eq_empty t
                    rw [ht, decide_eq_false H2.out] at hem
                    have HM5 := Lib.hid (Mem.below HMZ.out b5)
                    have HB5 := Lib.hid (HBK.out.trans (b5.mono HBZ.out))
                    have HBZ5 := Lib.hid (Nat.le_trans HBZ.out b5.size)
                    clear ht b5
                    go_wp2_with fail
                    refine (Txt.ywhite_any c w5).mono ?_
                    rintro e w6 ⟨rfl, rfl⟩
                    rw [HW.out]
                    go_wp2_with fail
                    refine (CFN.out _).mono ?_
                    rintro e w7 ⟨rfl, rfl⟩
                    have hm5 : Mem w7 p (.slice asv msv csv) d none := HM5.out
                    obtain ⟨W8, hW8⟩ : ∃ W8, w7.alloc (.cells #[.int .i64 ((k : Int) + 1), .slice none 0 0] 37) = W8 := ⟨_, rfl⟩
                    have hb8 : Below w7.heap.size w7 W8 := by rw [← hW8]; exact (Below.refl _ _).alloc (Nat.le_refl _) _
                    have ha0 : W8.cell? ⟨w7.heap.size, 0, none⟩ = some (.int .i64 ((k : Int) + 1)) := by rw [← hW8]; exact (Blk.Is.new w7 37 #[.int .i64 ((k : Int) + 1), .slice none 0 0]).at rfl
                    have ha1 : W8.cell? ⟨w7.heap.size, 1, none⟩ = some (.slice none 0 0) := by rw [← hW8]; exact (Blk.Is.new w7 37 #[.int .i64 ((k : Int) + 1), .slice none 0 0]).at rfl
                    obtain ⟨xs, hown, hput⟩ := Mem.more (hm5.below hb8) ((k : Int) + 1)
                    have HOWN := Lib.hid hown
                    have HPUT := Lib.hid hput
                    have HB8 := Lib.hid (HB5.out.trans (hb8.mono HBZ5.out))
                    have HBZ8 := Lib.hid (Nat.le_trans HBZ5.out hb8.size)
                    have HA0 := Lib.hid ha0
                    have HA1 := Lib.hid ha1
                    have HW8 := Lib.hid hW8
                    clear hm5 hown hput hW8 hb8 ha0 ha1
                    go_upto_region 28 with (at_builtin; rw [HW8.out]; refine append_two Tryd.underlying23 infoStanza rfl (by decide) rfl (.tmp 97) (.tmp 101) rfl p (.slice asv msv csv) msv xs rfl (by have := HOWN.out; rw [HD.out] at this; exact this) w7.heap.size 1 rfl (.int .i64 ((k : Int) + 1)) (.slice none 0 0) HA0.out HA1.out rfl rfl (by omega) HBZ8.out ?_; intro v' W h4 h5; obtain ⟨a4, c4, rfl, _⟩ := own_shape h4; have hg := HPUT.out W _ (by rw [HD.out]; exact h4) h5; have HG := Lib.hid hg; clear h4 h5 hg)
                    have hm8 : Mem W p (.slice a4 (msv + 1) c4) d (some ((k : Int) + 1, [], none)) := HG.out.1
                    obtain ⟨g, capS, esv, hgB⟩ := memZ_fields hm8
                    simp only [Value.slice.injEq] at esv
                    obtain ⟨rfl, hDD, rfl⟩ := esv
                    obtain ⟨W0, hW0⟩ : ∃ W0, W = W0 := ⟨_, rfl⟩
                    subst hW0
                    have HMW := Lib.hid hm8
                    have HBW := Lib.hid (HB8.out.trans HG.out.2.below)
                    have HBZW := Lib.hid (show p ≤ W.heap.size from Nat.le_trans HBZ8.out HG.out.2.below.size)
                    have htt : take ⟨d, none⟩ x.data.toList ((k : Int) + 1) = if ([] : List Fld).length = 40 then .error 12 else if ([] : List Fld).any (fun g => sameB g.1 nm) = true then .error 4 else .ok ⟨d, some ((k : Int) + 1, [], (nm, [trimL r]))⟩ := by
                      rw [HTF.out]
                      unfold begin
                      simp only
                      rw [if_neg (by rw [HD.out]; exact h200), if_neg (by simp), if_neg (by simp)]
                    have HTT := Lib.hid htt
                    clear htt hm8 hDD HA0 HA1 HW8 HOWN HPUT HG HBZ8 HM5
                    obtain ⟨fv, hv, hfl⟩ := Mem.fields (done := d) (k := (k : Int) + 1) (fs := []) (cap := c4) (by rw [HD.out]; exact HMW.out) (m := 1000000) (by decide) (by simp) (fun f hf => by cases hf)
                    obtain ⟨fa, fcap, rfl⟩ := flds_shape hfl
                    have hgl : g < W.heap.size := Txt.lt_cell hv
                    obtain ⟨Fn, hF⟩ : ∃ Fn, ([] : List Fld).length = Fn := ⟨_, rfl⟩
                    have HF := Lib.hid hF
                    have hF40 : Fn ≤ 40 := by rw [← hF]; simp
                    have hFi : (Fn : Int) ≤ 40 := by omega
                    rw [hF] at hv hfl
                    rw [HD.out, Nat.mul_comm 2 msv] at hv
                    have HFL := Lib.hid hfl
                    have k4 : (msv : Int) < (msv : Int) + 1 := by omega
                    have k6 : (0 : Int) ≤ msv := by omega
                    have k8 : (msv : Int) ≤ 200 := by omega
                    clear hF hfl
                    by_cases h40 : Fn = 40
                    · have h40' : ((Fn : Int) == 40) = true := by simp [h40]
                      have HRX : Hid (run start 1 (bytes ls) = .error (12, k + 1)) := HBD.out 12 (by rw [HTT.out, if_pos (by rw [HF.out]; exact h40)])
                      have hia5 : Blk.Is W w.heap.size 26 #[.int .i64 0, .int .i64 0] := (HBW.out.block _ HPW.out).trans HIA2.out
                      have r50 : W.cell? ⟨w.heap.size, 0, none⟩ = some (.int .i64 0) := hia5.at rfl
                      have r51 : W.cell? ⟨w.heap.size, 1, none⟩ = some (.int .i64 0) := hia5.at rfl
                      have f50 := hia5.free 0
                      have f51 := hia5.free 1
                      have HIA5 := Lib.hid hia5
                      clear hia5
                      go_upto_region 30 with (fail)
                      repeat (first | go_values | go_skip | go_guarded | go_step | go_upon | (simp only [Int.not_lt, Int.not_le] at *; go_simp))
                      have hF : Blk.Is ((W.setCell ⟨w.heap.size, 0, none⟩ (.int .i64 12)).setCell ⟨w.heap.size, 1, none⟩ (.int .i64 ((k : Int) + 1))) w.heap.size 26 #[.int .i64 12, .int .i64 ((k : Int) + 1)] := Txt.two_set HIA5.out _ _
                      have hBF : Below w.heap.size w ((W.setCell ⟨w.heap.size, 0, none⟩ (.int .i64 12)).setCell ⟨w.heap.size, 1, none⟩ (.int .i64 ((k : Int) + 1))) :=
                        (((HB2.out.trans (HBW.out.mono (Nat.le_of_lt HPW.out)))).setCell (p := ⟨w.heap.size, 0, none⟩) (Nat.le_refl _) _).setCell (p := ⟨w.heap.size, 1, none⟩) (Nat.le_refl _) _
                      obtain ⟨V9, hV9⟩ : ∃ V9, ((W.setCell ⟨w.heap.size, 0, none⟩ (.int .i64 12)).setCell ⟨w.heap.size, 1, none⟩ (.int .i64 ((k : Int) + 1))) = V9 := ⟨_, rfl⟩
                      rw [hV9] at hF hBF ⊢
                      have j0 : V9.cell? ⟨w.heap.size, 0, none⟩ = some (.int .i64 12) := hF.at rfl
                      have j1 : V9.cell? ⟨w.heap.size, 1, none⟩ = some (.int .i64 ((k : Int) + 1)) := hF.at rfl
                      clear r50 r51 f50 f51 hV9
                      refine bodyPost_ret (by simp [results, Tryd.results12, go_sem, j0, j1]; try rfl) rfl ?_
                      refine ⟨_, [], 12, k + 1, rfl, ⟨ls, 0, n, HLR.out, .inr ⟨rfl, ?_⟩⟩, ⟨by simp, fun s hs => by cases hs⟩, Stzs.none _, hBF⟩
                      unfold parse
                      rw [HRX.out]
                    · have h40' : ((Fn : Int) == 40) = false := by rw [beq_eq_false_iff_ne]; omega
                      go_wp2_with fail
                      go_loopw [122] (fun i u => ∃ j : Nat, j ≤ Fn ∧ i = .int .i64 j ∧ Hid (∀ l, l < j → sameB (([] : List Fld).getD l ([], [])).1 nm = false) ∧ Hid (Below W.heap.size W u)) (fun i _ => Fn - (intOf i).toNat)
                      case atStart => exact ⟨0, by omega, rfl, (fun l hl => absurd hl (by omega)), Below.refl _ _⟩
                      case round =>
                        obtain ⟨j, hj, rfl, HNO, HBU⟩ := hrel
                        by_cases hjl : j < Fn
                        · exfalso
                          have h0 := HF.out
                          rw [List.length_nil] at h0
                          omega
                        · obtain rfl : j = Fn := by omega
                          have hany : ([] : List Fld).any (fun g => sameB g.1 nm) = false := rfl
                          have ht : take ⟨d, none⟩ x.data.toList ((k : Int) + 1) = .ok ⟨d, some ((k : Int) + 1, [], (nm, [trimL r]))⟩ := by
                            rw [HTT.out, if_neg (by rw [HF.out]; exact h40), if_neg (by rw [hany]; simp)]
                          have HRUN2 : Hid (run start 1 ((bytes ls).take (k + 1)) = .ok ⟨d, some ((k : Int) + 1, [], (nm, [trimL r]))⟩) := by have := HSN.out; rw [ht] at this; exact this
                          have HFIT2 := Lib.hid (HFT.out _ ht)
                          have HM5 := Lib.hid (HMW.out.below HBU.out)
                          have HB5 := Lib.hid (HBW.out.trans (HBU.out.mono HBZW.out))
                          have HBZ5 := Lib.hid (Nat.le_trans HBZW.out HBU.out.size)
                          have hv5 : wr.cell? ⟨g, msv * 2 + 1, none⟩ = some (.slice fa j fcap) := by rw [HBU.out.cell hgl]; exact hv
                          have hS : Below wr.heap.size wr wr.drew := (Below.refl _ _).drew
                          have hd5 : ∀ x, Below wr.heap.size wr x → x.cell? ⟨g, msv * 2 + 1, none⟩ = some (.slice fa j fcap) := fun x hx => by rw [hx.cell (Txt.lt_cell hv5)]; exact hv5
                          have D5 := Lib.hid hd5
                          have HS := Lib.hid hS
                          have n4 : (0 : Int) ≤ (N : Int) + 1 := by omega
                          have n5 : ((N : Int) + 1).toNat = N + 1 := by omega
                          have hwN : IntKind.i64.wrap ((N : Int) + 1) = (N : Int) + 1 := IntWalk.i64_in _ (by omega)
                          clear hS hd5 hv5 hany ht hv HMW HNO
                          go_wp2_with fail
                          refine Reg.wp_region_T 16 (fun x => Below wr.heap.size wr x) (by kernel_rfl) ?_
                          change Reg.anyT _ _ _ _ 16 _ 20 _ _ _
                          refine Reg.T_pure 0 (.pointer (some ⟨g, msv * 2, none⟩)) rfl (by kernel_rfl) (fun _ _ _ h => h) (.inl ⟨rfl, fun w _ => rfl⟩) HS.out ?_
                          simp only [Act.put, List.getElem_toArray, List.getElem_cons_zero, List.getElem_cons_succ, List.setIfInBounds_toArray, List.set_cons_zero, List.set_cons_succ]
                          refine Reg.T_pure 1 (.pointer (some ⟨g, msv * 2, none⟩)) rfl (by kernel_rfl) (fun _ _ _ h => h) (.inl ⟨rfl, fun w _ => rfl⟩) HS.out ?_
                          simp only [Act.put, List.getElem_toArray, List.getElem_cons_zero, List.getElem_cons_succ, List.setIfInBounds_toArray, List.set_cons_zero, List.set_cons_succ]
                          refine Reg.T_pure 2 (.pointer (some ⟨g, msv * 2, none⟩)) rfl (by kernel_rfl) (fun _ _ _ h => h) (.inl ⟨rfl, fun w _ => rfl⟩) HS.out ?_
                          simp only [Act.put, List.getElem_toArray, List.getElem_cons_zero, List.getElem_cons_succ, List.setIfInBounds_toArray, List.set_cons_zero, List.set_cons_succ]
                          refine Reg.T_pure 3 (.pointer (some ⟨g, msv * 2 + 1, none⟩)) rfl (by kernel_rfl) (fun _ _ _ h => h) (.inl ⟨rfl, fun w _ => rfl⟩) HS.out ?_
                          simp only [Act.put, List.getElem_toArray, List.getElem_cons_zero, List.getElem_cons_succ, List.setIfInBounds_toArray, List.set_cons_zero, List.set_cons_succ]
                          refine Reg.T_load 4 (.slice fa j fcap) rfl (by kernel_rfl) (fun _ _ _ h => h) (Reg.yields_load_one rfl 35 _ rfl g (msv * 2 + 1) rfl _ (fun x hx => D5.out x hx) Tryd.isAgg35) HS.out ?_
                          simp only [Act.put, List.getElem_toArray, List.getElem_cons_zero, List.getElem_cons_succ, List.setIfInBounds_toArray, List.set_cons_zero, List.set_cons_succ]
                          refine Reg.T_pure 5 (.string x) rfl (by kernel_rfl) (fun _ _ _ h => h) (.inl ⟨rfl, fun w _ => rfl⟩) HS.out ?_
                          simp only [Act.put, List.getElem_toArray, List.getElem_cons_zero, List.getElem_cons_succ, List.setIfInBounds_toArray, List.set_cons_zero, List.set_cons_succ]
                          refine Reg.T_pure 6 (.int .i64 N) rfl (by kernel_rfl) (fun _ _ _ h => h) (.inl ⟨rfl, fun w _ => rfl⟩) HS.out ?_
                          simp only [Act.put, List.getElem_toArray, List.getElem_cons_zero, List.getElem_cons_succ, List.setIfInBounds_toArray, List.set_cons_zero, List.set_cons_succ]
                          refine Reg.T_pure 7 (.string (x.extract 0 N)) rfl (by kernel_rfl) (fun _ _ _ h => h) (.inl ⟨rfl, fun w _ => by simp [execOp, Act.eval, go_sem, n0, n1]⟩) HS.out ?_
                          simp only [Act.put, List.getElem_toArray, List.getElem_cons_zero, List.getElem_cons_succ, List.setIfInBounds_toArray, List.set_cons_zero, List.set_cons_succ]
                          rw [HE1.out]
                          refine Reg.T_pure 8 (.string x) rfl (by kernel_rfl) (fun _ _ _ h => h) (.inl ⟨rfl, fun w _ => rfl⟩) HS.out ?_
                          simp only [Act.put, List.getElem_toArray, List.getElem_cons_zero, List.getElem_cons_succ, List.setIfInBounds_toArray, List.set_cons_zero, List.set_cons_succ]
                          refine Reg.T_pure 9 (.int .i64 N) rfl (by kernel_rfl) (fun _ _ _ h => h) (.inl ⟨rfl, fun w _ => rfl⟩) HS.out ?_
                          simp only [Act.put, List.getElem_toArray, List.getElem_cons_zero, List.getElem_cons_succ, List.setIfInBounds_toArray, List.set_cons_zero, List.set_cons_succ]
                          refine Reg.T_pure 10 (.int .i64 ((N : Int) + 1)) rfl (by kernel_rfl) (fun _ _ _ h => h) (.inl ⟨rfl, fun w _ => by simp [execOp, Act.eval, go_sem, hwN]⟩) HS.out ?_
                          simp only [Act.put, List.getElem_toArray, List.getElem_cons_zero, List.getElem_cons_succ, List.setIfInBounds_toArray, List.set_cons_zero, List.set_cons_succ]
                          refine Reg.T_pure 11 (.string (x.extract (N + 1) x.size)) rfl (by kernel_rfl) (fun _ _ _ h => h) (.inl ⟨rfl, fun w _ => by simp [execOp, Act.eval, go_sem, n0, n1, n2, n4, n5]⟩) HS.out ?_
                          simp only [Act.put, List.getElem_toArray, List.getElem_cons_zero, List.getElem_cons_succ, List.setIfInBounds_toArray, List.set_cons_zero, List.set_cons_succ]
                          rw [HE2.out]
                          refine Reg.T_only 12 rfl (by kernel_rfl) ?_
                          go_wp2_with fail
                          refine (Txt.ytrim_any (S r) wr.drew (by rw [S_size]; omega)).mono ?_
                          rintro e y6 ⟨t6, rfl, ht6, b6⟩
                          rw [S_data] at ht6
                          have hb6 := HS.out.trans (b6.mono HS.out.size)
                          have HB6 := Lib.hid hb6
                          have HTX6 := Lib.hid (S_of ht6)
                          clear ht6 b6 hb6
                          go_wp2_with fail
                          change _ ∧ _
                          refine ⟨fun _ => HB6.out, ?_⟩
                          refine Reg.T_only 13 rfl (by kernel_rfl) ?_
                          go_wp2_with fail
                          change _ ∧ _
                          refine ⟨fun _ => HB6.out.alloc HB6.out.size _, ?_⟩
                          obtain ⟨Y7, hY7⟩ : ∃ Y7, y6.alloc (.cells #[.string t6] 9) = Y7 := ⟨_, rfl⟩
                          have hb7 : Below wr.heap.size wr Y7 := by rw [← hY7]; exact HB6.out.alloc HB6.out.size _
                          have hlv : Y7.ownsRow wr.heap.size 9 1 (.slice (some ⟨y6.heap.size, 0, none⟩) 1 1) 1 [.string (S (trimL r))] := by rw [← hY7, HTX6.out]; exact own_new y6 _ _ _ HB6.out.size
                          rw [hY7]
                          obtain ⟨z6, hz6⟩ : ∃ z6, y6.heap.size = z6 := ⟨_, rfl⟩
                          rw [hz6] at hlv ⊢
                          have HB7 := Lib.hid hb7
                          have HLV := Lib.hid hlv
                          clear hY7 hb7 hlv hz6
                          refine Reg.T_only 14 rfl (by kernel_rfl) ?_
                          go_wp2_with fail
                          change _ ∧ _
                          refine ⟨fun _ => HB7.out, ?_⟩
                          refine Reg.T_only 15 rfl (by kernel_rfl) ?_
                          go_wp2_with fail
                          change _ ∧ _
                          refine ⟨fun _ => HB7.out.alloc HB7.out.size _, ?_⟩
                          refine Reg.T_only 16 rfl (by kernel_rfl) ?_
                          obtain ⟨Y8, hY8⟩ : ∃ Y8, Y7.alloc (.cells #[.string (S nm), .slice (some ⟨z6, 0, none⟩) 1 1] 42) = Y8 := ⟨_, rfl⟩
                          have hb78 : Below Y7.heap.size Y7 Y8 := by rw [← hY8]; exact (Below.refl _ _).alloc (Nat.le_refl _) _
                          have hb8 : Below wr.heap.size wr Y8 := HB7.out.trans (hb78.mono HB7.out.size)
                          have ha0 : Y8.cell? ⟨Y7.heap.size, 0, none⟩ = some (.string (S nm)) := by rw [← hY8]; exact (Blk.Is.new Y7 42 #[.string (S nm), .slice (some ⟨z6, 0, none⟩) 1 1]).at rfl
                          have ha1 : Y8.cell? ⟨Y7.heap.size, 1, none⟩ = some (.slice (some ⟨z6, 0, none⟩) 1 1) := by rw [← hY8]; exact (Blk.Is.new Y7 42 #[.string (S nm), .slice (some ⟨z6, 0, none⟩) 1 1]).at rfl
                          obtain ⟨g', cap', v', C', ys', esv2, hg8, d8, hC3, hC4, hown, hput⟩ := Mem.put HM5.out hb8
                          simp only [Value.slice.injEq, Option.some.injEq, Addr.mk.injEq, and_true, true_and] at esv2
                          obtain ⟨rfl, hcq⟩ := esv2
                          rw [HD.out, Nat.mul_comm 2 msv, D5.out wr (Below.refl _ _)] at d8
                          obtain rfl := Option.some.inj d8
                          have HLV8 := Lib.hid (Own.owns_below HLV.out hb78)
                          have HB8X := Lib.hid hb8
                          have HOWN8 := Lib.hid hown
                          have HPUT8 := Lib.hid hput
                          have HA0X := Lib.hid ha0
                          have HA1X := Lib.hid ha1
                          have hC8 : C' ≤ Y8.heap.size := Nat.le_trans hC4 hb8.size
                          rw [hY8]
                          clear d8 hown hput hY8 hb78 hb8 ha0 ha1 hcq
                          refine append_two Tryd.underlying35 infoField rfl (by decide) rfl (.tmp 140) (.tmp 151) rfl C' (.slice fa j fcap) j ys' rfl (by have := HOWN8.out; rw [HF.out] at this; exact this) Y7.heap.size 1 rfl (.string (S nm)) (.slice (some ⟨z6, 0, none⟩) 1 1) HA0X.out HA1X.out rfl rfl (by omega) hC8 ?_
                          intro v9 y9 h9 h10
                          obtain ⟨a9, c9, rfl, _⟩ := own_shape h9
                          have hg9 := HPUT8.out y9 h10
                          obtain ⟨⟨e1, e2⟩, e3⟩ := hg9
                          have e4 := e3 nm (trimL r) (.slice (some ⟨z6, 0, none⟩) 1 1) (.slice a9 (j + 1) c9) HLV8.out (by rw [HF.out]; exact h9)
                          rw [HD.out, Nat.mul_comm 2 msv] at e1 e2 e4
                          have E4 := Lib.hid e4
                          clear h9 h10 e3 e4
                          change _ ∧ _
                          refine ⟨fun hh => absurd hh (by decide), ?_⟩
                          refine Reg.T_only 17 rfl (by kernel_rfl) ?_
                          go_wp2_with fail
                          change _ ∧ _
                          refine ⟨fun hh => absurd hh (by decide), ?_⟩
                          refine Reg.T_only 18 rfl (by kernel_rfl) ?_
                          go_wp2_with fail
                          change _ ∧ _
                          refine ⟨fun hh => absurd hh (by decide), ?_⟩
                          refine Reg.T_only 19 rfl (by kernel_rfl) ?_
                          go_wp2_with fail
                          change _ ∧ _
                          refine ⟨fun hh => absurd hh (by decide), ?_⟩
                          refine Reg.T_done (by kernel_rfl) ?_
                          clear e1 e2
                          have hbF := (HB5.out.trans (HB8X.out.mono HBZ5.out)).trans E4.out.2.below
                          obtain ⟨w10, hw10⟩ : ∃ w10, w10 = y9.setCell ⟨g, msv * 2 + 1, none⟩ (.slice a9 (j + 1) c9) := ⟨_, rfl⟩
                          have hm10 : MemZ w10 p (.slice (some ⟨g, 0, none⟩) (msv + 1) c4) ⟨d, some ((k : Int) + 1, [], (nm, [trimL r]))⟩ := by rw [hw10]; exact E4.out.1
                          rw [← hw10] at hbF ⊢
                          have HM10 := Lib.hid hm10
                          have HBF := Lib.hid hbF
                          clear hm10 hbF hw10
                          go_wp2_with fail
                          refine ⟨⟨k + 1, ⟨d, some ((k : Int) + 1, [], (nm, [trimL r]))⟩, by omega, by go_num, rfl, HRUN2, HM10, HFIT2, HBF⟩, ?_⟩
                          simp [intOf]; omega
                | some q =>
                  obtain ⟨n0', fs0, f0⟩ := q
                  have hff := HFIT.out.2.2 n0' fs0 f0 rfl
                  have hdl := HFIT.out.1
                  simp only at hdl
                  obtain ⟨D, hD⟩ : ∃ D, d.length = D := ⟨_, rfl⟩
                  have HD := Lib.hid hD
                  have HFF := Lib.hid hff
                  rw [hD] at hdl
                  clear hD hff
                  go_wp2_with fail
                  refine CYT.out.mono ?_
                  rintro e w5 ⟨t, rfl, ht, b5⟩
                  have hem := eq_empty t
                  rw [ht, decide_eq_false H2.out] at hem
                  have HM5 := Lib.hid (Mem.below HMZ.out b5)
                  have HB5 := Lib.hid (HBK.out.trans (b5.mono HBZ.out))
                  have HBZ5 := Lib.hid (Nat.le_trans HBZ.out b5.size)
                  clear ht b5
                  go_wp2_with fail
                  refine (Txt.ywhite_any c w5).mono ?_
                  rintro e w6 ⟨rfl, rfl⟩
                  rw [HW.out]
                  go_wp2_with fail
                  refine (CFN.out _).mono ?_
                  rintro e w7 ⟨rfl, rfl⟩
                  have hmw := Mem.shut (w := w7) (B := p) (sv := .slice asv msv csv) (done := d) (n := n0') (fs := fs0) (f := f0) HM5.out
                  obtain ⟨g, capS, esv, hgB⟩ := memZ_fields hmw
                  simp only [Value.slice.injEq] at esv
                  obtain ⟨rfl, hDD, rfl⟩ := esv
                  rw [HD.out] at hDD
                  subst hDD
                  have HMW := Lib.hid hmw
                  have HBW := HB5
                  have HBZW := HBZ5
                  have htt : take ⟨d, some (n0', fs0, f0)⟩ x.data.toList ((k : Int) + 1) = if (fs0 ++ [f0]).length = 40 then .error 12 else if (fs0 ++ [f0]).any (fun g => sameB g.1 nm) = true then .error 4 else .ok ⟨d, some (n0', fs0 ++ [f0], (nm, [trimL r]))⟩ := by
                    rw [HTF.out]
                    unfold begin
                    simp only [List.length_append, List.length_singleton]
                  have HTT := Lib.hid htt
                  clear htt hmw HM5
                  go_upto_region 28 with (fail)
                  obtain ⟨fv, hv, hfl⟩ := Mem.fields (done := d) (k := n0') (fs := (fs0 ++ [f0])) (cap := csv) (by rw [HD.out]; exact HMW.out) (m := 1000000) (by decide) (by have := HFF.out.2.1; simp; omega) (fun f hf => by have := (HFF.out.2.2 f hf).2; omega)
                  obtain ⟨fa, fcap, rfl⟩ := flds_shape hfl
                  have hgl : g < w7.heap.size := Txt.lt_cell hv
                  obtain ⟨Fn, hF⟩ : ∃ Fn, ((fs0 ++ [f0]) : List Fld).length = Fn := ⟨_, rfl⟩
                  have HF := Lib.hid hF
                  have hF40 : Fn ≤ 40 := by rw [← hF]; have := HFF.out.2.1; simp; omega
                  have hFi : (Fn : Int) ≤ 40 := by omega
                  rw [hF] at hv hfl
                  rw [HD.out, Nat.mul_comm 2 D] at hv
                  have HFL := Lib.hid hfl
                  have k4 : (D : Int) < (D : Int) + 1 := by omega
                  have k6 : (0 : Int) ≤ D := by omega
                  have k8 : (D : Int) ≤ 200 := by omega
                  clear hF hfl
                  by_cases h40 : Fn = 40
                  · have h40' : ((Fn : Int) == 40) = true := by simp [h40]
                    have HRX : Hid (run start 1 (bytes ls) = .error (12, k + 1)) := HBD.out 12 (by rw [HTT.out, if_pos (by rw [HF.out]; exact h40)])
                    have hia5 : Blk.Is w7 w.heap.size 26 #[.int .i64 0, .int .i64 0] := (HBW.out.block _ HPW.out).trans HIA2.out
                    have r50 : w7.cell? ⟨w.heap.size, 0, none⟩ = some (.int .i64 0) := hia5.at rfl
                    have r51 : w7.cell? ⟨w.heap.size, 1, none⟩ = some (.int .i64 0) := hia5.at rfl
                    have f50 := hia5.free 0
                    have f51 := hia5.free 1
                    have HIA5 := Lib.hid hia5
                    clear hia5
                    go_upto_region 30 with (fail)
                    repeat (first | go_values | go_skip | go_guarded | go_step | go_upon | (simp only [Int.not_lt, Int.not_le] at *; go_simp))
                    have hF : Blk.Is ((w7.setCell ⟨w.heap.size, 0, none⟩ (.int .i64 12)).setCell ⟨w.heap.size, 1, none⟩ (.int .i64 ((k : Int) + 1))) w.heap.size 26 #[.int .i64 12, .int .i64 ((k : Int) + 1)] := Txt.two_set HIA5.out _ _
                    have hBF : Below w.heap.size w ((w7.setCell ⟨w.heap.size, 0, none⟩ (.int .i64 12)).setCell ⟨w.heap.size, 1, none⟩ (.int .i64 ((k : Int) + 1))) :=
                      (((HB2.out.trans (HBW.out.mono (Nat.le_of_lt HPW.out)))).setCell (p := ⟨w.heap.size, 0, none⟩) (Nat.le_refl _) _).setCell (p := ⟨w.heap.size, 1, none⟩) (Nat.le_refl _) _
                    obtain ⟨V9, hV9⟩ : ∃ V9, ((w7.setCell ⟨w.heap.size, 0, none⟩ (.int .i64 12)).setCell ⟨w.heap.size, 1, none⟩ (.int .i64 ((k : Int) + 1))) = V9 := ⟨_, rfl⟩
                    rw [hV9] at hF hBF ⊢
                    have j0 : V9.cell? ⟨w.heap.size, 0, none⟩ = some (.int .i64 12) := hF.at rfl
                    have j1 : V9.cell? ⟨w.heap.size, 1, none⟩ = some (.int .i64 ((k : Int) + 1)) := hF.at rfl
                    clear r50 r51 f50 f51 hV9
                    refine bodyPost_ret (by simp [results, Tryd.results12, go_sem, j0, j1]; try rfl) rfl ?_
                    refine ⟨_, [], 12, k + 1, rfl, ⟨ls, 0, n, HLR.out, .inr ⟨rfl, ?_⟩⟩, ⟨by simp, fun s hs => by cases hs⟩, Stzs.none _, hBF⟩
                    unfold parse
                    rw [HRX.out]
                  · have h40' : ((Fn : Int) == 40) = false := by rw [beq_eq_false_iff_ne]; omega
                    go_wp2_with fail
                    go_loopw [122] (fun i u => ∃ j : Nat, j ≤ Fn ∧ i = .int .i64 j ∧ Hid (∀ l, l < j → sameB (((fs0 ++ [f0]) : List Fld).getD l ([], [])).1 nm = false) ∧ Hid (Below w7.heap.size w7 u)) (fun i _ => Fn - (intOf i).toNat)
                    case atStart => exact ⟨0, by omega, rfl, (fun l hl => absurd hl (by omega)), Below.refl _ _⟩
                    case round =>
                      obtain ⟨j, hj, rfl, HNO, HBU⟩ := hrel
                      by_cases hjl : j < Fn
                      · obtain ⟨_, fa', fcap', e', hfc, hat⟩ := HFL.out
                        simp only [Value.slice.injEq] at e'
                        obtain ⟨rfl, hFF2, rfl⟩ := e'
                        clear hFF2
                        obtain ⟨fg, foff, rfl, hat2⟩ := hat (by rw [HF.out]; omega)
                        obtain ⟨q1, lv, q2, hltx⟩ := hat2 j (by rw [HF.out]; exact hjl)
                        obtain ⟨_, la, lc, rfl, _, _⟩ := hltx
                        obtain ⟨ln, hln⟩ : ∃ ln, (((((fs0 ++ [f0]) : List Fld).getD j ([], [])).2).map S).length = ln := ⟨_, rfl⟩
                        rw [hln] at q2
                        clear hln
                        rw [← HBU.out.cell (Txt.lt_cell q1)] at q1
                        rw [← HBU.out.cell (Txt.lt_cell q2)] at q2
                        rw [Nat.mul_comm 2 j] at q1 q2
                        obtain ⟨Y, hY⟩ : ∃ Y, (((fs0 ++ [f0]) : List Fld).getD j ([], [])).1 = Y := ⟨_, rfl⟩
                        have HY := Lib.hid hY
                        have hYl : Y.length ≤ 1000000 := by
                          have hm : ((fs0 ++ [f0]) : List Fld).getD j ([], []) ∈ ((fs0 ++ [f0]) : List Fld) := by
                            have : j < ((fs0 ++ [f0]) : List Fld).length := by rw [HF.out]; exact hjl
                            simp [List.getD, List.getElem?_eq_getElem this]
                          rw [← hY]
                          exact (fun f hf => (HFF.out.2.2 f hf).1) _ hm
                        rw [hY] at q1
                        have j0 : (0 : Int) ≤ j := by omega
                        have j1 : (j : Int) < Fn := by omega
                        have cys := fun w => ysame_any (S Y) (S nm) w (by rw [S_size]; omega)
                        simp only [sameS_S] at cys
                        have CYS := Lib.hid cys
                        have he1 : x.extract 0 N = S nm := HE1.out
                        clear hY hat hat2 cys hfc
                        cases hsm : sameB Y nm with
                        | true =>
                          rw [hsm] at CYS
                          have HRX : Hid (run start 1 (bytes ls) = .error (4, k + 1)) := HBD.out 4 (by
                            rw [HTT.out, if_neg (by rw [HF.out]; exact h40), if_pos]
                            rw [List.any_eq_true]
                            have : j < ((fs0 ++ [f0]) : List Fld).length := by rw [HF.out]; exact hjl
                            exact ⟨((fs0 ++ [f0]) : List Fld).getD j ([], []), by simp [List.getD, List.getElem?_eq_getElem this], by rw [HY.out]; exact hsm⟩)
                          clear hsm
                          go_wp2_with fail
                          go_quiet ((with_reducible exact Calls.quiet_of (CYS.out _)))
                          obtain ⟨V6, hV6⟩ : ∃ V6, (wr.alloc (.cells #[.string (S Y), .slice la ln lc] 42)).drewN nq = V6 := ⟨_, rfl⟩
                          have hb6 : Below w7.heap.size w7 V6 := by
                            rw [← hV6]
                            exact (HBU.out.alloc HBU.out.size _).trans ((Txt.drewN_below _ nq).mono (Nat.le_trans HBU.out.size (by simp)))
                          have HB6 := Lib.hid (HBW.out.trans (hb6.mono HBZW.out))
                          have HB6W := Lib.hid hb6
                          rw [hV6]
                          clear hV6 hb6 q1 q2
                          have hia5 : Blk.Is V6 w.heap.size 26 #[.int .i64 0, .int .i64 0] := (HB6.out.block _ HPW.out).trans HIA2.out
                          have r50 : V6.cell? ⟨w.heap.size, 0, none⟩ = some (.int .i64 0) := hia5.at rfl
                          have r51 : V6.cell? ⟨w.heap.size, 1, none⟩ = some (.int .i64 0) := hia5.at rfl
                          have f50 := hia5.free 0
                          have f51 := hia5.free 1
                          have HIA5 := Lib.hid hia5
                          clear hia5
                          repeat (first | go_values | go_skip | go_guarded | go_step | go_upon | (simp only [Int.not_lt, Int.not_le] at *; go_simp))
                          have hF : Blk.Is ((V6.setCell ⟨w.heap.size, 0, none⟩ (.int .i64 4)).setCell ⟨w.heap.size, 1, none⟩ (.int .i64 ((k : Int) + 1))) w.heap.size 26 #[.int .i64 4, .int .i64 ((k : Int) + 1)] := Txt.two_set HIA5.out _ _
                          have hBF : Below w.heap.size w ((V6.setCell ⟨w.heap.size, 0, none⟩ (.int .i64 4)).setCell ⟨w.heap.size, 1, none⟩ (.int .i64 ((k : Int) + 1))) :=
                            (((HB2.out.trans (HB6.out.mono (Nat.le_of_lt HPW.out)))).setCell (p := ⟨w.heap.size, 0, none⟩) (Nat.le_refl _) _).setCell (p := ⟨w.heap.size, 1, none⟩) (Nat.le_refl _) _
                          obtain ⟨V9, hV9⟩ : ∃ V9, ((V6.setCell ⟨w.heap.size, 0, none⟩ (.int .i64 4)).setCell ⟨w.heap.size, 1, none⟩ (.int .i64 ((k : Int) + 1))) = V9 := ⟨_, rfl⟩
                          rw [hV9] at hF hBF ⊢
                          have j0 : V9.cell? ⟨w.heap.size, 0, none⟩ = some (.int .i64 4) := hF.at rfl
                          have j1 : V9.cell? ⟨w.heap.size, 1, none⟩ = some (.int .i64 ((k : Int) + 1)) := hF.at rfl
                          clear r50 r51 f50 f51 hV9
                          refine bodyPost_ret (by simp [results, Tryd.results12, go_sem, j0, j1]; try rfl) rfl ?_
                          refine ⟨_, [], 4, k + 1, rfl, ⟨ls, 0, n, HLR.out, .inr ⟨rfl, ?_⟩⟩, ⟨by simp, fun s hs => by cases hs⟩, Stzs.none _, hBF⟩
                          unfold parse
                          rw [HRX.out]
                        | false =>
                          rw [hsm] at CYS
                          have HSM := Lib.hid hsm
                          clear hsm
                          go_wp2_with fail
                          go_quiet ((with_reducible exact Calls.quiet_of (CYS.out _)))
                          obtain ⟨V6, hV6⟩ : ∃ V6, (wr.alloc (.cells #[.string (S Y), .slice la ln lc] 42)).drewN nq = V6 := ⟨_, rfl⟩
                          have hb6 : Below w7.heap.size w7 V6 := by
                            rw [← hV6]
                            exact (HBU.out.alloc HBU.out.size _).trans ((Txt.drewN_below _ nq).mono (Nat.le_trans HBU.out.size (by simp)))
                          have HB6 := Lib.hid (HBW.out.trans (hb6.mono HBZW.out))
                          have HB6W := Lib.hid hb6
                          rw [hV6]
                          clear hV6 hb6 q1 q2
                          go_wp2_with fail
                          refine ⟨⟨j + 1, by omega, by go_num, fun l hl => ?_, HB6W⟩, by simp [intOf]; omega⟩
                          by_cases e : l = j
                          · subst e; rw [HY.out]; exact HSM.out
                          · exact HNO.out l (by omega)
                      · obtain rfl : j = Fn := by omega
                        have hany : ((fs0 ++ [f0]) : List Fld).any (fun g => sameB g.1 nm) = false := by
                          rw [List.any_eq_false]
                          intro f hf
                          obtain ⟨l, hl, rfl⟩ := List.mem_iff_getElem.1 hf
                          have := HNO.out l (by rw [← HF.out]; exact hl)
                          simp [List.getD, List.getElem?_eq_getElem hl] at this
                          simp [this]
                        have ht : take ⟨d, some (n0', fs0, f0)⟩ x.data.toList ((k : Int) + 1) = .ok ⟨d, some (n0', (fs0 ++ [f0]), (nm, [trimL r]))⟩ := by
                          rw [HTT.out, if_neg (by rw [HF.out]; exact h40), if_neg (by rw [hany]; simp)]
                        have HRUN2 : Hid (run start 1 ((bytes ls).take (k + 1)) = .ok ⟨d, some (n0', (fs0 ++ [f0]), (nm, [trimL r]))⟩) := by have := HSN.out; rw [ht] at this; exact this
                        have HFIT2 := Lib.hid (HFT.out _ ht)
                        have HM5 := Lib.hid (HMW.out.below HBU.out)
                        have HB5 := Lib.hid (HBW.out.trans (HBU.out.mono HBZW.out))
                        have HBZ5 := Lib.hid (Nat.le_trans HBZW.out HBU.out.size)
                        have hv5 : wr.cell? ⟨g, D * 2 + 1, none⟩ = some (.slice fa j fcap) := by rw [HBU.out.cell hgl]; exact hv
                        have hS : Below wr.heap.size wr wr.drew := (Below.refl _ _).drew
                        have hd5 : ∀ x, Below wr.heap.size wr x → x.cell? ⟨g, D * 2 + 1, none⟩ = some (.slice fa j fcap) := fun x hx => by rw [hx.cell (Txt.lt_cell hv5)]; exact hv5
                        have D5 := Lib.hid hd5
                        have HS := Lib.hid hS
                        have n4 : (0 : Int) ≤ (N : Int) + 1 := by omega
                        have n5 : ((N : Int) + 1).toNat = N + 1 := by omega
                        have hwN : IntKind.i64.wrap ((N : Int) + 1) = (N : Int) + 1 := IntWalk.i64_in _ (by omega)
                        clear hS hd5 hv5 hany ht hv HMW HNO
                        go_wp2_with fail
                        refine Reg.wp_region_T 16 (fun x => Below wr.heap.size wr x) (by kernel_rfl) ?_
                        change Reg.anyT _ _ _ _ 16 _ 20 _ _ _
                        refine Reg.T_pure 0 (.pointer (some ⟨g, D * 2, none⟩)) rfl (by kernel_rfl) (fun _ _ _ h => h) (.inl ⟨rfl, fun w _ => rfl⟩) HS.out ?_
                        simp only [Act.put, List.getElem_toArray, List.getElem_cons_zero, List.getElem_cons_succ, List.setIfInBounds_toArray, List.set_cons_zero, List.set_cons_succ]
                        refine Reg.T_pure 1 (.pointer (some ⟨g, D * 2, none⟩)) rfl (by kernel_rfl) (fun _ _ _ h => h) (.inl ⟨rfl, fun w _ => rfl⟩) HS.out ?_
                        simp only [Act.put, List.getElem_toArray, List.getElem_cons_zero, List.getElem_cons_succ, List.setIfInBounds_toArray, List.set_cons_zero, List.set_cons_succ]
                        refine Reg.T_pure 2 (.pointer (some ⟨g, D * 2, none⟩)) rfl (by kernel_rfl) (fun _ _ _ h => h) (.inl ⟨rfl, fun w _ => rfl⟩) HS.out ?_
                        simp only [Act.put, List.getElem_toArray, List.getElem_cons_zero, List.getElem_cons_succ, List.setIfInBounds_toArray, List.set_cons_zero, List.set_cons_succ]
                        refine Reg.T_pure 3 (.pointer (some ⟨g, D * 2 + 1, none⟩)) rfl (by kernel_rfl) (fun _ _ _ h => h) (.inl ⟨rfl, fun w _ => rfl⟩) HS.out ?_
                        simp only [Act.put, List.getElem_toArray, List.getElem_cons_zero, List.getElem_cons_succ, List.setIfInBounds_toArray, List.set_cons_zero, List.set_cons_succ]
                        refine Reg.T_load 4 (.slice fa j fcap) rfl (by kernel_rfl) (fun _ _ _ h => h) (Reg.yields_load_one rfl 35 _ rfl g (D * 2 + 1) rfl _ (fun x hx => D5.out x hx) Tryd.isAgg35) HS.out ?_
                        simp only [Act.put, List.getElem_toArray, List.getElem_cons_zero, List.getElem_cons_succ, List.setIfInBounds_toArray, List.set_cons_zero, List.set_cons_succ]
                        refine Reg.T_pure 5 (.string x) rfl (by kernel_rfl) (fun _ _ _ h => h) (.inl ⟨rfl, fun w _ => rfl⟩) HS.out ?_
                        simp only [Act.put, List.getElem_toArray, List.getElem_cons_zero, List.getElem_cons_succ, List.setIfInBounds_toArray, List.set_cons_zero, List.set_cons_succ]
                        refine Reg.T_pure 6 (.int .i64 N) rfl (by kernel_rfl) (fun _ _ _ h => h) (.inl ⟨rfl, fun w _ => rfl⟩) HS.out ?_
                        simp only [Act.put, List.getElem_toArray, List.getElem_cons_zero, List.getElem_cons_succ, List.setIfInBounds_toArray, List.set_cons_zero, List.set_cons_succ]
                        refine Reg.T_pure 7 (.string (x.extract 0 N)) rfl (by kernel_rfl) (fun _ _ _ h => h) (.inl ⟨rfl, fun w _ => by simp [execOp, Act.eval, go_sem, n0, n1]⟩) HS.out ?_
                        simp only [Act.put, List.getElem_toArray, List.getElem_cons_zero, List.getElem_cons_succ, List.setIfInBounds_toArray, List.set_cons_zero, List.set_cons_succ]
                        rw [HE1.out]
                        refine Reg.T_pure 8 (.string x) rfl (by kernel_rfl) (fun _ _ _ h => h) (.inl ⟨rfl, fun w _ => rfl⟩) HS.out ?_
                        simp only [Act.put, List.getElem_toArray, List.getElem_cons_zero, List.getElem_cons_succ, List.setIfInBounds_toArray, List.set_cons_zero, List.set_cons_succ]
                        refine Reg.T_pure 9 (.int .i64 N) rfl (by kernel_rfl) (fun _ _ _ h => h) (.inl ⟨rfl, fun w _ => rfl⟩) HS.out ?_
                        simp only [Act.put, List.getElem_toArray, List.getElem_cons_zero, List.getElem_cons_succ, List.setIfInBounds_toArray, List.set_cons_zero, List.set_cons_succ]
                        refine Reg.T_pure 10 (.int .i64 ((N : Int) + 1)) rfl (by kernel_rfl) (fun _ _ _ h => h) (.inl ⟨rfl, fun w _ => by simp [execOp, Act.eval, go_sem, hwN]⟩) HS.out ?_
                        simp only [Act.put, List.getElem_toArray, List.getElem_cons_zero, List.getElem_cons_succ, List.setIfInBounds_toArray, List.set_cons_zero, List.set_cons_succ]
                        refine Reg.T_pure 11 (.string (x.extract (N + 1) x.size)) rfl (by kernel_rfl) (fun _ _ _ h => h) (.inl ⟨rfl, fun w _ => by simp [execOp, Act.eval, go_sem, n0, n1, n2, n4, n5]⟩) HS.out ?_
                        simp only [Act.put, List.getElem_toArray, List.getElem_cons_zero, List.getElem_cons_succ, List.setIfInBounds_toArray, List.set_cons_zero, List.set_cons_succ]
                        rw [HE2.out]
                        refine Reg.T_only 12 rfl (by kernel_rfl) ?_
                        go_wp2_with fail
                        refine (Txt.ytrim_any (S r) wr.drew (by rw [S_size]; omega)).mono ?_
                        rintro e y6 ⟨t6, rfl, ht6, b6⟩
                        rw [S_data] at ht6
                        have hb6 := HS.out.trans (b6.mono HS.out.size)
                        have HB6 := Lib.hid hb6
                        have HTX6 := Lib.hid (S_of ht6)
                        clear ht6 b6 hb6
                        go_wp2_with fail
                        change _ ∧ _
                        refine ⟨fun _ => HB6.out, ?_⟩
                        refine Reg.T_only 13 rfl (by kernel_rfl) ?_
                        go_wp2_with fail
                        change _ ∧ _
                        refine ⟨fun _ => HB6.out.alloc HB6.out.size _, ?_⟩
                        obtain ⟨Y7, hY7⟩ : ∃ Y7, y6.alloc (.cells #[.string t6] 9) = Y7 := ⟨_, rfl⟩
                        have hb7 : Below wr.heap.size wr Y7 := by rw [← hY7]; exact HB6.out.alloc HB6.out.size _
                        have hlv : Y7.ownsRow wr.heap.size 9 1 (.slice (some ⟨y6.heap.size, 0, none⟩) 1 1) 1 [.string (S (trimL r))] := by rw [← hY7, HTX6.out]; exact own_new y6 _ _ _ HB6.out.size
                        rw [hY7]
                        obtain ⟨z6, hz6⟩ : ∃ z6, y6.heap.size = z6 := ⟨_, rfl⟩
                        rw [hz6] at hlv ⊢
                        have HB7 := Lib.hid hb7
                        have HLV := Lib.hid hlv
                        clear hY7 hb7 hlv hz6
                        refine Reg.T_only 14 rfl (by kernel_rfl) ?_
                        go_wp2_with fail
                        change _ ∧ _
                        refine ⟨fun _ => HB7.out, ?_⟩
                        refine Reg.T_only 15 rfl (by kernel_rfl) ?_
                        go_wp2_with fail
                        change _ ∧ _
                        refine ⟨fun _ => HB7.out.alloc HB7.out.size _, ?_⟩
                        refine Reg.T_only 16 rfl (by kernel_rfl) ?_
                        obtain ⟨Y8, hY8⟩ : ∃ Y8, Y7.alloc (.cells #[.string (S nm), .slice (some ⟨z6, 0, none⟩) 1 1] 42) = Y8 := ⟨_, rfl⟩
                        have hb78 : Below Y7.heap.size Y7 Y8 := by rw [← hY8]; exact (Below.refl _ _).alloc (Nat.le_refl _) _
                        have hb8 : Below wr.heap.size wr Y8 := HB7.out.trans (hb78.mono HB7.out.size)
                        have ha0 : Y8.cell? ⟨Y7.heap.size, 0, none⟩ = some (.string (S nm)) := by rw [← hY8]; exact (Blk.Is.new Y7 42 #[.string (S nm), .slice (some ⟨z6, 0, none⟩) 1 1]).at rfl
                        have ha1 : Y8.cell? ⟨Y7.heap.size, 1, none⟩ = some (.slice (some ⟨z6, 0, none⟩) 1 1) := by rw [← hY8]; exact (Blk.Is.new Y7 42 #[.string (S nm), .slice (some ⟨z6, 0, none⟩) 1 1]).at rfl
                        obtain ⟨g', cap', v', C', ys', esv2, hg8, d8, hC3, hC4, hown, hput⟩ := Mem.put HM5.out hb8
                        simp only [Value.slice.injEq, Option.some.injEq, Addr.mk.injEq, and_true, true_and] at esv2
                        obtain ⟨rfl, hcq⟩ := esv2
                        rw [HD.out, Nat.mul_comm 2 D, D5.out wr (Below.refl _ _)] at d8
                        obtain rfl := Option.some.inj d8
                        have HLV8 := Lib.hid (Own.owns_below HLV.out hb78)
                        have HB8X := Lib.hid hb8
                        have HOWN8 := Lib.hid hown
                        have HPUT8 := Lib.hid hput
                        have HA0X := Lib.hid ha0
                        have HA1X := Lib.hid ha1
                        have hC8 : C' ≤ Y8.heap.size := Nat.le_trans hC4 hb8.size
                        rw [hY8]
                        clear d8 hown hput hY8 hb78 hb8 ha0 ha1 hcq
                        refine append_two Tryd.underlying35 infoField rfl (by decide) rfl (.tmp 140) (.tmp 151) rfl C' (.slice fa j fcap) j ys' rfl (by have := HOWN8.out; rw [HF.out] at this; exact this) Y7.heap.size 1 rfl (.string (S nm)) (.slice (some ⟨z6, 0, none⟩) 1 1) HA0X.out HA1X.out rfl rfl (by omega) hC8 ?_
                        intro v9 y9 h9 h10
                        obtain ⟨a9, c9, rfl, _⟩ := own_shape h9
                        have hg9 := HPUT8.out y9 h10
                        obtain ⟨⟨e1, e2⟩, e3⟩ := hg9
                        have e4 := e3 nm (trimL r) (.slice (some ⟨z6, 0, none⟩) 1 1) (.slice a9 (j + 1) c9) HLV8.out (by rw [HF.out]; exact h9)
                        rw [HD.out, Nat.mul_comm 2 D] at e1 e2 e4
                        have E4 := Lib.hid e4
                        clear h9 h10 e3 e4
                        change _ ∧ _
                        refine ⟨fun hh => absurd hh (by decide), ?_⟩
                        refine Reg.T_only 17 rfl (by kernel_rfl) ?_
                        go_wp2_with fail
                        change _ ∧ _
                        refine ⟨fun hh => absurd hh (by decide), ?_⟩
                        refine Reg.T_only 18 rfl (by kernel_rfl) ?_
                        go_wp2_with fail
                        change _ ∧ _
                        refine ⟨fun hh => absurd hh (by decide), ?_⟩
                        refine Reg.T_only 19 rfl (by kernel_rfl) ?_
                        go_wp2_with fail
                        change _ ∧ _
                        refine ⟨fun hh => absurd hh (by decide), ?_⟩
                        refine Reg.T_done (by kernel_rfl) ?_
                        clear e1 e2
                        have hbF := (HB5.out.trans (HB8X.out.mono HBZ5.out)).trans E4.out.2.below
                        obtain ⟨w10, hw10⟩ : ∃ w10, w10 = y9.setCell ⟨g, D * 2 + 1, none⟩ (.slice a9 (j + 1) c9) := ⟨_, rfl⟩
                        have hm10 : MemZ w10 p (.slice (some ⟨g, 0, none⟩) (D + 1) csv) ⟨d, some (n0', (fs0 ++ [f0]), (nm, [trimL r]))⟩ := by rw [hw10]; exact E4.out.1
                        rw [← hw10] at hbF ⊢
                        have HM10 := Lib.hid hm10
                        have HBF := Lib.hid hbF
                        clear hm10 hbF hw10
                        go_wp2_with fail
                        refine ⟨⟨k + 1, ⟨d, some (n0', (fs0 ++ [f0]), (nm, [trimL r]))⟩, by omega, by go_num, rfl, HRUN2, HM10, HFIT2, HBF⟩, ?_⟩
                        simp [intOf]; omega
      · obtain rfl : k = L := by omega
        have hmc := MemZ.close HMZ.out
        have hcn : z.close.cur = none := by
          obtain ⟨d, q⟩ := z
          cases q <;> rfl
        have hmr : Mem wr p (.slice asv msv csv) z.all none := by
          have : Mem wr p (.slice asv msv csv) z.close.done (curM z.close) := hmc
          unfold curM at this
          rw [hcn] at this
          exact this
        have hia5 : Blk.Is wr w.heap.size 26 #[.int .i64 0, .int .i64 0] := (HBK.out.block _ HPW.out).trans HIA2.out
        have r50 : wr.cell? ⟨w.heap.size, 0, none⟩ = some (.int .i64 0) := hia5.at rfl
        have r51 : wr.cell? ⟨w.heap.size, 1, none⟩ = some (.int .i64 0) := hia5.at rfl
        have f50 := hia5.free 0
        have f51 := hia5.free 1
        have hfc := fit_close HFIT.out
        have HFC := Lib.hid hfc
        have HCN := Lib.hid hcn
        have HMR := Lib.hid hmr
        have HIA5 := Lib.hid hia5
        clear hmc hmr hia5 hfc hcn
        repeat (first | go_values | go_skip | go_guarded | go_step | go_upon | (simp only [Int.not_lt, Int.not_le] at *; go_simp))
        have hF : Blk.Is ((wr.setCell ⟨w.heap.size, 0, none⟩ (.int .i64 0)).setCell ⟨w.heap.size, 1, none⟩ (.int .i64 0)) w.heap.size 26 #[.int .i64 0, .int .i64 0] := Txt.two_set HIA5.out _ _
        have hBF : Below w.heap.size w ((wr.setCell ⟨w.heap.size, 0, none⟩ (.int .i64 0)).setCell ⟨w.heap.size, 1, none⟩ (.int .i64 0)) :=
          (((HB2.out.trans (HBK.out.mono (Nat.le_of_lt HPW.out)))).setCell (p := ⟨w.heap.size, 0, none⟩) (Nat.le_refl _) _).setCell (p := ⟨w.heap.size, 1, none⟩) (Nat.le_refl _) _
        have hMF : Mem ((wr.setCell ⟨w.heap.size, 0, none⟩ (.int .i64 0)).setCell ⟨w.heap.size, 1, none⟩ (.int .i64 0)) p (.slice asv msv csv) z.all none :=
          HMR.out.chg (S' := fun k => k = w.heap.size) (Blk.Chg.setAt (S := fun k => k = w.heap.size) (b := w.heap.size) (Blk.Chg.setAt (S := fun k => k = w.heap.size) (b := w.heap.size) (Blk.Chg.refl _ wr) rfl) rfl) fun e _ C sz v m zs hv hC k hk hk' => by
            have := own_lt hv hk
            have := HPW.out
            omega
        obtain ⟨V, hV⟩ : ∃ V, ((wr.setCell ⟨w.heap.size, 0, none⟩ (.int .i64 0)).setCell ⟨w.heap.size, 1, none⟩ (.int .i64 0)) = V := ⟨_, rfl⟩
        rw [hV] at hF hBF hMF ⊢
        have j0 : V.cell? ⟨w.heap.size, 0, none⟩ = some (.int .i64 0) := hF.at rfl
        have j1 : V.cell? ⟨w.heap.size, 1, none⟩ = some (.int .i64 0) := hF.at rfl
        have HMF := Lib.hid hMF
        clear r50 r51 f50 f51 hV hMF
        refine bodyPost_ret (by simp [results, Tryd.results12, go_sem, j0, j1]; try rfl) rfl ?_
        have hfm : Fit 70000 z.close := fit_mono HFC.out (by omega)
        refine ⟨_, z.all, 0, 0, rfl, ⟨ls, 0, n, HLR.out, .inr ⟨rfl, ?_⟩⟩, ⟨hfm.1, hfm.2.1⟩, HMF.out.read (m := 70000) (by decide) (fit_bnd hfm HCN.out (by omega)), hBF⟩
        have hr := HRUN.out
        rw [List.take_of_length_le (by unfold bytes; rw [List.length_map, HL.out]; exact Nat.le_refl _)] at hr
        unfold parse
        rw [hr]
  · have hne : ((er : Int) != 0) = true := by simp; omega
    obtain ⟨w2, hw2⟩ : ∃ w2, w1.alloc (.cells #[.int .i64 er, .int .i64 n] 26) = w2 := ⟨_, rfl⟩
    have i2 : Blk.Is w2 w1.heap.size 26 #[.int .i64 er, .int .i64 n] := by rw [← hw2]; exact Blk.Is.new w1 26 #[.int .i64 er, .int .i64 n]
    have ia2 : Blk.Is w2 w.heap.size 26 #[.int .i64 0, .int .i64 0] := by rw [← hw2]; exact ia1.alloc _
    have hb2 : Below w.heap.size w w2 := by rw [← hw2]; exact HB1.out.alloc HB1.out.size _
    have c20 : w2.cell? ⟨w1.heap.size, 0, none⟩ = some (.int .i64 er) := i2.at rfl
    have c21 : w2.cell? ⟨w1.heap.size, 1, none⟩ = some (.int .i64 n) := i2.at rfl
    have r20 : w2.cell? ⟨w.heap.size, 0, none⟩ = some (.int .i64 0) := ia2.at rfl
    have r21 : w2.cell? ⟨w.heap.size, 1, none⟩ = some (.int .i64 0) := ia2.at rfl
    have f20 := ia2.free 0
    have f21 := ia2.free 1
    have HI2 := Lib.hid i2
    have HIA2 := Lib.hid ia2
    have HB2 := Lib.hid hb2
    clear i2 ia2 hb2 ia1 HIA HB1 hw1
    go_wp2_with fail
    go_region
    repeat (first | go_values | go_skip | go_guarded | go_step | go_upon | (simp only [Int.not_lt, Int.not_le] at *; go_simp))
    have hF : Blk.Is ((w2.setCell ⟨w.heap.size, 0, none⟩ (.int .i64 er)).setCell ⟨w.heap.size, 1, none⟩ (.int .i64 n)).drew w.heap.size 26 #[.int .i64 er, .int .i64 n] := Txt.two_set HIA2.out _ _
    have hBF : Below w.heap.size w ((w2.setCell ⟨w.heap.size, 0, none⟩ (.int .i64 er)).setCell ⟨w.heap.size, 1, none⟩ (.int .i64 n)).drew :=
      ((HB2.out.setCell (p := ⟨w.heap.size, 0, none⟩) (Nat.le_refl _) _).setCell (p := ⟨w.heap.size, 1, none⟩) (Nat.le_refl _) _).drew
    obtain ⟨V, hV⟩ : ∃ V, ((w2.setCell ⟨w.heap.size, 0, none⟩ (.int .i64 er)).setCell ⟨w.heap.size, 1, none⟩ (.int .i64 n)).drew = V := ⟨_, rfl⟩
    rw [hV] at hF hBF ⊢
    have j0 : V.cell? ⟨w.heap.size, 0, none⟩ = some (.int .i64 er) := hF.at rfl
    have j1 : V.cell? ⟨w.heap.size, 1, none⟩ = some (.int .i64 n) := hF.at rfl
    clear c20 c21 r20 r21 f20 f21 hV hw2
    refine bodyPost_ret (by simp [results, Tryd.results12, go_sem, j0, j1]; try rfl) rfl ?_
    exact ⟨_, [], er, n, rfl, ⟨ls, er, n, HLR.out, .inl ⟨he, rfl, rfl, rfl⟩⟩, ⟨by simp, fun s hs => by cases hs⟩, Stzs.none _, hBF⟩
end Stz
end Go.Proofs.YtgolnfgkoolpoaaDoor

/-
The walk of the law ValueKinds.
-/
import Derived.Test.YtapmpdljapbpeaaGreatDoorValMades
import Derived.Test.YtapmpdljapbpeaaGreatDoorValBase
import Derived.Test.YtapmpdljapbpeaaGreatDoorRelUni
namespace Go.Proofs.YtapmpdljapbpeaaGreatDoor
open Go.RowKit
set_option linter.unusedSimpArgs false
set_option linter.unusedVariables false
namespace Va
open Ver (Bs li li_len S S_size S_li)
open Rl (At Pv Ats Pvs Clss Cls)
/-- Two new blocks. -/
theorem two_new (w : World) (T1 T2 : TypeId) (C1 C2 : Array Value) : ∃ W, (w.alloc (.cells C1 T1)).alloc (.cells C2 T2) = W ∧ Below w.heap.size w W ∧ W.heap.size = w.heap.size + 2 ∧ Blk.Is W w.heap.size T1 C1 ∧ Blk.Is W (w.heap.size + 1) T2 C2 := by
  have s1 : (w.alloc (.cells C1 T1)).heap.size = w.heap.size + 1 := by simp
  have i1 := Blk.Is.new w T1 C1
  have i2 := Blk.Is.new (w.alloc (.cells C1 T1)) T2 C2
  rw [s1] at i2
  exact ⟨_, rfl, ((Below.refl _ _).alloc (Nat.le_refl _) _).alloc (by omega) _, by simp, i1.alloc _, i2⟩
set_option maxRecDepth 100000 in
set_option maxHeartbeats 8000000 in
theorem kinds_walk (k n : Int) (s : ByteArray) (b : Bool) (vc va vp : Value) (lc : List (List At)) (la : List At) (lp : List Pv) (w : World) (h1 : Clss w vc lc) (h2 : Ats w va la) (h3 : Pvs w vp lp) :
    Calls Tryz.prog 3 #[.agg #[.int .i64 k, .string s, .int .i64 n, .bool b, vc, va, vp]] w fun e w' => e = .returned (.bool true) ∧ Below w.heap.size w w' := by
  have hB0 : Below w.heap.size w (w.alloc (.cells #[.int .i64 k, .string s, .int .i64 n, .bool b, vc, va, vp] 26)) := (Below.refl _ _).alloc (Nat.le_refl _) _
  have hI0 := Blk.Is.new w 26 #[.int .i64 k, .string s, .int .i64 n, .bool b, vc, va, vp]
  have cl := light_any k n s b vc va vp lc la lp _ (h1.below hB0) (h2.below hB0) (h3.below hB0)
  have ca := fun w => awake_any w
  obtain ⟨ac, cc, e1⟩ := h1.shape
  obtain ⟨aa, cc2, e2⟩ := h2.shape
  obtain ⟨ap, cc3, e3⟩ := h3.shape
  subst e1 e2 e3
  have H := Lib.hid (⟨h1, h2, h3⟩ : _ ∧ _ ∧ _)
  clear h1 h2 h3
  cases hG : light8 lc la lp with
  | false =>
    rw [hG] at cl
    clear hG H
    go_enter Tryz.func3, Tryz.ntmps3
    go_wp2_with fail
    refine cl.mono ?_
    rintro e w1 ⟨rfl, k1⟩
    have b1 := hB0.trans (k1.mono hB0.size)
    clear cl k1 hB0 hI0
    go_wp2_with fail
    refine (ca _).mono ?_
    rintro e w2 ⟨rfl, k2⟩
    have b2 := b1.trans (k2.mono b1.size)
    clear b1 k2 ca
    go_wp2_with fail
    go_ret
    exact ⟨rfl, b2⟩
  | true =>
    rw [hG] at cl
    have hcnt := light8_cnt hG
    clear hG
    go_enter Tryz.func3, Tryz.ntmps3
    go_wp2_with fail
    refine cl.mono ?_
    rintro e w1 ⟨rfl, k1⟩
    have b1 := hB0.trans (k1.mono hB0.size)
    have i1 : Blk.Is w1 w.heap.size 26 #[.int .i64 k, .string s, .int .i64 n, .bool b, .slice ac lc.length cc, .slice aa la.length cc2, .slice ap lp.length cc3] := (k1.block _ hI0.lt).trans hI0
    have hH : Has w1 (.slice ac lc.length cc) (.slice aa la.length cc2) (.slice ap lp.length cc3) lc la lp := ⟨⟨H.out.1.below b1, hcnt.1⟩, ⟨H.out.2.1.below b1, hcnt.2.1⟩, ⟨H.out.2.2.below b1, hcnt.2.2⟩⟩
    have cm := made_any k s n b _ _ _ lc la lp w1 hH
    have hsm := small_mk (k := k) (s := s) (n := n) (b := b) hcnt
    clear cl k1 hB0 hI0 hH H hcnt
    generalize mk k s n b lc la lp = x at *
    have c0 := i1.at (i := 0) rfl
    have c1 := i1.at (i := 1) rfl
    have c2 := i1.at (i := 2) rfl
    have c3 := i1.at (i := 3) rfl
    have c4 := i1.at (i := 4) rfl
    have c5 := i1.at (i := 5) rfl
    have c6 := i1.at (i := 6) rfl
    clear i1
    go_wp2_with fail
    refine cm.mono ?_
    rintro e w2 ⟨iv, rv, rfl, hV, ⟨uc, ua, up, rfl, hC, hA, hP⟩, k2⟩
    have b2 := b1.trans (k2.mono b1.size)
    clear b1 k2 cm c0 c1 c2 c3 c4 c5 c6
    obtain ⟨d1, d2, e1⟩ := hC.shape
    obtain ⟨d3, d4, e2⟩ := hA.shape
    obtain ⟨d5, d6, e3⟩ := hP.shape
    subst e1 e2 e3
    have ho := hV.one
    have hi1 : (Tryz.prog.info? 30).map (·.size) = some 1 := by kernel_rfl
    have hi7 : (Tryz.prog.info? 32).map (·.size) = some 7 := by kernel_rfl
    obtain ⟨W, hW, hbW, hsW, hI1, hI2⟩ := two_new w2 30 32 #[.nilIface] #[.string ⟨#[]⟩, .string ⟨#[]⟩, .int .i64 0, .bool false, .slice none 0 0, .slice none 0 0, .slice none 0 0]
    have hI3 : Blk.Is (W.setRow w2.heap.size #[iv]) (w2.heap.size + 1) 32 #[.string ⟨#[]⟩, .string ⟨#[]⟩, .int .i64 0, .bool false, .slice none 0 0, .slice none 0 0, .slice none 0 0] := hI2.rowOther _ (by omega)
    have HI := Lib.hid (⟨hI1, hI3⟩ : _ ∧ _)
    have HBW := Lib.hid (⟨hbW, hsW⟩ : _ ∧ _)
    have HV := Lib.hid (⟨hV, hC, hA, hP⟩ : _ ∧ _ ∧ _ ∧ _)
    clear hV hC hA hP hbW hsW hI1 hI2 hI3
    obtain ⟨W3, hW3⟩ : ∃ W3, (W.setRow w2.heap.size #[iv]).setRow (w2.heap.size + 1) #[.string x.kind, .string x.txt, .int .i64 x.cnt, .bool x.ye, .slice d1 x.cls.length d2, .slice d3 x.ats.length d4, .slice d5 x.pvs.length d6] = W3 := ⟨_, rfl⟩
    have j1 : Blk.Is W3 w2.heap.size 30 #[iv] := by rw [← hW3]; exact (HI.out.1.row _).rowOther _ (by omega)
    have j2 : Blk.Is W3 (w2.heap.size + 1) 32 #[.string x.kind, .string x.txt, .int .i64 x.cnt, .bool x.ye, .slice d1 x.cls.length d2, .slice d3 x.ats.length d4, .slice d5 x.pvs.length d6] := by rw [← hW3]; exact HI.out.2.row _
    have q2 : Below w2.heap.size w2 W3 := by rw [← hW3]; exact below_row (below_row HBW.out.1 (Nat.le_refl _) _) (Nat.le_succ _) _
    have b3 := b2.trans (q2.mono b2.size)
    have hV := HV.out.1.below q2
    have HY := Lib.hid (⟨HV.out.2.1.below q2, HV.out.2.2.1.below q2, HV.out.2.2.2.below q2⟩ : _ ∧ _ ∧ _)
    have v0 : W3.cell? ⟨w2.heap.size, 0, none⟩ = some iv := j1.at (i := 0) rfl
    go_wp2_with (first | (refine wpList_store_row rfl 30 (.tmp 3) (.tmp 25) rfl w2.heap.size #[iv] rfl rfl 30 #[.nilIface] HI.out.1 hi1 (by rfl) (by simp [ho]) ?_) | (refine wpList_store_row rfl 32 (.tmp 4) (.tmp 26) rfl (w2.heap.size + 1) #[.string x.kind, .string x.txt, .int .i64 x.cnt, .bool x.ye, .slice d1 x.cls.length d2, .slice d3 x.ats.length d4, .slice d5 x.pvs.length d6] rfl rfl 32 #[.string ⟨#[]⟩, .string ⟨#[]⟩, .int .i64 0, .bool false, .slice none 0 0, .slice none 0 0, .slice none 0 0] HI.out.2 hi7 (by rfl) (by simp [Value.oneCell']) ?_))
    clear hW hW3 q2 HV HBW HI hi1 hi7 b2
    refine (text_x hV).mono ?_
    rintro e w4 ⟨rfl, k4⟩
    have j1 := Rl.is_on j1 k4
    have j2 := Rl.is_on j2 k4
    have b4 := b3.trans (k4.mono b3.size)
    have hV := hV.below k4
    have HY := Lib.hid (⟨HY.out.1.below k4, HY.out.2.1.below k4, HY.out.2.2.below k4⟩ : _ ∧ _ ∧ _)
    have v0 : w4.cell? ⟨w2.heap.size, 0, none⟩ = some iv := j1.at (i := 0) rfl
    clear k4 b3
    go_wp2_with fail
    refine (count_x hV).mono ?_
    rintro e w5 ⟨rfl, k5⟩
    have j1 := Rl.is_on j1 k5
    have j2 := Rl.is_on j2 k5
    have b5 := b4.trans (k5.mono b4.size)
    have hV := hV.below k5
    have HY := Lib.hid (⟨HY.out.1.below k5, HY.out.2.1.below k5, HY.out.2.2.below k5⟩ : _ ∧ _ ∧ _)
    have v0 : w5.cell? ⟨w2.heap.size, 0, none⟩ = some iv := j1.at (i := 0) rfl
    clear k5 b4
    go_wp2_with fail
    refine (yes_x hV).mono ?_
    rintro e w6 ⟨rfl, k6⟩
    have j1 := Rl.is_on j1 k6
    have j2 := Rl.is_on j2 k6
    have b6 := b5.trans (k6.mono b5.size)
    have hV := hV.below k6
    have HY := Lib.hid (⟨HY.out.1.below k6, HY.out.2.1.below k6, HY.out.2.2.below k6⟩ : _ ∧ _ ∧ _)
    have v0 : w6.cell? ⟨w2.heap.size, 0, none⟩ = some iv := j1.at (i := 0) rfl
    clear k6 b5
    go_wp2_with fail
    refine (clauses_x hV hsm).mono ?_
    rintro e w7 ⟨uC, rfl, huC, k7⟩
    have j1 := Rl.is_on j1 k7
    have j2 := Rl.is_on j2 k7
    have b7 := b6.trans (k7.mono b6.size)
    have hV := hV.below k7
    have HY := Lib.hid (⟨HY.out.1.below k7, HY.out.2.1.below k7, HY.out.2.2.below k7⟩ : _ ∧ _ ∧ _)
    have HuC := Lib.hid huC.here
    have v0 : w7.cell? ⟨w2.heap.size, 0, none⟩ = some iv := j1.at (i := 0) rfl
    obtain ⟨uCa, uCc, rfl⟩ := huC.here.shape
    clear k7 b6 huC
    go_wp2_with fail
    refine (atoms_x hV hsm).mono ?_
    rintro e w8 ⟨uA, rfl, huA, k8⟩
    have j1 := Rl.is_on j1 k8
    have j2 := Rl.is_on j2 k8
    have b8 := b7.trans (k8.mono b7.size)
    have hV := hV.below k8
    have HY := Lib.hid (⟨HY.out.1.below k8, HY.out.2.1.below k8, HY.out.2.2.below k8⟩ : _ ∧ _ ∧ _)
    have HuA := Lib.hid huA.here
    have HuC := Lib.hid (HuC.out.below k8)
    have v0 : w8.cell? ⟨w2.heap.size, 0, none⟩ = some iv := j1.at (i := 0) rfl
    obtain ⟨uAa, uAc, rfl⟩ := huA.here.shape
    clear k8 b7 huA
    go_wp2_with fail
    refine (provs_x hV hsm).mono ?_
    rintro e w9 ⟨uP, rfl, huP, k9⟩
    have j1 := Rl.is_on j1 k9
    have j2 := Rl.is_on j2 k9
    have b9 := b8.trans (k9.mono b8.size)
    have hV := hV.below k9
    have HY := Lib.hid (⟨HY.out.1.below k9, HY.out.2.1.below k9, HY.out.2.2.below k9⟩ : _ ∧ _ ∧ _)
    have HuP := Lib.hid huP.here
    have HuC := Lib.hid (HuC.out.below k9)
    have HuA := Lib.hid (HuA.out.below k9)
    have v0 : w9.cell? ⟨w2.heap.size, 0, none⟩ = some iv := j1.at (i := 0) rfl
    obtain ⟨uPa, uPc, rfl⟩ := huP.here.shape
    clear k9 b8 huP
    have y0 := j2.at (i := 0) rfl
    have y1 := j2.at (i := 1) rfl
    have y2 := j2.at (i := 2) rfl
    have y3 := j2.at (i := 3) rfl
    have y4 := j2.at (i := 4) rfl
    have y5 := j2.at (i := 5) rfl
    have y6 := j2.at (i := 6) rfl
    have ck := kind_x hV
    have HJ := Lib.hid j2
    have r1 := kind_isT x
    have r2 := kind_isN x
    have r3 := kind_isY x
    have r4 := kind_isC x
    have r5 := kind_isA x
    have r6 := kind_isP x
    generalize x.isT = t1 at *
    generalize x.isN = t2 at *
    generalize x.isY = t3 at *
    generalize x.isC = t4 at *
    generalize x.isA = t5 at *
    generalize x.isP = t6 at *
    clear j1 j2 hV ho
    go_wp2_with fail
    refine ck.mono ?_
    rintro e w10 ⟨rfl, k10⟩
    have HJ := Lib.hid (Rl.is_on HJ.out k10)
    have b10 := b9.trans (k10.mono b9.size)
    have HY := Lib.hid (⟨HY.out.1.below k10, HY.out.2.1.below k10, HY.out.2.2.below k10⟩ : _ ∧ _ ∧ _)
    have HuC := Lib.hid (HuC.out.below k10)
    have HuA := Lib.hid (HuA.out.below k10)
    have HuP := Lib.hid (HuP.out.below k10)
    clear k10 b9 ck v0 y0 y1 y2 y3 y4 y5 y6
    have y1 := HJ.out.at (i := 1) rfl
    have y2 := HJ.out.at (i := 2) rfl
    have y3 := HJ.out.at (i := 3) rfl
    have y4 := HJ.out.at (i := 4) rfl
    have y5 := HJ.out.at (i := 5) rfl
    have y6 := HJ.out.at (i := 6) rfl
    have sC := Rl.sameClauses_any _ _ _ _ w10 HuC.out HY.out.1
    rw [decide_eq_true rfl] at sC
    go_wp2_with fail
    refine sC.mono ?_
    rintro e w11 ⟨rfl, hd⟩
    have k11 := Rl.drewn_below hd
    have HJ := Lib.hid (Rl.is_on HJ.out k11)
    have b11 := b10.trans (k11.mono b10.size)
    have HY := Lib.hid (⟨HY.out.1.below k11, HY.out.2.1.below k11, HY.out.2.2.below k11⟩ : _ ∧ _ ∧ _)
    have HuA := Lib.hid (HuA.out.below k11)
    have HuP := Lib.hid (HuP.out.below k11)
    clear k11 hd b10 sC y1 y2 y3 y4 y5 y6
    have y1 := HJ.out.at (i := 1) rfl
    have y2 := HJ.out.at (i := 2) rfl
    have y3 := HJ.out.at (i := 3) rfl
    have y4 := HJ.out.at (i := 4) rfl
    have y5 := HJ.out.at (i := 5) rfl
    have y6 := HJ.out.at (i := 6) rfl
    have sA := Rl.sameAtoms_any _ _ _ _ w11 HuA.out HY.out.2.1
    rw [decide_eq_true rfl] at sA
    go_wp2_with fail
    refine sA.mono ?_
    rintro e w12 ⟨rfl, hd⟩
    have k12 := Rl.drewn_below hd
    have HJ := Lib.hid (Rl.is_on HJ.out k12)
    have b12 := b11.trans (k12.mono b11.size)
    have HY := Lib.hid (⟨HY.out.1.below k12, HY.out.2.1.below k12, HY.out.2.2.below k12⟩ : _ ∧ _ ∧ _)
    have HuA := Lib.hid (HuA.out.below k12)
    have HuP := Lib.hid (HuP.out.below k12)
    clear k12 hd b11 sA y1 y2 y3 y4 y5 y6
    have y1 := HJ.out.at (i := 1) rfl
    have y2 := HJ.out.at (i := 2) rfl
    have y3 := HJ.out.at (i := 3) rfl
    have y4 := HJ.out.at (i := 4) rfl
    have y5 := HJ.out.at (i := 5) rfl
    have y6 := HJ.out.at (i := 6) rfl
    have sP := Rl.sameProvides_any _ _ _ _ w12 HuP.out HY.out.2.2
    rw [decide_eq_true rfl] at sP
    go_wp2_with fail
    refine sP.mono ?_
    rintro e w13 ⟨rfl, hd⟩
    have k13 := Rl.drewn_below hd
    have HJ := Lib.hid (Rl.is_on HJ.out k13)
    have b13 := b12.trans (k13.mono b12.size)
    have HY := Lib.hid (⟨HY.out.1.below k13, HY.out.2.1.below k13, HY.out.2.2.below k13⟩ : _ ∧ _ ∧ _)
    have HuA := Lib.hid (HuA.out.below k13)
    have HuP := Lib.hid (HuP.out.below k13)
    clear k13 hd b12 sP y1 y2 y3 y4 y5 y6
    have y1 := HJ.out.at (i := 1) rfl
    have y2 := HJ.out.at (i := 2) rfl
    have y3 := HJ.out.at (i := 3) rfl
    have y4 := HJ.out.at (i := 4) rfl
    have y5 := HJ.out.at (i := 5) rfl
    have y6 := HJ.out.at (i := 6) rfl
    go_wp2_with fail
    refine (ca _).mono ?_
    rintro e w14 ⟨rfl, k14⟩
    have b14 := b13.trans (k14.mono b13.size)
    clear k14 b13 y1 y2 y3 y4 y5 y6
    go_wp2_with fail
    go_ret
    exact ⟨rfl, b14⟩
end Va
end Go.Proofs.YtapmpdljapbpeaaGreatDoor

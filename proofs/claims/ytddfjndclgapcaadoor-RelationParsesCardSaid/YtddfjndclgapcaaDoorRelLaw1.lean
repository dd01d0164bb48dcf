/-
The walk of the law RelationParses.
-/
import Derived.Test.YtddfjndclgapcaaDoorRelUni
import Derived.Test.YtddfjndclgapcaaDoorRelParse
import Derived.Test.YtddfjndclgapcaaDoorRelWriteP
namespace Go.Proofs.YtddfjndclgapcaaDoor
open Go.RowKit
set_option linter.unusedSimpArgs false
set_option linter.unusedVariables false
namespace Rl
open Ver (Bs li li_len li_drop S S_self S_of S_size S_li below_drewN empty_is empty_no MaxLen Signs)
theorem tr {w a b : World} (h : Below w.heap.size w a) (k : Below a.heap.size a b) : Below w.heap.size w b := h.trans (k.mono h.size)
set_option maxRecDepth 100000 in
set_option maxHeartbeats 8000000 in
theorem parses_walk (s : ByteArray) (w : World) (z0 : s.size ≤ 140737488351232) (hv : Vars w) :
    Calls Tryd.prog 3 #[.string s] w fun e w' => e = .returned (.bool true) ∧ Below w.heap.size w w' := by
  have hs : s.size ≤ 4611686018427387904 := by omega
  have c1 := fun w hv => uParse s w hs hv
  have c2 := fun w => uRelation s w hs
  have c3 := fun w hv => uAtoms s w hs hv
  have c4 := fun w => uAtomList s w hs
  have c5 := fun w hv => uProvides s w hs hv
  have c6 := fun w => uProvideList s w hs
  have c7 := fun w hv => ParseAtom_any s w hs hv
  have h1 := fun a h => one_some (s := li s) (a := a) h
  have h2 := fun h a => one_none (s := li s) h a
  have HV := Lib.hid hv
  unfold UC at c1 c2
  unfold UA at c3 c4
  unfold UP at c5 c6
  clear hv hs z0
  generalize hC : whole rdC (li s) = oC at *
  generalize whole rdA (li s) = oA at *
  generalize whole rdP (li s) = oP at *
  generalize one (li s) = oO at *
  have H1 := Lib.hid h1
  have H2 := Lib.hid h2
  clear h1 h2 hC
  have eC : (erO oC != erO oC) = false := by simp
  have eA : (erO oA != erO oA) = false := by simp
  have eP : (erO oP != erO oP) = false := by simp
  generalize erO oC = rC at *
  generalize erO oA = rA at *
  generalize erO oP = rP at *
  go_enter Tryd.func3, Tryd.ntmps3
  go_wp2_with fail
  refine (c1 _ HV.out).mono ?_
  rintro e w1 ⟨k1, v1, rfl, m1⟩
  have V1 := Lib.hid (HV.out.on k1)
  have K1 := Lib.hid k1
  have M1 := Lib.hid m1
  clear k1 m1 c1
  go_wp2_with fail
  refine (c2 _).mono ?_
  rintro e w2 ⟨k2, v2, rfl, m2⟩
  have V2 := Lib.hid (V1.out.on k2)
  have K2 := Lib.hid (tr K1.out k2)
  have M2 := Lib.hid (⟨M1.out.below k2, m2⟩ : _ ∧ _)
  clear k2 m2 c2 M1 K1 V1
  go_wp2_with fail
  refine (c3 _ V2.out).mono ?_
  rintro e w3 ⟨k3, v3, rfl, m3⟩
  have V3 := Lib.hid (V2.out.on k3)
  have K3 := Lib.hid (tr K2.out k3)
  have M3 := Lib.hid (⟨M2.out.1.below k3, M2.out.2.below k3, m3⟩ : _ ∧ _ ∧ _)
  clear k3 m3 c3 M2 K2 V2
  go_wp2_with fail
  refine (c4 _).mono ?_
  rintro e w4 ⟨k4, v4, rfl, m4⟩
  have V4 := Lib.hid (V3.out.on k4)
  have K4 := Lib.hid (tr K3.out k4)
  have M4 := Lib.hid (⟨M3.out.1.below k4, M3.out.2.1.below k4, M3.out.2.2.below k4, m4⟩ : _ ∧ _ ∧ _ ∧ _)
  clear k4 m4 c4 M3 K3 V3
  go_wp2_with fail
  refine (c5 _ V4.out).mono ?_
  rintro e w5 ⟨k5, v5, rfl, m5⟩
  have V5 := Lib.hid (V4.out.on k5)
  have K5 := Lib.hid (tr K4.out k5)
  have M5 := Lib.hid (⟨M4.out.1.below k5, M4.out.2.1.below k5, M4.out.2.2.1.below k5, M4.out.2.2.2.below k5, m5⟩ : _ ∧ _ ∧ _ ∧ _ ∧ _)
  clear k5 m5 c5 M4 K4 V4
  go_wp2_with fail
  refine (c6 _).mono ?_
  rintro e w6 ⟨k6, v6, rfl, m6⟩
  have V6 := Lib.hid (V5.out.on k6)
  have K6 := Lib.hid (tr K5.out k6)
  have M6 := Lib.hid (⟨M5.out.1.below k6, M5.out.2.1.below k6, M5.out.2.2.1.below k6, M5.out.2.2.2.1.below k6, M5.out.2.2.2.2.below k6, m6⟩ : _ ∧ _ ∧ _ ∧ _ ∧ _ ∧ _)
  clear k6 m6 c6 M5 K5 V5
  have s1 := sameClauses_any v1 v2 _ _ w6 M6.out.1 M6.out.2.1
  rw [decide_eq_true rfl] at s1
  obtain ⟨a1, b1, e1⟩ := M6.out.1.shape
  obtain ⟨a2, b2, e2⟩ := M6.out.2.1.shape
  obtain ⟨a3, b3, e3⟩ := M6.out.2.2.1.shape
  obtain ⟨a4, b4, e4⟩ := M6.out.2.2.2.1.shape
  obtain ⟨a5, b5, e5⟩ := M6.out.2.2.2.2.1.shape
  obtain ⟨a6, b6, e6⟩ := M6.out.2.2.2.2.2.shape
  subst e1 e2 e3 e4 e5 e6
  go_wp2_with fail
  refine s1.mono ?_
  rintro e w7 ⟨rfl, hd7⟩
  have kb7 := drewn_below hd7
  have V7 := Lib.hid (V6.out.on kb7)
  have K7 := Lib.hid (tr K6.out kb7)
  have M7 := Lib.hid (⟨M6.out.2.1.below kb7, M6.out.2.2.1.below kb7, M6.out.2.2.2.1.below kb7, M6.out.2.2.2.2.1.below kb7, M6.out.2.2.2.2.2.below kb7⟩ : _ ∧ _ ∧ _ ∧ _ ∧ _)
  have s2 := sameAtoms_any _ _ _ _ w7 M7.out.2.1 M7.out.2.2.1
  rw [decide_eq_true rfl] at s2
  clear s1 kb7 hd7 M6 K6 V6
  go_wp2_with fail
  refine s2.mono ?_
  rintro e w8 ⟨rfl, hd8⟩
  have kb8 := drewn_below hd8
  have V8 := Lib.hid (V7.out.on kb8)
  have K8 := Lib.hid (tr K7.out kb8)
  have M8 := Lib.hid (⟨M7.out.1.below kb8, M7.out.2.2.2.1.below kb8, M7.out.2.2.2.2.below kb8⟩ : _ ∧ _ ∧ _)
  have s3 := sameProvides_any _ _ _ _ w8 M8.out.2.1 M8.out.2.2
  rw [decide_eq_true rfl] at s3
  clear s2 kb8 hd8 M7 K7 V7
  go_wp2_with fail
  refine s3.mono ?_
  rintro e w9 ⟨rfl, hd9⟩
  have kb9 := drewn_below hd9
  have V9 := Lib.hid (V8.out.on kb9)
  have K9 := Lib.hid (tr K8.out kb9)
  have M9 := Lib.hid (M8.out.1.below kb9)
  clear s3 kb9 hd9 M8 K8 V8
  have c8 := c7 w9 V9.out
  unfold OneA at c8
  cases oO with
  | some a =>
    have hC := H1.out a rfl
    subst hC
    simp only [aV] at c8
    have hcl := M9.out
    obtain ⟨_, a2', b2', e2, _, hcl2⟩ := hcl
    simp only [Value.slice.injEq, true_and] at e2
    obtain ⟨rfl, rfl⟩ := e2
    obtain ⟨kb, off, rfl, hcl3⟩ := hcl2 (Nat.zero_lt_succ 0)
    obtain ⟨u, x0, y0⟩ := hcl3 0 (Nat.zero_lt_succ 0)
    obtain ⟨_, ua, uc, rfl, _, hy⟩ := y0
    obtain ⟨ka, oa, rfl, hy2⟩ := hy (Nat.zero_lt_succ 0)
    obtain ⟨q0, q1, q2⟩ := hy2 0 (Nat.zero_lt_succ 0)
    have x0' : w9.cell? ⟨kb, off, none⟩ = some (.slice (some ⟨ka, oa, none⟩) 1 uc) := x0
    have q0' : w9.cell? ⟨ka, oa, none⟩ = some (.string (S a.1)) := q0
    have q1' : w9.cell? ⟨ka, oa + 1, none⟩ = some (.int .i64 a.2.1) := q1
    have q2' : w9.cell? ⟨ka, oa + 2, none⟩ = some (.string (S a.2.2)) := q2
    have HQ := Lib.hid (⟨x0', q0', q1', q2'⟩ : _ ∧ _ ∧ _ ∧ _)
    have hl1 : (xsO (Except.ok [[a]])).length = 1 := rfl
    rw [hl1]
    have heq := eqA2 a a
    have hg := guardA
    rw [decide_eq_true rfl] at heq
    unfold aV at heq
    clear x0 q0 q1 q2 x0' q0' q1' q2' hy hy2 hcl2 hcl3 M9 hl1 H1 H2 c7
    go_wp2_with fail
    refine c8.mono ?_
    rintro e w10 ⟨k10, rfl⟩
    have hb := Below.trans k10 ((Below.refl w10.heap.size w10).alloc (Nat.le_refl _) (.cells #[.string (S a.1), .int .i64 a.2.1, .string (S a.2.2)] 36) |>.mono k10.size)
    obtain ⟨i0, i1, i2⟩ := cells3 (Blk.Is.new w10 36 #[.string (S a.1), .int .i64 a.2.1, .string (S a.2.2)])
    have p0 := cell_on HQ.out.1 hb
    have p1 := cell_on HQ.out.2.1 hb
    have p2 := cell_on HQ.out.2.2.1 hb
    have p3 := cell_on HQ.out.2.2.2 hb
    have VA := Lib.hid (V9.out.on hb)
    have KA := Lib.hid (tr K9.out hb)
    clear hb k10 V9 K9 HQ c8
    obtain ⟨b, hbb⟩ : ∃ b, w10.heap.size = b := ⟨_, rfl⟩
    rw [hbb] at i0 i1 i2
    go_wp2_with fail
    clear hbb
    generalize w10.alloc (.cells #[.string (S a.1), .int .i64 a.2.1, .string (S a.2.2)] 36) = W at *
    refine Reg.From.start (by kernel_rfl) ?_
    refine Reg.From.quiet 12 (by kernel_rfl) (fun u => ∃ n, u = W.drewN n) ⟨1, rfl⟩ ?_
    simp only [List.drop_zero, Nat.sub_zero, List.take_succ_cons, List.take_zero]
    repeat (go_big_quiet_step (fail))
    refine wpQuiet_nil ?_
    intro u0 hu0
    have kb0 := drewn_below hu0
    have aw := awake_any u0 (VA.out.on kb0)
    have KB := Lib.hid (tr KA.out kb0)
    clear hu0 kb0 VA KA p0 p1 p2 p3 i0 i1 i2 heq hg
    refine Reg.From.op 12 (by kernel_rfl) ?_
    simp only [List.drop_succ_cons, List.drop_zero, List.take_succ_cons, List.take_zero]
    go_wp2_with fail
    refine aw.mono ?_
    rintro e u1 ⟨rfl, k11⟩
    have KC := Lib.hid (tr KB.out k11)
    clear KB k11 aw
    go_wp2_with fail
    change Reg.From _ _ _ 13 _ _
    refine Reg.From.last (k := 13) (by kernel_rfl) (fun v => ∃ n, v = u1.drewN n) ⟨0, rfl⟩ ?_
    simp only [List.drop_succ_cons, List.drop_zero]
    repeat (go_big_quiet_step (fail))
    refine wpQuiet_nil ?_
    intro u2 hu2
    have KD := Lib.hid (tr KC.out (drewn_below hu2))
    clear hu2 KC
    go_wp2_with fail
    go_ret
    exact ⟨rfl, KD.out⟩
  | none =>
    have hC := H2.out rfl
    simp only [zA] at c8
    obtain ⟨_, a2', b2', e2, _, hcl2⟩ := M9.out
    simp only [Value.slice.injEq, true_and] at e2
    obtain ⟨rfl, rfl⟩ := e2
    have hxs : ∀ a, xsO oC ≠ [[a]] := fun a h => by
      cases oC with
      | error e => cases h
      | ok xs => exact hC a (congrArg Except.ok h)
    have heq := eqA2 ([], 0, []) ([], 0, [])
    have hg := guardA
    rw [decide_eq_true rfl] at heq
    unfold aV at heq
    simp only [show S [] = ⟨#[]⟩ from rfl] at heq
    generalize xsO oC = xs at *
    clear H1 H2 hC c7 M9
    by_cases hlen : xs.length = 1
    · have hlm : ((xs.length : Int) == 1) = true := by simp [hlen]
      obtain ⟨kb, off, rfl, hcl3⟩ := hcl2 (by omega)
      obtain ⟨u, x0, y0⟩ := hcl3 0 (by omega)
      obtain ⟨_, ua, uc, rfl, _, _⟩ := y0
      have hc1 : (xs.getD 0 []).length ≠ 1 := fun h => by
        obtain ⟨c, hc⟩ := List.length_eq_one_iff.1 hlen
        subst hc
        obtain ⟨a, ha⟩ := List.length_eq_one_iff.1 h
        have : [c].getD 0 [] = c := rfl
        rw [this] at ha
        exact hxs a (by rw [ha])
      have x0' : w9.cell? ⟨kb, off, none⟩ = some (.slice ua (xs.getD 0 []).length uc) := x0
      have hcm : (((xs.getD 0 []).length : Int) == 1) = false := by rw [beq_eq_false_iff_ne]; intro h; exact hc1 (by omega)
      generalize (xs.getD 0 []).length = m at *
      have X0 := Lib.hid x0'
      clear hcl2 hcl3 hxs x0 x0' hc1
      have h1l : (0 : Int) < (xs.length : Int) := by omega
      clear hlen
      generalize xs.length = n at *
      go_wp2_with fail
      refine c8.mono ?_
      rintro e w10 ⟨k10, rfl⟩
      have hb := Below.trans k10 ((Below.refl w10.heap.size w10).alloc (Nat.le_refl _) (.cells #[.string ⟨#[]⟩, .int .i64 0, .string ⟨#[]⟩] 36) |>.mono k10.size)
      obtain ⟨i0, i1, i2⟩ := cells3 (Blk.Is.new w10 36 #[.string ⟨#[]⟩, .int .i64 0, .string ⟨#[]⟩])
      have VA := Lib.hid (V9.out.on hb)
      have KA := Lib.hid (tr K9.out hb)
      have p0 := cell_on X0.out hb
      clear hb k10 V9 K9 c8
      obtain ⟨b, hbb⟩ : ∃ b, w10.heap.size = b := ⟨_, rfl⟩
      rw [hbb] at i0 i1 i2
      go_wp2_with fail
      clear hbb
      generalize w10.alloc (.cells #[.string ⟨#[]⟩, .int .i64 0, .string ⟨#[]⟩] 36) = W at *
      refine (awake_any W VA.out).mono ?_
      rintro e u1 ⟨rfl, k11⟩
      have KC := Lib.hid (tr KA.out k11)
      clear KA k11
      go_wp2_with fail
      go_ret
      exact ⟨rfl, KC.out⟩
    · have hlm : ((xs.length : Int) == 1) = false := by simp; omega
      clear hcl2 hxs hlen
      generalize xs.length = n at *
      go_wp2_with fail
      refine c8.mono ?_
      rintro e w10 ⟨k10, rfl⟩
      have hb := Below.trans k10 ((Below.refl w10.heap.size w10).alloc (Nat.le_refl _) (.cells #[.string ⟨#[]⟩, .int .i64 0, .string ⟨#[]⟩] 36) |>.mono k10.size)
      obtain ⟨i0, i1, i2⟩ := cells3 (Blk.Is.new w10 36 #[.string ⟨#[]⟩, .int .i64 0, .string ⟨#[]⟩])
      have VA := Lib.hid (V9.out.on hb)
      have KA := Lib.hid (tr K9.out hb)
      clear hb k10 V9 K9 c8
      obtain ⟨b, hbb⟩ : ∃ b, w10.heap.size = b := ⟨_, rfl⟩
      rw [hbb] at i0 i1 i2
      go_wp2_with fail
      clear hbb
      generalize w10.alloc (.cells #[.string ⟨#[]⟩, .int .i64 0, .string ⟨#[]⟩] 36) = W at *
      refine (awake_any W VA.out).mono ?_
      rintro e u1 ⟨rfl, k11⟩
      have KC := Lib.hid (tr KA.out k11)
      clear KA k11
      go_wp2_with fail
      go_ret
      exact ⟨rfl, KC.out⟩
end Rl
end Go.Proofs.YtddfjndclgapcaaDoor

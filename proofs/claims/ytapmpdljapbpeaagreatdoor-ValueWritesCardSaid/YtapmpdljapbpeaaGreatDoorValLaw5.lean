/-
The walk of the law ValueWrites.
-/
import Derived.Test.YtapmpdljapbpeaaGreatDoorValWrite
namespace Go.Proofs.YtapmpdljapbpeaaGreatDoor
open Go.RowKit
set_option linter.unusedSimpArgs false
set_option linter.unusedVariables false
namespace Va
open Ver (Bs li li_len S S_size S_li)
open Rl (At Pv Ats Pvs Clss Cls Vars LimA LimP LimC)
theorem lim_mk {k : Int} {s : ByteArray} {n : Int} {b : Bool} {lc : List (List At)} {la : List At} {lp : List Pv} (hL : LimC lc ∧ LimA la ∧ LimP lp ∧ (Lit.int .i64 n).wf = true) (h : (lc.length ≤ 30 ∧ ∀ c ∈ lc, c.length ≤ 30) ∧ la.length ≤ 30 ∧ lp.length ≤ 30) : (mk k s n b lc la lp).Lim ∧ ((mk k s n b lc la lp).ats.length ≤ 30 ∧ (mk k s n b lc la lp).pvs.length ≤ 30) := by
  have nC : LimC [] := fun c hc => by cases hc
  have nA : LimA [] := fun c hc => by cases hc
  have nP : LimP [] := fun c hc => by cases hc
  have n0 : (Lit.int .i64 0).wf = true := by decide
  unfold mk
  repeat' split
  · exact ⟨⟨nC, nA, nP, n0⟩, Nat.zero_le _, Nat.zero_le _⟩
  · exact ⟨⟨nC, nA, nP, hL.2.2.2⟩, Nat.zero_le _, Nat.zero_le _⟩
  · exact ⟨⟨nC, nA, nP, n0⟩, Nat.zero_le _, Nat.zero_le _⟩
  · exact ⟨⟨hL.1, nA, nP, n0⟩, Nat.zero_le _, Nat.zero_le _⟩
  · exact ⟨⟨nC, hL.2.1, nP, n0⟩, h.2.1, Nat.zero_le _⟩
  · exact ⟨⟨nC, nA, hL.2.2.1, n0⟩, Nat.zero_le _, h.2.2⟩
  · exact ⟨⟨nC, nA, nP, n0⟩, Nat.zero_le _, Nat.zero_le _⟩
/-- Two new blocks. -/
theorem two_new (w : World) (T1 T2 : TypeId) (C1 C2 : Array Value) : ∃ W, (w.alloc (.cells C1 T1)).alloc (.cells C2 T2) = W ∧ Below w.heap.size w W ∧ W.heap.size = w.heap.size + 2 ∧ Blk.Is W w.heap.size T1 C1 ∧ Blk.Is W (w.heap.size + 1) T2 C2 := by
  have s1 : (w.alloc (.cells C1 T1)).heap.size = w.heap.size + 1 := by simp
  have i1 := Blk.Is.new w T1 C1
  have i2 := Blk.Is.new (w.alloc (.cells C1 T1)) T2 C2
  rw [s1] at i2
  exact ⟨_, rfl, ((Below.refl _ _).alloc (Nat.le_refl _) _).alloc (by omega) _, by simp, i1.alloc _, i2⟩
set_option maxRecDepth 100000 in
set_option maxHeartbeats 8000000 in
theorem writes_walk (k n : Int) (s : ByteArray) (b : Bool) (vc va vp : Value) (lc : List (List At)) (la : List At) (lp : List Pv) (w : World) (h1 : Clss w vc lc) (h2 : Ats w va la) (h3 : Pvs w vp lp) (hL : LimC lc ∧ LimA la ∧ LimP lp ∧ (Lit.int .i64 n).wf = true) (hv : Vars w) (hp : Pow w) :
    Calls Tryz.prog 6 #[.agg #[.int .i64 k, .string s, .int .i64 n, .bool b, vc, va, vp]] w fun e w' => e = .returned (.bool true) ∧ Below w.heap.size w w' := by
  have hB0 : Below w.heap.size w (w.alloc (.cells #[.int .i64 k, .string s, .int .i64 n, .bool b, vc, va, vp] 26)) := (Below.refl _ _).alloc (Nat.le_refl _) _
  have hI0 := Blk.Is.new w 26 #[.int .i64 k, .string s, .int .i64 n, .bool b, vc, va, vp]
  have cl := light_any k n s b vc va vp lc la lp _ (h1.below hB0) (h2.below hB0) (h3.below hB0)
  have ca := fun w => awake_any w
  obtain ⟨ac, cc, e1⟩ := h1.shape
  obtain ⟨aa, cc2, e2⟩ := h2.shape
  obtain ⟨ap, cc3, e3⟩ := h3.shape
  subst e1 e2 e3
  have H := Lib.hid (⟨h1, h2, h3⟩ : _ ∧ _ ∧ _)
  clear h1 h2 h3
  cases hG : light8 lc la lp with
  | false =>
    rw [hG] at cl
    clear hG H
    go_enter Tryz.func6, Tryz.ntmps6
    go_wp2_with fail
    refine cl.mono ?_
    rintro e w1 ⟨rfl, k1⟩
    have b1 := hB0.trans (k1.mono hB0.size)
    clear cl k1 hB0 hI0
    go_wp2_with fail
    refine (ca _).mono ?_
    rintro e w2 ⟨rfl, k2⟩
    have b2 := b1.trans (k2.mono b1.size)
    clear b1 k2 ca
    go_wp2_with fail
    go_ret
    exact ⟨rfl, b2⟩
  | true =>
    rw [hG] at cl
    have hcnt := light8_cnt hG
    clear hG
    go_enter Tryz.func6, Tryz.ntmps6
    go_wp2_with fail
    refine cl.mono ?_
    rintro e w1 ⟨rfl, k1⟩
    have b1 := hB0.trans (k1.mono hB0.size)
    have i1 : Blk.Is w1 w.heap.size 26 #[.int .i64 k, .string s, .int .i64 n, .bool b, .slice ac lc.length cc, .slice aa la.length cc2, .slice ap lp.length cc3] := (k1.block _ hI0.lt).trans hI0
    have hH : Has w1 (.slice ac lc.length cc) (.slice aa la.length cc2) (.slice ap lp.length cc3) lc la lp := ⟨⟨H.out.1.below b1, hcnt.1⟩, ⟨H.out.2.1.below b1, hcnt.2.1⟩, ⟨H.out.2.2.below b1, hcnt.2.2⟩⟩
    have cm := made_any k s n b _ _ _ lc la lp w1 hH
    have hlm := lim_mk (k := k) (s := s) (b := b) hL hcnt
    have HVP := Lib.hid (⟨hv, hp⟩ : _ ∧ _)
    clear hL hv hp
    clear cl k1 hB0 hI0 hH H hcnt
    generalize mk k s n b lc la lp = x at *
    have c0 := i1.at (i := 0) rfl
    have c1 := i1.at (i := 1) rfl
    have c2 := i1.at (i := 2) rfl
    have c3 := i1.at (i := 3) rfl
    have c4 := i1.at (i := 4) rfl
    have c5 := i1.at (i := 5) rfl
    have c6 := i1.at (i := 6) rfl
    clear i1
    go_wp2_with fail
    refine cm.mono ?_
    rintro e w2 ⟨iv, rv, rfl, hV, ⟨uc, ua, up, rfl, hC, hA, hP⟩, k2⟩
    have b2 := b1.trans (k2.mono b1.size)
    clear b1 k2 cm c0 c1 c2 c3 c4 c5 c6
    obtain ⟨d1, d2, e1⟩ := hC.shape
    obtain ⟨d3, d4, e2⟩ := hA.shape
    obtain ⟨d5, d6, e3⟩ := hP.shape
    subst e1 e2 e3
    have ho := hV.one
    have hi1 : (Tryz.prog.info? 30).map (·.size) = some 1 := by kernel_rfl
    have hi7 : (Tryz.prog.info? 32).map (·.size) = some 7 := by kernel_rfl
    obtain ⟨W, hW, hbW, hsW, hI1, hI2⟩ := two_new w2 30 32 #[.nilIface] #[.string ⟨#[]⟩, .string ⟨#[]⟩, .int .i64 0, .bool false, .slice none 0 0, .slice none 0 0, .slice none 0 0]
    have hI3 : Blk.Is (W.setRow w2.heap.size #[iv]) (w2.heap.size + 1) 32 #[.string ⟨#[]⟩, .string ⟨#[]⟩, .int .i64 0, .bool false, .slice none 0 0, .slice none 0 0, .slice none 0 0] := hI2.rowOther _ (by omega)
    have HI := Lib.hid (⟨hI1, hI3⟩ : _ ∧ _)
    have HBW := Lib.hid (⟨hbW, hsW⟩ : _ ∧ _)
    have HV := Lib.hid (⟨hV, hC, hA, hP⟩ : _ ∧ _ ∧ _ ∧ _)
    clear hV hC hA hP hbW hsW hI1 hI2 hI3
    obtain ⟨W3, hW3⟩ : ∃ W3, (W.setRow w2.heap.size #[iv]).setRow (w2.heap.size + 1) #[.string x.kind, .string x.txt, .int .i64 x.cnt, .bool x.ye, .slice d1 x.cls.length d2, .slice d3 x.ats.length d4, .slice d5 x.pvs.length d6] = W3 := ⟨_, rfl⟩
    have j1 : Blk.Is W3 w2.heap.size 30 #[iv] := by rw [← hW3]; exact (HI.out.1.row _).rowOther _ (by omega)
    have j2 : Blk.Is W3 (w2.heap.size + 1) 32 #[.string x.kind, .string x.txt, .int .i64 x.cnt, .bool x.ye, .slice d1 x.cls.length d2, .slice d3 x.ats.length d4, .slice d5 x.pvs.length d6] := by rw [← hW3]; exact HI.out.2.row _
    have q2 : Below w2.heap.size w2 W3 := by rw [← hW3]; exact below_row (below_row HBW.out.1 (Nat.le_refl _) _) (Nat.le_succ _) _
    have b3 := b2.trans (q2.mono b2.size)
    have hV := HV.out.1.below q2
    have HY := Lib.hid (⟨HV.out.2.1.below q2, HV.out.2.2.1.below q2, HV.out.2.2.2.below q2⟩ : _ ∧ _ ∧ _)
    have v0 : W3.cell? ⟨w2.heap.size, 0, none⟩ = some iv := j1.at (i := 0) rfl
    have c1 := write_any hV hlm.1 (HVP.out.1.on b3) (HVP.out.2.on b3)
    generalize hT : wrT x = T at *
    generalize hK : wrK x = G at *
    have HTK := Lib.hid (⟨hT, hK⟩ : _ ∧ _)
    have HJ := Lib.hid (⟨j1, j2, b3⟩ : _ ∧ _ ∧ _)
    clear hV j1 j2 b2 q2 b3 hT hK
    go_wp2_with (first | (refine wpList_store_row rfl 30 (.tmp 3) (.tmp 16) rfl w2.heap.size #[iv] rfl rfl 30 #[.nilIface] HI.out.1 hi1 (by rfl) (by simp [ho]) ?_) | (refine wpList_store_row rfl 32 (.tmp 4) (.tmp 17) rfl (w2.heap.size + 1) #[.string x.kind, .string x.txt, .int .i64 x.cnt, .bool x.ye, .slice d1 x.cls.length d2, .slice d3 x.ats.length d4, .slice d5 x.pvs.length d6] rfl rfl 32 #[.string ⟨#[]⟩, .string ⟨#[]⟩, .int .i64 0, .bool false, .slice none 0 0, .slice none 0 0, .slice none 0 0] HI.out.2 hi7 (by rfl) (by simp [Value.oneCell']) ?_))
    clear hW hW3 HV HBW HI hi1 hi7 v0
    refine c1.mono ?_
    rintro e w4 ⟨rfl, k4⟩
    have b4 := HJ.out.2.2.trans (k4.mono HJ.out.2.2.size)
    have c2 := ywrite_any (w := w4) (x := x) ⟨_, _, _, rfl, HY.out.1.below k4, HY.out.2.1.below k4, HY.out.2.2.below k4⟩ hlm.1 hlm.2 (HVP.out.2.on b4)
    rw [HTK.out.1, HTK.out.2] at c2
    have j2 := Rl.is_on HJ.out.2.1 k4
    have y0 := j2.at (i := 0) rfl
    have y1 := j2.at (i := 1) rfl
    have y2 := j2.at (i := 2) rfl
    have y3 := j2.at (i := 3) rfl
    have y4 := j2.at (i := 4) rfl
    have y5 := j2.at (i := 5) rfl
    have y6 := j2.at (i := 6) rfl
    clear c1 k4 HJ HY hlm j2 HVP ho
    go_wp2_with fail
    refine c2.mono ?_
    rintro e w5 ⟨rfl, k5⟩
    have b5 := b4.trans (k5.mono b4.size)
    have eT : (T.toList == T.toList) = true := beq_self_eq_true _
    have eG : (G == G) = true := beq_self_eq_true _
    clear c2 k5 b4 y0 y1 y2 y3 y4 y5 y6
    go_wp2_with fail
    refine (ca _).mono ?_
    rintro e w6 ⟨rfl, k6⟩
    have b6 := b5.trans (k6.mono b5.size)
    clear k6 b5
    go_wp2_with fail
    go_ret
    exact ⟨rfl, b6⟩
end Va
end Go.Proofs.YtapmpdljapbpeaaGreatDoor

/-
The walk of the law ValueBack.
-/
import Derived.Test.YtapmpdljapbpeaaGreatDoorValBackM
import Derived.OrdersHeld
import Derived.Deep.MidRow
namespace Go.Proofs.YtapmpdljapbpeaaGreatDoor
open Go.RowKit
set_option linter.unusedSimpArgs false
set_option linter.unusedVariables false
namespace Va
open Ver (Bs li li_len S S_size S_li)
open Rl (At Pv Ats Pvs Clss Cls Vars)
/-- Two new blocks. -/
theorem two_new (w : World) (T1 T2 : TypeId) (C1 C2 : Array Value) : ∃ W, (w.alloc (.cells C1 T1)).alloc (.cells C2 T2) = W ∧ Below w.heap.size w W ∧ W.heap.size = w.heap.size + 2 ∧ Blk.Is W w.heap.size T1 C1 ∧ Blk.Is W (w.heap.size + 1) T2 C2 := by
  have s1 : (w.alloc (.cells C1 T1)).heap.size = w.heap.size + 1 := by simp
  have i1 := Blk.Is.new w T1 C1
  have i2 := Blk.Is.new (w.alloc (.cells C1 T1)) T2 C2
  rw [s1] at i2
  exact ⟨_, rfl, ((Below.refl _ _).alloc (Nat.le_refl _) _).alloc (by omega) _, by simp, i1.alloc _, i2⟩
set_option maxRecDepth 100000 in
theorem back1_yes (q : Nat) (s : ByteArray) (w : World) (hp : Blk.Is w q 30 #[.iface 9 (.string s)]) :
    Calls Tryz.prog 34 #[.pointer (some ⟨q, 0, none⟩)] w fun e w' => e = .returned (.tuple #[]) ∧ Below w.heap.size w w' := by
  have c := mustText_yes (.string s) w
  have c0 := hp.at (i := 0) rfl
  go_enter Tryz.func34, Tryz.ntmps34
  go_wp2_with fail
  refine c.mono ?_
  rintro e W ⟨rfl, kb⟩
  clear c hp c0
  go_wp2_with fail
  go_end0
  exact ⟨rfl, kb⟩
set_option maxRecDepth 100000 in
theorem back1_no (q : Nat) (iv : Value) (x : Vl) (B : Nat) (w0 w : World) (hv : VAt B w0 iv x) (he : x.isT = false) (hp : Blk.Is w q 30 #[iv]) :
    Calls Tryz.prog 34 #[.pointer (some ⟨q, 0, none⟩)] w fun e w' => Wr w ⟨#[116, 101, 120, 116]⟩ x.kind e w' := by
  have c := mustText_no iv hv.ok (by rw [(as_text_x hv).2]; exact he) w
  rw [hv.kindI] at c
  have c0 := hp.at (i := 0) rfl
  clear hv hp
  generalize x.kind = K at *
  go_enter Tryz.func34, Tryz.ntmps34
  go_wp2_with fail
  refine c.mono ?_
  rintro e w' hw
  have k := hw
  obtain ⟨b, rfl, _⟩ := hw
  unfold wrongAt at k ⊢
  clear c
  go_wp2_with fail
  exact ⟨rfl, k⟩
theorem back1_try_yes (q : Nat) (s : ByteArray) (w : World) (hp : Blk.Is w q 30 #[.iface 9 (.string s)]) :
    Calls Tryz.prog 21 #[.func (.func 34) #[] #[.pointer (some ⟨q, 0, none⟩)]] w fun e w' => e = .returned (.pointer none) ∧ Below w.heap.size w w' := by
  have hB0 : Below w.heap.size w (w.alloc (.cells #[.pointer none] 51)) := (Below.refl _ _).alloc (Nat.le_refl _) _
  have hi0 := Blk.Is.new w 51 #[.pointer none]
  refine (try_ok 34 _ Tryz.call34 w (fun W' => Below w.heap.size w W') ?_).mono ?_
  · refine (back1_yes q s _ (hp.alloc _)).mono ?_
    rintro e w' ⟨rfl, hb⟩
    exact ⟨rfl, (hb.block _ hi0.lt).trans hi0, hB0.trans (hb.mono hB0.size)⟩
  · rintro e w' ⟨rfl, W', h1, rfl⟩
    exact ⟨rfl, h1.setCell (Nat.le_refl _) _⟩
theorem back1_try_no (q : Nat) (iv : Value) (x : Vl) (B : Nat) (w0 w : World) (hv : VAt B w0 iv x) (he : x.isT = false) (hp : Blk.Is w q 30 #[iv]) :
    Calls Tryz.prog 21 #[.func (.func 34) #[] #[.pointer (some ⟨q, 0, none⟩)]] w fun e w' => ∃ b, e = .returned (.pointer (some ⟨b, 0, none⟩)) ∧ Below w.heap.size w w' := by
  refine (try_wr 34 _ Tryz.call34 w _ _ fun W hW => back1_no q iv x B w0 W hv he ((hW.block _ hp.lt).trans hp)).mono ?_
  rintro e w' ⟨b, rfl, h1, h2, h3⟩
  exact ⟨b, rfl, h3⟩
set_option maxRecDepth 100000 in
set_option maxHeartbeats 32000000 in
theorem back_walk (name s : ByteArray) (hs : s.size ≤ 140737488351232) (k n : Int) (ss : ByteArray) (b : Bool) (vc va vp : Value) (lc : List (List At)) (la : List At) (lp : List Pv) (w : World) (h1 : Clss w vc lc) (h2 : Ats w va la) (h3 : Pvs w vp lp) (hv : Vars w) (hp : Pow w) :
    Calls Tryz.prog 7 #[.string name, .string s, .agg #[.int .i64 k, .string ss, .int .i64 n, .bool b, vc, va, vp]] w fun e w' => e = .returned (.bool true) ∧ Below w.heap.size w w' := by
  have hB0 : Below w.heap.size w (w.alloc (.cells #[.int .i64 k, .string ss, .int .i64 n, .bool b, vc, va, vp] 26)) := (Below.refl _ _).alloc (Nat.le_refl _) _
  have hI0 := Blk.Is.new w 26 #[.int .i64 k, .string ss, .int .i64 n, .bool b, vc, va, vp]
  have cl := light_any k n ss b vc va vp lc la lp _ (h1.below hB0) (h2.below hB0) (h3.below hB0)
  have ca := fun w => awake_any w
  have hmf : ∀ (fn : Fn) (first cap : Array Value) (w : World), (Instr.makeFunc fn first cap).run Tryz.prog w = .ok (.func fn first cap) w := fun _ _ _ _ => rfl
  have hi1 : (Tryz.prog.info? 30).map (·.size) = some 1 := by kernel_rfl
  have hi7 : (Tryz.prog.info? 32).map (·.size) = some 7 := by kernel_rfl
  obtain ⟨ac, cc, e1⟩ := h1.shape
  obtain ⟨aa, cc2, e2⟩ := h2.shape
  obtain ⟨ap, cc3, e3⟩ := h3.shape
  subst e1 e2 e3
  have H := Lib.hid (⟨h1, h2, h3⟩ : _ ∧ _ ∧ _)
  have HVP := Lib.hid (⟨hv, hp⟩ : _ ∧ _)
  clear h1 h2 h3 hv hp
  cases hG : light8 lc la lp with
  | false =>
    rw [hG] at cl
    clear hG H HVP
    go_enter Tryz.func7, Tryz.ntmps7
    go_wp2_with fail
    refine cl.mono ?_
    rintro e w1 ⟨rfl, k1⟩
    have b1 := hB0.trans (k1.mono hB0.size)
    clear cl k1 hB0 hI0
    go_wp2_with fail
    refine (ca _).mono ?_
    rintro e w2 ⟨rfl, k2⟩
    have b2 := b1.trans (k2.mono b1.size)
    clear b1 k2 ca
    go_wp2_with fail
    go_ret
    exact ⟨rfl, b2⟩
  | true =>
    rw [hG] at cl
    have hcnt := light8_cnt hG
    have HC := Lib.hid hcnt
    clear hG hcnt
    go_enter Tryz.func7, Tryz.ntmps7
    go_wp2_with fail
    refine cl.mono ?_
    rintro e w1 ⟨rfl, k1⟩
    have b1 := hB0.trans (k1.mono hB0.size)
    have i1 : Blk.Is w1 w.heap.size 26 #[.int .i64 k, .string ss, .int .i64 n, .bool b, .slice ac lc.length cc, .slice aa la.length cc2, .slice ap lp.length cc3] := (k1.block _ hI0.lt).trans hI0
    have cr := read_any name s (by omega) w1 (HVP.out.1.on b1)
    have hbk := fun x => back (k := knd name) (s := s) (x := x)
    have hwt := fun x => wrT_size (k := knd name) (s := s) (x := x) hs
    have hne := fun e => rd_ne' (k := knd name) (s := s) (e := e)
    obtain ⟨O, hO⟩ : ∃ O, rd (knd name) s = O := ⟨_, rfl⟩
    rw [hO] at cr hbk hne hwt
    have HBK := Lib.hid hbk
    have HNE := Lib.hid hne
    have HWT := Lib.hid hwt
    clear cl k1 hB0 hI0 hO hbk hne hwt
    go_wp2_with fail
    refine cr.mono ?_
    rintro e w2 ⟨v, er, rfl, hI, k2, hA⟩
    have ho : v.oneCell' = true := by rcases hI with rfl | ⟨t, y, rfl⟩ <;> rfl
    have j0 := Blk.Is.new w2 30 #[.nilIface]
    have q2 : Below w2.heap.size w2 ((w2.alloc (.cells #[.nilIface] 30)).setRow w2.heap.size #[v]) := below_row ((Below.refl _ _).alloc (Nat.le_refl _) _) (Nat.le_refl _) _
    have b2 := b1.trans (k2.mono b1.size)
    have i2 := Rl.is_on (Rl.is_on i1 k2) q2
    have jv := j0.row #[v]
    obtain ⟨W2, hW2⟩ : ∃ W2, (w2.alloc (.cells #[.nilIface] 30)).setRow w2.heap.size #[v] = W2 := ⟨_, rfl⟩
    rw [hW2] at q2 i2 jv
    have b3 := b2.trans (q2.mono b2.size)
    have J0 := Lib.hid j0
    clear cr hI j0 b1 k2 b2 i1
    cases O with
    | error er0 =>
      obtain ⟨rfl, rfl⟩ := hA
      have hnz : (er == 0) = false := beq_eq_false_iff_ne.2 (HNE.out er rfl)
      clear HBK HWT HNE jv q2
      have c0 := i2.at (i := 0) rfl
      have c1 := i2.at (i := 1) rfl
      have c2 := i2.at (i := 2) rfl
      have c3 := i2.at (i := 3) rfl
      have c4 := i2.at (i := 4) rfl
      have c5 := i2.at (i := 5) rfl
      have c6 := i2.at (i := 6) rfl
      have hH : Has W2 (.slice ac lc.length cc) (.slice aa la.length cc2) (.slice ap lp.length cc3) lc la lp := ⟨⟨H.out.1.below b3, HC.out.1⟩, ⟨H.out.2.1.below b3, HC.out.2.1⟩, ⟨H.out.2.2.below b3, HC.out.2.2⟩⟩
      have cm := made_any k ss n b _ _ _ lc la lp W2 hH
      have hsm := small_mk (k := k) (s := ss) (n := n) (b := b) HC.out
      generalize mk k ss n b lc la lp = x at *
      clear hH
      go_wp2_with (refine wpList_store_row rfl 30 (.tmp 7) (.tmp 40) rfl w2.heap.size #[.nilIface] rfl rfl 30 #[.nilIface] J0.out hi1 (by rfl) (by simp [ho]) ?_)
      clear hW2 J0 hnz ho
      refine cm.mono ?_
      rintro e wm ⟨iv, rv, rfl, hV, ⟨uc, ua, up, rfl, hC, hA, hP⟩, km⟩
      have bm := b3.trans (km.mono b3.size)
      clear km cm c0 c1 c2 c3 c4 c5 c6 i2 b3 H HC HVP
      obtain ⟨d1, d2, e1⟩ := hC.shape
      obtain ⟨d3, d4, e2⟩ := hA.shape
      obtain ⟨d5, d6, e3⟩ := hP.shape
      subst e1 e2 e3
      clear hC hA hP
      have hov := hV.one
      obtain ⟨W, hW, hbW, hsW, hI1, hI2⟩ := two_new wm 30 32 #[.nilIface] #[.string ⟨#[]⟩, .string ⟨#[]⟩, .int .i64 0, .bool false, .slice none 0 0, .slice none 0 0, .slice none 0 0]
      have hI3 : Blk.Is (W.setRow wm.heap.size #[iv]) (wm.heap.size + 1) 32 #[.string ⟨#[]⟩, .string ⟨#[]⟩, .int .i64 0, .bool false, .slice none 0 0, .slice none 0 0, .slice none 0 0] := hI2.rowOther _ (by omega)
      have HI := Lib.hid (⟨hI1, hI3⟩ : _ ∧ _)
      obtain ⟨W3, hW3⟩ : ∃ W3, (W.setRow wm.heap.size #[iv]).setRow (wm.heap.size + 1) #[.string x.kind, .string x.txt, .int .i64 x.cnt, .bool x.ye, .slice d1 x.cls.length d2, .slice d3 x.ats.length d4, .slice d5 x.pvs.length d6] = W3 := ⟨_, rfl⟩
      have j1 : Blk.Is W3 wm.heap.size 30 #[iv] := by rw [← hW3]; exact (HI.out.1.row _).rowOther _ (by omega)
      have qm : Below wm.heap.size wm W3 := by rw [← hW3]; exact below_row (below_row hbW (Nat.le_refl _) _) (Nat.le_succ _) _
      have n0 := bm.trans (qm.mono bm.size)
      have hV := hV.below qm
      have v0 : W3.cell? ⟨wm.heap.size, 0, none⟩ = some iv := j1.at (i := 0) rfl
      clear hbW hsW hI1 hI2 hI3 qm bm
      go_wp2_with (first | (refine wpList_store_row rfl 30 (.tmp 15) (.tmp 85) rfl wm.heap.size #[iv] rfl rfl 30 #[.nilIface] HI.out.1 hi1 (by rfl) (by simp [hov]) ?_) | (refine wpList_store_row rfl 32 (.tmp 16) (.tmp 86) rfl (wm.heap.size + 1) #[.string x.kind, .string x.txt, .int .i64 x.cnt, .bool x.ye, .slice d1 x.cls.length d2, .slice d3 x.ats.length d4, .slice d5 x.pvs.length d6] rfl rfl 32 #[.string ⟨#[]⟩, .string ⟨#[]⟩, .int .i64 0, .bool false, .slice none 0 0, .slice none 0 0, .slice none 0 0] HI.out.2 hi7 (by rfl) (by simp [Value.oneCell']) ?_))
      clear hW hW3 HI hov
      cases x with
      | none =>
        have ct := text_x hV
        simp only [Vl.txt, Vl.cnt, Vl.ye, Vl.cls, Vl.ats, Vl.pvs, Vl.isT, Vl.isN, Vl.isY, Vl.isC, Vl.isA, Vl.isP] at ct
        refine ct.mono ?_
        rintro e z1 ⟨rfl, kk⟩
        have j1 := Rl.is_on j1 kk
        have n1 := n0.trans (kk.mono n0.size)
        have hV := hV.below kk
        have v0 : z1.cell? ⟨wm.heap.size, 0, none⟩ = some iv := j1.at (i := 0) rfl
        clear ct kk n0
        go_wp2_with fail
        have ct := count_x hV
        simp only [Vl.txt, Vl.cnt, Vl.ye, Vl.cls, Vl.ats, Vl.pvs, Vl.isT, Vl.isN, Vl.isY, Vl.isC, Vl.isA, Vl.isP] at ct
        refine ct.mono ?_
        rintro e z2 ⟨rfl, kk⟩
        have j1 := Rl.is_on j1 kk
        have n2 := n1.trans (kk.mono n1.size)
        have hV := hV.below kk
        have v0 : z2.cell? ⟨wm.heap.size, 0, none⟩ = some iv := j1.at (i := 0) rfl
        clear ct kk n1
        go_wp2_with fail
        have ct := yes_x hV
        simp only [Vl.txt, Vl.cnt, Vl.ye, Vl.cls, Vl.ats, Vl.pvs, Vl.isT, Vl.isN, Vl.isY, Vl.isC, Vl.isA, Vl.isP] at ct
        refine ct.mono ?_
        rintro e z3 ⟨rfl, kk⟩
        have j1 := Rl.is_on j1 kk
        have n3 := n2.trans (kk.mono n2.size)
        have hV := hV.below kk
        have v0 : z3.cell? ⟨wm.heap.size, 0, none⟩ = some iv := j1.at (i := 0) rfl
        clear ct kk n2
        go_wp2_with fail
        have ct := clauses_x hV hsm
        simp only [Vl.txt, Vl.cnt, Vl.ye, Vl.cls, Vl.ats, Vl.pvs, Vl.isT, Vl.isN, Vl.isY, Vl.isC, Vl.isA, Vl.isP] at ct
        refine ct.mono ?_
        rintro e z4 ⟨u4, rfl, hu, kk⟩
        have j1 := Rl.is_on j1 kk
        have n4 := n3.trans (kk.mono n3.size)
        have hV := hV.below kk
        have v0 : z4.cell? ⟨wm.heap.size, 0, none⟩ = some iv := j1.at (i := 0) rfl
        obtain ⟨s4, t4, rfl⟩ := hu.here.shape
        clear hu
        clear ct kk n3
        go_wp2_with fail
        have ct := atoms_x hV hsm
        simp only [Vl.txt, Vl.cnt, Vl.ye, Vl.cls, Vl.ats, Vl.pvs, Vl.isT, Vl.isN, Vl.isY, Vl.isC, Vl.isA, Vl.isP] at ct
        refine ct.mono ?_
        rintro e z5 ⟨u5, rfl, hu, kk⟩
        have j1 := Rl.is_on j1 kk
        have n5 := n4.trans (kk.mono n4.size)
        have hV := hV.below kk
        have v0 : z5.cell? ⟨wm.heap.size, 0, none⟩ = some iv := j1.at (i := 0) rfl
        obtain ⟨s5, t5, rfl⟩ := hu.here.shape
        clear hu
        clear ct kk n4
        go_wp2_with fail
        have ct := provs_x hV hsm
        simp only [Vl.txt, Vl.cnt, Vl.ye, Vl.cls, Vl.ats, Vl.pvs, Vl.isT, Vl.isN, Vl.isY, Vl.isC, Vl.isA, Vl.isP] at ct
        refine ct.mono ?_
        rintro e z6 ⟨u6, rfl, hu, kk⟩
        have j1 := Rl.is_on j1 kk
        have n6 := n5.trans (kk.mono n5.size)
        have hV := hV.below kk
        have v0 : z6.cell? ⟨wm.heap.size, 0, none⟩ = some iv := j1.at (i := 0) rfl
        obtain ⟨s6, t6, rfl⟩ := hu.here.shape
        clear hu
        clear ct kk n5
        go_wp2_with fail
        have ct := back1_try_no wm.heap.size iv _ _ _ z6 hV rfl j1
        refine ct.mono ?_
        rintro e z7 ⟨bb, rfl, kk⟩
        have j1 := Rl.is_on j1 kk
        have n7 := n6.trans (kk.mono n6.size)
        have hV := hV.below kk
        have v0 := j1.at (i := 0) rfl
        have ck := kind_x hV
        simp only [Vl.kind] at ck
        clear ct kk n6
        go_wp2_with fail
        refine ck.mono ?_
        rintro e z8 ⟨rfl, kk⟩
        have n8 := n7.trans (kk.mono n7.size)
        clear ck kk n7 j1 hV v0 hsm
        go_wp2_with fail
        refine (ca _).mono ?_
        rintro e z9 ⟨rfl, kk⟩
        have n9 := n8.trans (kk.mono n8.size)
        clear kk n8
        go_wp2_with fail
        go_ret
        exact ⟨rfl, n9⟩
      | text xs =>
        have ct := text_x hV
        simp only [Vl.txt, Vl.cnt, Vl.ye, Vl.cls, Vl.ats, Vl.pvs, Vl.isT, Vl.isN, Vl.isY, Vl.isC, Vl.isA, Vl.isP] at ct
        refine ct.mono ?_
        rintro e z1 ⟨rfl, kk⟩
        have j1 := Rl.is_on j1 kk
        have n1 := n0.trans (kk.mono n0.size)
        have hV := hV.below kk
        have v0 : z1.cell? ⟨wm.heap.size, 0, none⟩ = some iv := j1.at (i := 0) rfl
        clear ct kk n0
        go_wp2_with fail
        have ct := count_x hV
        simp only [Vl.txt, Vl.cnt, Vl.ye, Vl.cls, Vl.ats, Vl.pvs, Vl.isT, Vl.isN, Vl.isY, Vl.isC, Vl.isA, Vl.isP] at ct
        refine ct.mono ?_
        rintro e z2 ⟨rfl, kk⟩
        have j1 := Rl.is_on j1 kk
        have n2 := n1.trans (kk.mono n1.size)
        have hV := hV.below kk
        have v0 : z2.cell? ⟨wm.heap.size, 0, none⟩ = some iv := j1.at (i := 0) rfl
        clear ct kk n1
        go_wp2_with fail
        have ct := yes_x hV
        simp only [Vl.txt, Vl.cnt, Vl.ye, Vl.cls, Vl.ats, Vl.pvs, Vl.isT, Vl.isN, Vl.isY, Vl.isC, Vl.isA, Vl.isP] at ct
        refine ct.mono ?_
        rintro e z3 ⟨rfl, kk⟩
        have j1 := Rl.is_on j1 kk
        have n3 := n2.trans (kk.mono n2.size)
        have hV := hV.below kk
        have v0 : z3.cell? ⟨wm.heap.size, 0, none⟩ = some iv := j1.at (i := 0) rfl
        clear ct kk n2
        go_wp2_with fail
        have ct := clauses_x hV hsm
        simp only [Vl.txt, Vl.cnt, Vl.ye, Vl.cls, Vl.ats, Vl.pvs, Vl.isT, Vl.isN, Vl.isY, Vl.isC, Vl.isA, Vl.isP] at ct
        refine ct.mono ?_
        rintro e z4 ⟨u4, rfl, hu, kk⟩
        have j1 := Rl.is_on j1 kk
        have n4 := n3.trans (kk.mono n3.size)
        have hV := hV.below kk
        have v0 : z4.cell? ⟨wm.heap.size, 0, none⟩ = some iv := j1.at (i := 0) rfl
        obtain ⟨s4, t4, rfl⟩ := hu.here.shape
        clear hu
        clear ct kk n3
        go_wp2_with fail
        have ct := atoms_x hV hsm
        simp only [Vl.txt, Vl.cnt, Vl.ye, Vl.cls, Vl.ats, Vl.pvs, Vl.isT, Vl.isN, Vl.isY, Vl.isC, Vl.isA, Vl.isP] at ct
        refine ct.mono ?_
        rintro e z5 ⟨u5, rfl, hu, kk⟩
        have j1 := Rl.is_on j1 kk
        have n5 := n4.trans (kk.mono n4.size)
        have hV := hV.below kk
        have v0 : z5.cell? ⟨wm.heap.size, 0, none⟩ = some iv := j1.at (i := 0) rfl
        obtain ⟨s5, t5, rfl⟩ := hu.here.shape
        clear hu
        clear ct kk n4
        go_wp2_with fail
        have ct := provs_x hV hsm
        simp only [Vl.txt, Vl.cnt, Vl.ye, Vl.cls, Vl.ats, Vl.pvs, Vl.isT, Vl.isN, Vl.isY, Vl.isC, Vl.isA, Vl.isP] at ct
        refine ct.mono ?_
        rintro e z6 ⟨u6, rfl, hu, kk⟩
        have j1 := Rl.is_on j1 kk
        have n6 := n5.trans (kk.mono n5.size)
        have hV := hV.below kk
        have v0 : z6.cell? ⟨wm.heap.size, 0, none⟩ = some iv := j1.at (i := 0) rfl
        obtain ⟨s6, t6, rfl⟩ := hu.here.shape
        clear hu
        clear ct kk n5
        go_wp2_with fail
        have hiv : iv = .iface 9 (.string xs) := hV
        subst hiv
        have ct := back1_try_yes wm.heap.size xs z6 j1
        refine ct.mono ?_
        rintro e z7 ⟨rfl, kk⟩
        have j1 := Rl.is_on j1 kk
        have n7 := n6.trans (kk.mono n6.size)
        have hV := hV.below kk
        have v0 := j1.at (i := 0) rfl
        have ck := kind_x hV
        simp only [Vl.kind] at ck
        clear ct kk n6
        go_wp2_with fail
        refine ck.mono ?_
        rintro e z8 ⟨rfl, kk⟩
        have n8 := n7.trans (kk.mono n7.size)
        clear ck kk n7 j1 hV v0 hsm
        go_wp2_with fail
        refine (ca _).mono ?_
        rintro e z9 ⟨rfl, kk⟩
        have n9 := n8.trans (kk.mono n8.size)
        clear kk n8
        go_wp2_with fail
        go_ret
        exact ⟨rfl, n9⟩
      | count xn =>
        have ct := text_x hV
        simp only [Vl.txt, Vl.cnt, Vl.ye, Vl.cls, Vl.ats, Vl.pvs, Vl.isT, Vl.isN, Vl.isY, Vl.isC, Vl.isA, Vl.isP] at ct
        refine ct.mono ?_
        rintro e z1 ⟨rfl, kk⟩
        have j1 := Rl.is_on j1 kk
        have n1 := n0.trans (kk.mono n0.size)
        have hV := hV.below kk
        have v0 : z1.cell? ⟨wm.heap.size, 0, none⟩ = some iv := j1.at (i := 0) rfl
        clear ct kk n0
        go_wp2_with fail
        have ct := count_x hV
        simp only [Vl.txt, Vl.cnt, Vl.ye, Vl.cls, Vl.ats, Vl.pvs, Vl.isT, Vl.isN, Vl.isY, Vl.isC, Vl.isA, Vl.isP] at ct
        refine ct.mono ?_
        rintro e z2 ⟨rfl, kk⟩
        have j1 := Rl.is_on j1 kk
        have n2 := n1.trans (kk.mono n1.size)
        have hV := hV.below kk
        have v0 : z2.cell? ⟨wm.heap.size, 0, none⟩ = some iv := j1.at (i := 0) rfl
        clear ct kk n1
        go_wp2_with fail
        have ct := yes_x hV
        simp only [Vl.txt, Vl.cnt, Vl.ye, Vl.cls, Vl.ats, Vl.pvs, Vl.isT, Vl.isN, Vl.isY, Vl.isC, Vl.isA, Vl.isP] at ct
        refine ct.mono ?_
        rintro e z3 ⟨rfl, kk⟩
        have j1 := Rl.is_on j1 kk
        have n3 := n2.trans (kk.mono n2.size)
        have hV := hV.below kk
        have v0 : z3.cell? ⟨wm.heap.size, 0, none⟩ = some iv := j1.at (i := 0) rfl
        clear ct kk n2
        go_wp2_with fail
        have ct := clauses_x hV hsm
        simp only [Vl.txt, Vl.cnt, Vl.ye, Vl.cls, Vl.ats, Vl.pvs, Vl.isT, Vl.isN, Vl.isY, Vl.isC, Vl.isA, Vl.isP] at ct
        refine ct.mono ?_
        rintro e z4 ⟨u4, rfl, hu, kk⟩
        have j1 := Rl.is_on j1 kk
        have n4 := n3.trans (kk.mono n3.size)
        have hV := hV.below kk
        have v0 : z4.cell? ⟨wm.heap.size, 0, none⟩ = some iv := j1.at (i := 0) rfl
        obtain ⟨s4, t4, rfl⟩ := hu.here.shape
        clear hu
        clear ct kk n3
        go_wp2_with fail
        have ct := atoms_x hV hsm
        simp only [Vl.txt, Vl.cnt, Vl.ye, Vl.cls, Vl.ats, Vl.pvs, Vl.isT, Vl.isN, Vl.isY, Vl.isC, Vl.isA, Vl.isP] at ct
        refine ct.mono ?_
        rintro e z5 ⟨u5, rfl, hu, kk⟩
        have j1 := Rl.is_on j1 kk
        have n5 := n4.trans (kk.mono n4.size)
        have hV := hV.below kk
        have v0 : z5.cell? ⟨wm.heap.size, 0, none⟩ = some iv := j1.at (i := 0) rfl
        obtain ⟨s5, t5, rfl⟩ := hu.here.shape
        clear hu
        clear ct kk n4
        go_wp2_with fail
        have ct := provs_x hV hsm
        simp only [Vl.txt, Vl.cnt, Vl.ye, Vl.cls, Vl.ats, Vl.pvs, Vl.isT, Vl.isN, Vl.isY, Vl.isC, Vl.isA, Vl.isP] at ct
        refine ct.mono ?_
        rintro e z6 ⟨u6, rfl, hu, kk⟩
        have j1 := Rl.is_on j1 kk
        have n6 := n5.trans (kk.mono n5.size)
        have hV := hV.below kk
        have v0 : z6.cell? ⟨wm.heap.size, 0, none⟩ = some iv := j1.at (i := 0) rfl
        obtain ⟨s6, t6, rfl⟩ := hu.here.shape
        clear hu
        clear ct kk n5
        go_wp2_with fail
        have ct := back1_try_no wm.heap.size iv _ _ _ z6 hV rfl j1
        refine ct.mono ?_
        rintro e z7 ⟨bb, rfl, kk⟩
        have j1 := Rl.is_on j1 kk
        have n7 := n6.trans (kk.mono n6.size)
        have hV := hV.below kk
        have v0 := j1.at (i := 0) rfl
        have ck := kind_x hV
        simp only [Vl.kind] at ck
        clear ct kk n6
        go_wp2_with fail
        refine ck.mono ?_
        rintro e z8 ⟨rfl, kk⟩
        have n8 := n7.trans (kk.mono n7.size)
        clear ck kk n7 j1 hV v0 hsm
        go_wp2_with fail
        refine (ca _).mono ?_
        rintro e z9 ⟨rfl, kk⟩
        have n9 := n8.trans (kk.mono n8.size)
        clear kk n8
        go_wp2_with fail
        go_ret
        exact ⟨rfl, n9⟩
      | yes xb =>
        have ct := text_x hV
        simp only [Vl.txt, Vl.cnt, Vl.ye, Vl.cls, Vl.ats, Vl.pvs, Vl.isT, Vl.isN, Vl.isY, Vl.isC, Vl.isA, Vl.isP] at ct
        refine ct.mono ?_
        rintro e z1 ⟨rfl, kk⟩
        have j1 := Rl.is_on j1 kk
        have n1 := n0.trans (kk.mono n0.size)
        have hV := hV.below kk
        have v0 : z1.cell? ⟨wm.heap.size, 0, none⟩ = some iv := j1.at (i := 0) rfl
        clear ct kk n0
        go_wp2_with fail
        have ct := count_x hV
        simp only [Vl.txt, Vl.cnt, Vl.ye, Vl.cls, Vl.ats, Vl.pvs, Vl.isT, Vl.isN, Vl.isY, Vl.isC, Vl.isA, Vl.isP] at ct
        refine ct.mono ?_
        rintro e z2 ⟨rfl, kk⟩
        have j1 := Rl.is_on j1 kk
        have n2 := n1.trans (kk.mono n1.size)
        have hV := hV.below kk
        have v0 : z2.cell? ⟨wm.heap.size, 0, none⟩ = some iv := j1.at (i := 0) rfl
        clear ct kk n1
        go_wp2_with fail
        have ct := yes_x hV
        simp only [Vl.txt, Vl.cnt, Vl.ye, Vl.cls, Vl.ats, Vl.pvs, Vl.isT, Vl.isN, Vl.isY, Vl.isC, Vl.isA, Vl.isP] at ct
        refine ct.mono ?_
        rintro e z3 ⟨rfl, kk⟩
        have j1 := Rl.is_on j1 kk
        have n3 := n2.trans (kk.mono n2.size)
        have hV := hV.below kk
        have v0 : z3.cell? ⟨wm.heap.size, 0, none⟩ = some iv := j1.at (i := 0) rfl
        clear ct kk n2
        go_wp2_with fail
        have ct := clauses_x hV hsm
        simp only [Vl.txt, Vl.cnt, Vl.ye, Vl.cls, Vl.ats, Vl.pvs, Vl.isT, Vl.isN, Vl.isY, Vl.isC, Vl.isA, Vl.isP] at ct
        refine ct.mono ?_
        rintro e z4 ⟨u4, rfl, hu, kk⟩
        have j1 := Rl.is_on j1 kk
        have n4 := n3.trans (kk.mono n3.size)
        have hV := hV.below kk
        have v0 : z4.cell? ⟨wm.heap.size, 0, none⟩ = some iv := j1.at (i := 0) rfl
        obtain ⟨s4, t4, rfl⟩ := hu.here.shape
        clear hu
        clear ct kk n3
        go_wp2_with fail
        have ct := atoms_x hV hsm
        simp only [Vl.txt, Vl.cnt, Vl.ye, Vl.cls, Vl.ats, Vl.pvs, Vl.isT, Vl.isN, Vl.isY, Vl.isC, Vl.isA, Vl.isP] at ct
        refine ct.mono ?_
        rintro e z5 ⟨u5, rfl, hu, kk⟩
        have j1 := Rl.is_on j1 kk
        have n5 := n4.trans (kk.mono n4.size)
        have hV := hV.below kk
        have v0 : z5.cell? ⟨wm.heap.size, 0, none⟩ = some iv := j1.at (i := 0) rfl
        obtain ⟨s5, t5, rfl⟩ := hu.here.shape
        clear hu
        clear ct kk n4
        go_wp2_with fail
        have ct := provs_x hV hsm
        simp only [Vl.txt, Vl.cnt, Vl.ye, Vl.cls, Vl.ats, Vl.pvs, Vl.isT, Vl.isN, Vl.isY, Vl.isC, Vl.isA, Vl.isP] at ct
        refine ct.mono ?_
        rintro e z6 ⟨u6, rfl, hu, kk⟩
        have j1 := Rl.is_on j1 kk
        have n6 := n5.trans (kk.mono n5.size)
        have hV := hV.below kk
        have v0 : z6.cell? ⟨wm.heap.size, 0, none⟩ = some iv := j1.at (i := 0) rfl
        obtain ⟨s6, t6, rfl⟩ := hu.here.shape
        clear hu
        clear ct kk n5
        go_wp2_with fail
        have ct := back1_try_no wm.heap.size iv _ _ _ z6 hV rfl j1
        refine ct.mono ?_
        rintro e z7 ⟨bb, rfl, kk⟩
        have j1 := Rl.is_on j1 kk
        have n7 := n6.trans (kk.mono n6.size)
        have hV := hV.below kk
        have v0 := j1.at (i := 0) rfl
        have ck := kind_x hV
        simp only [Vl.kind] at ck
        clear ct kk n6
        go_wp2_with fail
        refine ck.mono ?_
        rintro e z8 ⟨rfl, kk⟩
        have n8 := n7.trans (kk.mono n7.size)
        clear ck kk n7 j1 hV v0 hsm
        go_wp2_with fail
        refine (ca _).mono ?_
        rintro e z9 ⟨rfl, kk⟩
        have n9 := n8.trans (kk.mono n8.size)
        clear kk n8
        go_wp2_with fail
        go_ret
        exact ⟨rfl, n9⟩
      | clauses xl =>
        have ct := text_x hV
        simp only [Vl.txt, Vl.cnt, Vl.ye, Vl.cls, Vl.ats, Vl.pvs, Vl.isT, Vl.isN, Vl.isY, Vl.isC, Vl.isA, Vl.isP] at ct
        refine ct.mono ?_
        rintro e z1 ⟨rfl, kk⟩
        have j1 := Rl.is_on j1 kk
        have n1 := n0.trans (kk.mono n0.size)
        have hV := hV.below kk
        have v0 : z1.cell? ⟨wm.heap.size, 0, none⟩ = some iv := j1.at (i := 0) rfl
        clear ct kk n0
        go_wp2_with fail
        have ct := count_x hV
        simp only [Vl.txt, Vl.cnt, Vl.ye, Vl.cls, Vl.ats, Vl.pvs, Vl.isT, Vl.isN, Vl.isY, Vl.isC, Vl.isA, Vl.isP] at ct
        refine ct.mono ?_
        rintro e z2 ⟨rfl, kk⟩
        have j1 := Rl.is_on j1 kk
        have n2 := n1.trans (kk.mono n1.size)
        have hV := hV.below kk
        have v0 : z2.cell? ⟨wm.heap.size, 0, none⟩ = some iv := j1.at (i := 0) rfl
        clear ct kk n1
        go_wp2_with fail
        have ct := yes_x hV
        simp only [Vl.txt, Vl.cnt, Vl.ye, Vl.cls, Vl.ats, Vl.pvs, Vl.isT, Vl.isN, Vl.isY, Vl.isC, Vl.isA, Vl.isP] at ct
        refine ct.mono ?_
        rintro e z3 ⟨rfl, kk⟩
        have j1 := Rl.is_on j1 kk
        have n3 := n2.trans (kk.mono n2.size)
        have hV := hV.below kk
        have v0 : z3.cell? ⟨wm.heap.size, 0, none⟩ = some iv := j1.at (i := 0) rfl
        clear ct kk n2
        go_wp2_with fail
        have ct := clauses_x hV hsm
        simp only [Vl.txt, Vl.cnt, Vl.ye, Vl.cls, Vl.ats, Vl.pvs, Vl.isT, Vl.isN, Vl.isY, Vl.isC, Vl.isA, Vl.isP] at ct
        refine ct.mono ?_
        rintro e z4 ⟨u4, rfl, hu, kk⟩
        have j1 := Rl.is_on j1 kk
        have n4 := n3.trans (kk.mono n3.size)
        have hV := hV.below kk
        have v0 : z4.cell? ⟨wm.heap.size, 0, none⟩ = some iv := j1.at (i := 0) rfl
        obtain ⟨s4, t4, rfl⟩ := hu.here.shape
        clear hu
        clear ct kk n3
        go_wp2_with fail
        have ct := atoms_x hV hsm
        simp only [Vl.txt, Vl.cnt, Vl.ye, Vl.cls, Vl.ats, Vl.pvs, Vl.isT, Vl.isN, Vl.isY, Vl.isC, Vl.isA, Vl.isP] at ct
        refine ct.mono ?_
        rintro e z5 ⟨u5, rfl, hu, kk⟩
        have j1 := Rl.is_on j1 kk
        have n5 := n4.trans (kk.mono n4.size)
        have hV := hV.below kk
        have v0 : z5.cell? ⟨wm.heap.size, 0, none⟩ = some iv := j1.at (i := 0) rfl
        obtain ⟨s5, t5, rfl⟩ := hu.here.shape
        clear hu
        clear ct kk n4
        go_wp2_with fail
        have ct := provs_x hV hsm
        simp only [Vl.txt, Vl.cnt, Vl.ye, Vl.cls, Vl.ats, Vl.pvs, Vl.isT, Vl.isN, Vl.isY, Vl.isC, Vl.isA, Vl.isP] at ct
        refine ct.mono ?_
        rintro e z6 ⟨u6, rfl, hu, kk⟩
        have j1 := Rl.is_on j1 kk
        have n6 := n5.trans (kk.mono n5.size)
        have hV := hV.below kk
        have v0 : z6.cell? ⟨wm.heap.size, 0, none⟩ = some iv := j1.at (i := 0) rfl
        obtain ⟨s6, t6, rfl⟩ := hu.here.shape
        clear hu
        clear ct kk n5
        go_wp2_with fail
        have ct := back1_try_no wm.heap.size iv _ _ _ z6 hV rfl j1
        refine ct.mono ?_
        rintro e z7 ⟨bb, rfl, kk⟩
        have j1 := Rl.is_on j1 kk
        have n7 := n6.trans (kk.mono n6.size)
        have hV := hV.below kk
        have v0 := j1.at (i := 0) rfl
        have ck := kind_x hV
        simp only [Vl.kind] at ck
        clear ct kk n6
        go_wp2_with fail
        refine ck.mono ?_
        rintro e z8 ⟨rfl, kk⟩
        have n8 := n7.trans (kk.mono n7.size)
        clear ck kk n7 j1 hV v0 hsm
        go_wp2_with fail
        refine (ca _).mono ?_
        rintro e z9 ⟨rfl, kk⟩
        have n9 := n8.trans (kk.mono n8.size)
        clear kk n8
        go_wp2_with fail
        go_ret
        exact ⟨rfl, n9⟩
      | atoms xl =>
        have ct := text_x hV
        simp only [Vl.txt, Vl.cnt, Vl.ye, Vl.cls, Vl.ats, Vl.pvs, Vl.isT, Vl.isN, Vl.isY, Vl.isC, Vl.isA, Vl.isP] at ct
        refine ct.mono ?_
        rintro e z1 ⟨rfl, kk⟩
        have j1 := Rl.is_on j1 kk
        have n1 := n0.trans (kk.mono n0.size)
        have hV := hV.below kk
        have v0 : z1.cell? ⟨wm.heap.size, 0, none⟩ = some iv := j1.at (i := 0) rfl
        clear ct kk n0
        go_wp2_with fail
        have ct := count_x hV
        simp only [Vl.txt, Vl.cnt, Vl.ye, Vl.cls, Vl.ats, Vl.pvs, Vl.isT, Vl.isN, Vl.isY, Vl.isC, Vl.isA, Vl.isP] at ct
        refine ct.mono ?_
        rintro e z2 ⟨rfl, kk⟩
        have j1 := Rl.is_on j1 kk
        have n2 := n1.trans (kk.mono n1.size)
        have hV := hV.below kk
        have v0 : z2.cell? ⟨wm.heap.size, 0, none⟩ = some iv := j1.at (i := 0) rfl
        clear ct kk n1
        go_wp2_with fail
        have ct := yes_x hV
        simp only [Vl.txt, Vl.cnt, Vl.ye, Vl.cls, Vl.ats, Vl.pvs, Vl.isT, Vl.isN, Vl.isY, Vl.isC, Vl.isA, Vl.isP] at ct
        refine ct.mono ?_
        rintro e z3 ⟨rfl, kk⟩
        have j1 := Rl.is_on j1 kk
        have n3 := n2.trans (kk.mono n2.size)
        have hV := hV.below kk
        have v0 : z3.cell? ⟨wm.heap.size, 0, none⟩ = some iv := j1.at (i := 0) rfl
        clear ct kk n2
        go_wp2_with fail
        have ct := clauses_x hV hsm
        simp only [Vl.txt, Vl.cnt, Vl.ye, Vl.cls, Vl.ats, Vl.pvs, Vl.isT, Vl.isN, Vl.isY, Vl.isC, Vl.isA, Vl.isP] at ct
        refine ct.mono ?_
        rintro e z4 ⟨u4, rfl, hu, kk⟩
        have j1 := Rl.is_on j1 kk
        have n4 := n3.trans (kk.mono n3.size)
        have hV := hV.below kk
        have v0 : z4.cell? ⟨wm.heap.size, 0, none⟩ = some iv := j1.at (i := 0) rfl
        obtain ⟨s4, t4, rfl⟩ := hu.here.shape
        clear hu
        clear ct kk n3
        go_wp2_with fail
        have ct := atoms_x hV hsm
        simp only [Vl.txt, Vl.cnt, Vl.ye, Vl.cls, Vl.ats, Vl.pvs, Vl.isT, Vl.isN, Vl.isY, Vl.isC, Vl.isA, Vl.isP] at ct
        refine ct.mono ?_
        rintro e z5 ⟨u5, rfl, hu, kk⟩
        have j1 := Rl.is_on j1 kk
        have n5 := n4.trans (kk.mono n4.size)
        have hV := hV.below kk
        have v0 : z5.cell? ⟨wm.heap.size, 0, none⟩ = some iv := j1.at (i := 0) rfl
        obtain ⟨s5, t5, rfl⟩ := hu.here.shape
        clear hu
        clear ct kk n4
        go_wp2_with fail
        have ct := provs_x hV hsm
        simp only [Vl.txt, Vl.cnt, Vl.ye, Vl.cls, Vl.ats, Vl.pvs, Vl.isT, Vl.isN, Vl.isY, Vl.isC, Vl.isA, Vl.isP] at ct
        refine ct.mono ?_
        rintro e z6 ⟨u6, rfl, hu, kk⟩
        have j1 := Rl.is_on j1 kk
        have n6 := n5.trans (kk.mono n5.size)
        have hV := hV.below kk
        have v0 : z6.cell? ⟨wm.heap.size, 0, none⟩ = some iv := j1.at (i := 0) rfl
        obtain ⟨s6, t6, rfl⟩ := hu.here.shape
        clear hu
        clear ct kk n5
        go_wp2_with fail
        have ct := back1_try_no wm.heap.size iv _ _ _ z6 hV rfl j1
        refine ct.mono ?_
        rintro e z7 ⟨bb, rfl, kk⟩
        have j1 := Rl.is_on j1 kk
        have n7 := n6.trans (kk.mono n6.size)
        have hV := hV.below kk
        have v0 := j1.at (i := 0) rfl
        have ck := kind_x hV
        simp only [Vl.kind] at ck
        clear ct kk n6
        go_wp2_with fail
        refine ck.mono ?_
        rintro e z8 ⟨rfl, kk⟩
        have n8 := n7.trans (kk.mono n7.size)
        clear ck kk n7 j1 hV v0 hsm
        go_wp2_with fail
        refine (ca _).mono ?_
        rintro e z9 ⟨rfl, kk⟩
        have n9 := n8.trans (kk.mono n8.size)
        clear kk n8
        go_wp2_with fail
        go_ret
        exact ⟨rfl, n9⟩
      | provs xl =>
        have ct := text_x hV
        simp only [Vl.txt, Vl.cnt, Vl.ye, Vl.cls, Vl.ats, Vl.pvs, Vl.isT, Vl.isN, Vl.isY, Vl.isC, Vl.isA, Vl.isP] at ct
        refine ct.mono ?_
        rintro e z1 ⟨rfl, kk⟩
        have j1 := Rl.is_on j1 kk
        have n1 := n0.trans (kk.mono n0.size)
        have hV := hV.below kk
        have v0 : z1.cell? ⟨wm.heap.size, 0, none⟩ = some iv := j1.at (i := 0) rfl
        clear ct kk n0
        go_wp2_with fail
        have ct := count_x hV
        simp only [Vl.txt, Vl.cnt, Vl.ye, Vl.cls, Vl.ats, Vl.pvs, Vl.isT, Vl.isN, Vl.isY, Vl.isC, Vl.isA, Vl.isP] at ct
        refine ct.mono ?_
        rintro e z2 ⟨rfl, kk⟩
        have j1 := Rl.is_on j1 kk
        have n2 := n1.trans (kk.mono n1.size)
        have hV := hV.below kk
        have v0 : z2.cell? ⟨wm.heap.size, 0, none⟩ = some iv := j1.at (i := 0) rfl
        clear ct kk n1
        go_wp2_with fail
        have ct := yes_x hV
        simp only [Vl.txt, Vl.cnt, Vl.ye, Vl.cls, Vl.ats, Vl.pvs, Vl.isT, Vl.isN, Vl.isY, Vl.isC, Vl.isA, Vl.isP] at ct
        refine ct.mono ?_
        rintro e z3 ⟨rfl, kk⟩
        have j1 := Rl.is_on j1 kk
        have n3 := n2.trans (kk.mono n2.size)
        have hV := hV.below kk
        have v0 : z3.cell? ⟨wm.heap.size, 0, none⟩ = some iv := j1.at (i := 0) rfl
        clear ct kk n2
        go_wp2_with fail
        have ct := clauses_x hV hsm
        simp only [Vl.txt, Vl.cnt, Vl.ye, Vl.cls, Vl.ats, Vl.pvs, Vl.isT, Vl.isN, Vl.isY, Vl.isC, Vl.isA, Vl.isP] at ct
        refine ct.mono ?_
        rintro e z4 ⟨u4, rfl, hu, kk⟩
        have j1 := Rl.is_on j1 kk
        have n4 := n3.trans (kk.mono n3.size)
        have hV := hV.below kk
        have v0 : z4.cell? ⟨wm.heap.size, 0, none⟩ = some iv := j1.at (i := 0) rfl
        obtain ⟨s4, t4, rfl⟩ := hu.here.shape
        clear hu
        clear ct kk n3
        go_wp2_with fail
        have ct := atoms_x hV hsm
        simp only [Vl.txt, Vl.cnt, Vl.ye, Vl.cls, Vl.ats, Vl.pvs, Vl.isT, Vl.isN, Vl.isY, Vl.isC, Vl.isA, Vl.isP] at ct
        refine ct.mono ?_
        rintro e z5 ⟨u5, rfl, hu, kk⟩
        have j1 := Rl.is_on j1 kk
        have n5 := n4.trans (kk.mono n4.size)
        have hV := hV.below kk
        have v0 : z5.cell? ⟨wm.heap.size, 0, none⟩ = some iv := j1.at (i := 0) rfl
        obtain ⟨s5, t5, rfl⟩ := hu.here.shape
        clear hu
        clear ct kk n4
        go_wp2_with fail
        have ct := provs_x hV hsm
        simp only [Vl.txt, Vl.cnt, Vl.ye, Vl.cls, Vl.ats, Vl.pvs, Vl.isT, Vl.isN, Vl.isY, Vl.isC, Vl.isA, Vl.isP] at ct
        refine ct.mono ?_
        rintro e z6 ⟨u6, rfl, hu, kk⟩
        have j1 := Rl.is_on j1 kk
        have n6 := n5.trans (kk.mono n5.size)
        have hV := hV.below kk
        have v0 : z6.cell? ⟨wm.heap.size, 0, none⟩ = some iv := j1.at (i := 0) rfl
        obtain ⟨s6, t6, rfl⟩ := hu.here.shape
        clear hu
        clear ct kk n5
        go_wp2_with fail
        have ct := back1_try_no wm.heap.size iv _ _ _ z6 hV rfl j1
        refine ct.mono ?_
        rintro e z7 ⟨bb, rfl, kk⟩
        have j1 := Rl.is_on j1 kk
        have n7 := n6.trans (kk.mono n6.size)
        have hV := hV.below kk
        have v0 := j1.at (i := 0) rfl
        have ck := kind_x hV
        simp only [Vl.kind] at ck
        clear ct kk n6
        go_wp2_with fail
        refine ck.mono ?_
        rintro e z8 ⟨rfl, kk⟩
        have n8 := n7.trans (kk.mono n7.size)
        clear ck kk n7 j1 hV v0 hsm
        go_wp2_with fail
        refine (ca _).mono ?_
        rintro e z9 ⟨rfl, kk⟩
        have n9 := n8.trans (kk.mono n8.size)
        clear kk n8
        go_wp2_with fail
        go_ret
        exact ⟨rfl, n9⟩
    | ok x0 =>
      obtain ⟨rfl, hV0⟩ := hA
      obtain ⟨hk, hback, hlim⟩ := HBK.out x0 rfl
      have hV0 := hV0.below q2
      have v7 : W2.cell? ⟨w2.heap.size, 0, none⟩ = some v := jv.at (i := 0) rfl
      have cw := fun (B : Nat) (iv : Value) (u : World) (h : VAt B u iv x0) (hb : Below w.heap.size w u) => write_any h hlim (HVP.out.1.on hb) (HVP.out.2.on hb)
      have ct2 := fun (u : World) (hb : Below w.heap.size w u) => read_any name (wrT x0) (HWT.out x0 rfl) u (HVP.out.1.on hb)
      rw [hback] at ct2
      simp only [hk] at cw
      generalize wrT x0 = T at *
      have CW := Lib.hid cw
      have CT := Lib.hid ct2
      have c9 := CW.out _ _ _ hV0 b3
      clear HBK HNE HWT hback q2 cw ct2 hk hlim
      go_wp2_with (refine wpList_store_row rfl 30 (.tmp 7) (.tmp 40) rfl w2.heap.size #[v] rfl rfl 30 #[.nilIface] J0.out hi1 (by rfl) (by simp [ho]) ?_)
      clear hW2 J0 ho v7
      refine c9.mono ?_
      rintro e w3 ⟨rfl, k3⟩
      have b4 := b3.trans (k3.mono b3.size)
      have i3 := Rl.is_on i2 k3
      have jv := Rl.is_on jv k3
      have hV0 := hV0.below k3
      have c8 := CT.out w3 b4
      clear c9 k3 b3 i2
      go_wp2_with fail
      refine c8.mono ?_
      rintro e w4 ⟨v1, er1, rfl, hI1, k4, hA1⟩
      obtain ⟨rfl, hV1⟩ := hA1
      have ho1 : v1.oneCell' = true := by rcases hI1 with rfl | ⟨t, y, rfl⟩ <;> rfl
      have b5 := b4.trans (k4.mono b4.size)
      have j4 := Blk.Is.new w4 30 #[.nilIface]
      have J4 := Lib.hid j4
      have q4 : Below w4.heap.size w4 ((w4.alloc (.cells #[.nilIface] 30)).setRow w4.heap.size #[v1]) := below_row ((Below.refl _ _).alloc (Nat.le_refl _) _) (Nat.le_refl _) _
      have jw := j4.row #[v1]
      have jv := Rl.is_on jv k4
      have i4 := Rl.is_on i3 k4
      have hV0 := hV0.below k4
      obtain ⟨W5, hW5⟩ : ∃ W5, (w4.alloc (.cells #[.nilIface] 30)).setRow w4.heap.size #[v1] = W5 := ⟨_, rfl⟩
      rw [hW5] at q4 jw
      have b6 := b5.trans (q4.mono b5.size)
      have jv := Rl.is_on jv q4
      have i5 := Rl.is_on i4 q4
      have hV0 := hV0.below q4
      have hV1 := hV1.below q4
      have v11 : W5.cell? ⟨w4.heap.size, 0, none⟩ = some v1 := jw.at (i := 0) rfl
      have c7 := CW.out _ _ _ hV1 b6
      clear c8 hI1 k4 b4 b5 j4 q4 i3 i4 CT CW
      go_wp2_with (refine wpList_store_row rfl 30 (.tmp 11) (.tmp 53) rfl w4.heap.size #[v1] rfl rfl 30 #[.nilIface] J4.out hi1 (by rfl) (by simp [ho1]) ?_)
      clear hW5 J4 ho1 v11
      refine c7.mono ?_
      rintro e w6 ⟨rfl, k6⟩
      have b7 := b6.trans (k6.mono b6.size)
      have jv := Rl.is_on jv k6
      have jw := Rl.is_on jw k6
      have i6 := Rl.is_on i5 k6
      have hV0 := hV0.below k6
      have hV1 := hV1.below k6
      clear c7 k6 b6 i5
      go_wp2_with fail
      have TT : (T.toList == T.toList) = true := beq_self_eq_true _
      have KK : (x0.kind.toList == x0.kind.toList) = true := beq_self_eq_true _
      have HALL := Lib.hid (⟨jv, jw, i6, hV0, hV1⟩ : _ ∧ _ ∧ _ ∧ _ ∧ _)
      have HB7 := Lib.hid b7
      have km7 : ∀ u, Below w6.heap.size w6 u → u.rangeAt w2.heap.size 0 [v] := fun u hu j y hj => by
        rw [Nat.zero_add]
        match j, hj with
        | 0, hj => cases hj; exact (Rl.is_on HALL.out.1 hu).at (i := 0) rfl
      have km11 : ∀ u, Below w6.heap.size w6 u → u.rangeAt w4.heap.size 0 [v1] := fun u hu j y hj => by
        rw [Nat.zero_add]
        match j, hj with
        | 0, hj => cases hj; exact (Rl.is_on HALL.out.2.1 hu).at (i := 0) rfl
      have K7 := Lib.hid km7
      have K11 := Lib.hid km11
      clear jv jw i6 hV0 hV1 b7 km7 km11
      refine wp_region_held (S := fun u => Below w6.heap.size w6 u) (by kernel_rfl) ?_
      have hS0 : Below w6.heap.size w6 w6.drew := (Below.refl _ _).drew
      change wpAnyH _ _ _ _ _ 22 _ _ w6.drew
      generalize w6.drew = u0 at *
      refine wpAnyH_all (rs := [0]) (by kernel_rfl) (by simp) ?_
      intro i hi
      obtain rfl := List.mem_singleton.1 hi
      refine Reg.wpOp_list rfl ?_
      go_wp2_with fail
      change _ ∧ _
      refine ⟨hS0, ?_⟩
      refine wpAnyH_all (rs := [1]) (by kernel_rfl) (by simp) ?_
      intro i hi
      obtain rfl := List.mem_singleton.1 hi
      refine Reg.wpOp_list rfl ?_
      go_wp2_with fail
      change _ ∧ _
      refine ⟨hS0, ?_⟩
      refine wpAnyH_all (rs := [2]) (by kernel_rfl) (by simp) ?_
      intro i hi
      obtain rfl := List.mem_singleton.1 hi
      refine Reg.wpOp_list rfl ?_
      go_wp2_with fail
      change _ ∧ _
      refine ⟨hS0, ?_⟩
      refine wpAnyH_all (rs := [3]) (by kernel_rfl) (by simp) ?_
      intro i hi
      obtain rfl := List.mem_singleton.1 hi
      refine Reg.wpOp_list rfl ?_
      go_wp2_with fail
      change _ ∧ _
      refine ⟨hS0, ?_⟩
      refine wpAnyH_all (rs := [4]) (by kernel_rfl) (by simp) ?_
      intro i hi
      obtain rfl := List.mem_singleton.1 hi
      refine Reg.wpOp_list rfl ?_
      go_wp2_with fail
      change _ ∧ _
      refine ⟨hS0, ?_⟩
      refine wpAnyH_all (rs := [5]) (by kernel_rfl) (by simp) ?_
      intro i hi
      obtain rfl := List.mem_singleton.1 hi
      refine Reg.wpOp_list rfl ?_
      go_wp2_with fail
      change _ ∧ _
      refine ⟨hS0, ?_⟩
      refine wpAnyH_all (rs := [6]) (by kernel_rfl) (by simp) ?_
      intro i hi
      obtain rfl := List.mem_singleton.1 hi
      refine Reg.wpOp_list rfl ?_
      go_wp2_with fail
      change _ ∧ _
      refine ⟨hS0, ?_⟩
      refine wpAnyH_all (rs := [7]) (by kernel_rfl) (by simp) ?_
      intro i hi
      obtain rfl := List.mem_singleton.1 hi
      refine Reg.wpOp_list rfl ?_
      go_wp2_with fail
      change _ ∧ _
      refine ⟨hS0, ?_⟩
      refine wpAnyH_all (rs := [8]) (by kernel_rfl) (by simp) ?_
      intro i hi
      obtain rfl := List.mem_singleton.1 hi
      refine Reg.wpOp_list rfl ?_
      go_wp2_with fail
      change _ ∧ _
      refine ⟨hS0, ?_⟩
      refine wpAnyH_all (rs := [9]) (by kernel_rfl) (by simp) ?_
      intro i hi
      obtain rfl := List.mem_singleton.1 hi
      refine Reg.wpOp_list rfl ?_
      go_wp2_with fail
      change _ ∧ _
      refine ⟨hS0, ?_⟩
      refine wpAnyH_all (rs := [10]) (by kernel_rfl) (by simp) ?_
      intro i hi
      obtain rfl := List.mem_singleton.1 hi
      refine Reg.wpOp_list rfl ?_
      go_wp2_with fail
      change _ ∧ _
      refine ⟨hS0, ?_⟩
      refine wpAnyH_take (i := 11) (v := .string T) rfl (by kernel_rfl) (by kernel_rfl) (by kernel_rfl) (fun _ _ _ h => h) (.inl ⟨rfl, fun w _ => rfl⟩) hS0 ?_
      simp only [Act.put, List.getElem_toArray, List.getElem_cons_zero, List.getElem_cons_succ, List.setIfInBounds_toArray, List.set_cons_zero, List.set_cons_succ]
      refine wpAnyH_take (i := 12) (v := .string T) rfl (by kernel_rfl) (by kernel_rfl) (by kernel_rfl) (fun _ _ _ h => h) (.inl ⟨rfl, fun w _ => rfl⟩) hS0 ?_
      simp only [Act.put, List.getElem_toArray, List.getElem_cons_zero, List.getElem_cons_succ, List.setIfInBounds_toArray, List.set_cons_zero, List.set_cons_succ]
      refine wpAnyH_all (rs := [13]) (by kernel_rfl) (by simp) ?_
      intro i hi
      obtain rfl := List.mem_singleton.1 hi
      refine Reg.wpOp_list rfl ?_
      go_wp2_with fail
      change _ ∧ _
      refine ⟨hS0, ?_⟩
      refine wpAnyH_all (rs := [14]) (by kernel_rfl) (by simp) ?_
      intro i hi
      obtain rfl := List.mem_singleton.1 hi
      refine Reg.wpOp_list rfl ?_
      go_wp2_with fail
      change _ ∧ _
      refine ⟨hS0, ?_⟩
      refine wpAnyH_all (rs := [15]) (by kernel_rfl) (by simp) ?_
      intro i hi
      obtain rfl := List.mem_singleton.1 hi
      refine Reg.wpOp_list rfl ?_
      go_wp2_with fail
      change _ ∧ _
      refine ⟨hS0, ?_⟩
      refine wpAnyH_take (i := 16) (v := .agg [v1].toArray) rfl (by kernel_rfl) (by kernel_rfl) (by kernel_rfl) (fun _ _ _ h => h) (yieldsIf_load_mid rfl 30 (.tmp 11) rfl w4.heap.size 0 rfl _ _ K11.out Tryz.underlying30 rfl hi1) hS0 ?_
      simp only [Act.put, List.getElem_toArray, List.getElem_cons_zero, List.getElem_cons_succ, List.setIfInBounds_toArray, List.set_cons_zero, List.set_cons_succ]
      refine wpAnyH_take (i := 18) (v := .agg [v].toArray) rfl (by kernel_rfl) (by kernel_rfl) (by kernel_rfl) (fun _ _ _ h => h) (yieldsIf_load_mid rfl 30 (.tmp 7) rfl w2.heap.size 0 rfl _ _ K7.out Tryz.underlying30 rfl hi1) hS0 ?_
      simp only [Act.put, List.getElem_toArray, List.getElem_cons_zero, List.getElem_cons_succ, List.setIfInBounds_toArray, List.set_cons_zero, List.set_cons_succ]
      have cx := kind_x (HALL.out.2.2.2.2.below hS0)
      refine wpAnyH_all (rs := [17]) (by kernel_rfl) (by simp) ?_
      intro i hi
      obtain rfl := List.mem_singleton.1 hi
      refine Reg.wpOp_list rfl ?_
      go_wp2_with fail
      refine cx.mono ?_
      rintro e u1 ⟨rfl, k1⟩
      go_wp2_with fail
      change _ ∧ _
      have hS1 : Below w6.heap.size w6 u1 := hS0.trans (k1.mono hS0.size)
      refine ⟨hS1, ?_⟩
      clear cx k1 hS0
      have cx := kind_x (HALL.out.2.2.2.1.below hS1)
      refine wpAnyH_all (rs := [19]) (by kernel_rfl) (by simp) ?_
      intro i hi
      obtain rfl := List.mem_singleton.1 hi
      refine Reg.wpOp_list rfl ?_
      go_wp2_with fail
      refine cx.mono ?_
      rintro e u2 ⟨rfl, k2⟩
      go_wp2_with fail
      change _ ∧ _
      have hS2 : Below w6.heap.size w6 u2 := hS1.trans (k2.mono hS1.size)
      refine ⟨hS2, ?_⟩
      clear cx k2 hS1
      refine wpAnyH_all (rs := [20]) (by kernel_rfl) (by simp) ?_
      intro i hi
      obtain rfl := List.mem_singleton.1 hi
      refine Reg.wpOp_list rfl ?_
      go_wp2_with fail
      change _ ∧ _
      refine ⟨hS2, ?_⟩
      refine wpAnyH_all (rs := [21]) (by kernel_rfl) (by simp) ?_
      intro i hi
      obtain rfl := List.mem_singleton.1 hi
      refine Reg.wpOp_list rfl ?_
      go_wp2_with fail
      change _ ∧ _
      refine ⟨hS2, ?_⟩
      refine wpAnyH_done (by kernel_rfl) ?_ _
      have b8 := HB7.out.trans (hS2.mono HB7.out.size)
      have i8 := Rl.is_on HALL.out.2.2.1 hS2
      clear hS2 HB7 HALL K7 K11 TT KK
      have c0 := i8.at (i := 0) rfl
      have c1 := i8.at (i := 1) rfl
      have c2 := i8.at (i := 2) rfl
      have c3 := i8.at (i := 3) rfl
      have c4 := i8.at (i := 4) rfl
      have c5 := i8.at (i := 5) rfl
      have c6 := i8.at (i := 6) rfl
      have hH : Has u2 (.slice ac lc.length cc) (.slice aa la.length cc2) (.slice ap lp.length cc3) lc la lp := ⟨⟨H.out.1.below b8, HC.out.1⟩, ⟨H.out.2.1.below b8, HC.out.2.1⟩, ⟨H.out.2.2.below b8, HC.out.2.2⟩⟩
      have cm := made_any k ss n b _ _ _ lc la lp u2 hH
      have hsm := small_mk (k := k) (s := ss) (n := n) (b := b) HC.out
      generalize mk k ss n b lc la lp = x at *
      clear hH
      go_wp2_with fail
      refine cm.mono ?_
      rintro e wm ⟨iv, rv, rfl, hV, ⟨uc, ua, up, rfl, hC, hA, hP⟩, km⟩
      have bm := b8.trans (km.mono b8.size)
      clear km cm c0 c1 c2 c3 c4 c5 c6 i8 b8 H HC HVP
      obtain ⟨d1, d2, e1⟩ := hC.shape
      obtain ⟨d3, d4, e2⟩ := hA.shape
      obtain ⟨d5, d6, e3⟩ := hP.shape
      subst e1 e2 e3
      clear hC hA hP
      have hov := hV.one
      obtain ⟨W, hW, hbW, hsW, hI1, hI2⟩ := two_new wm 30 32 #[.nilIface] #[.string ⟨#[]⟩, .string ⟨#[]⟩, .int .i64 0, .bool false, .slice none 0 0, .slice none 0 0, .slice none 0 0]
      have hI3 : Blk.Is (W.setRow wm.heap.size #[iv]) (wm.heap.size + 1) 32 #[.string ⟨#[]⟩, .string ⟨#[]⟩, .int .i64 0, .bool false, .slice none 0 0, .slice none 0 0, .slice none 0 0] := hI2.rowOther _ (by omega)
      have HI := Lib.hid (⟨hI1, hI3⟩ : _ ∧ _)
      obtain ⟨W3, hW3⟩ : ∃ W3, (W.setRow wm.heap.size #[iv]).setRow (wm.heap.size + 1) #[.string x.kind, .string x.txt, .int .i64 x.cnt, .bool x.ye, .slice d1 x.cls.length d2, .slice d3 x.ats.length d4, .slice d5 x.pvs.length d6] = W3 := ⟨_, rfl⟩
      have j1 : Blk.Is W3 wm.heap.size 30 #[iv] := by rw [← hW3]; exact (HI.out.1.row _).rowOther _ (by omega)
      have qm : Below wm.heap.size wm W3 := by rw [← hW3]; exact below_row (below_row hbW (Nat.le_refl _) _) (Nat.le_succ _) _
      have n0 := bm.trans (qm.mono bm.size)
      have hV := hV.below qm
      have v0 : W3.cell? ⟨wm.heap.size, 0, none⟩ = some iv := j1.at (i := 0) rfl
      clear hbW hsW hI1 hI2 hI3 qm bm
      go_wp2_with (first | (refine wpList_store_row rfl 30 (.tmp 15) (.tmp 85) rfl wm.heap.size #[iv] rfl rfl 30 #[.nilIface] HI.out.1 hi1 (by rfl) (by simp [hov]) ?_) | (refine wpList_store_row rfl 32 (.tmp 16) (.tmp 86) rfl (wm.heap.size + 1) #[.string x.kind, .string x.txt, .int .i64 x.cnt, .bool x.ye, .slice d1 x.cls.length d2, .slice d3 x.ats.length d4, .slice d5 x.pvs.length d6] rfl rfl 32 #[.string ⟨#[]⟩, .string ⟨#[]⟩, .int .i64 0, .bool false, .slice none 0 0, .slice none 0 0, .slice none 0 0] HI.out.2 hi7 (by rfl) (by simp [Value.oneCell']) ?_))
      clear hW hW3 HI hov
      cases x with
      | none =>
        have ct := text_x hV
        simp only [Vl.txt, Vl.cnt, Vl.ye, Vl.cls, Vl.ats, Vl.pvs, Vl.isT, Vl.isN, Vl.isY, Vl.isC, Vl.isA, Vl.isP] at ct
        refine ct.mono ?_
        rintro e z1 ⟨rfl, kk⟩
        have j1 := Rl.is_on j1 kk
        have n1 := n0.trans (kk.mono n0.size)
        have hV := hV.below kk
        have v0 : z1.cell? ⟨wm.heap.size, 0, none⟩ = some iv := j1.at (i := 0) rfl
        clear ct kk n0
        go_wp2_with fail
        have ct := count_x hV
        simp only [Vl.txt, Vl.cnt, Vl.ye, Vl.cls, Vl.ats, Vl.pvs, Vl.isT, Vl.isN, Vl.isY, Vl.isC, Vl.isA, Vl.isP] at ct
        refine ct.mono ?_
        rintro e z2 ⟨rfl, kk⟩
        have j1 := Rl.is_on j1 kk
        have n2 := n1.trans (kk.mono n1.size)
        have hV := hV.below kk
        have v0 : z2.cell? ⟨wm.heap.size, 0, none⟩ = some iv := j1.at (i := 0) rfl
        clear ct kk n1
        go_wp2_with fail
        have ct := yes_x hV
        simp only [Vl.txt, Vl.cnt, Vl.ye, Vl.cls, Vl.ats, Vl.pvs, Vl.isT, Vl.isN, Vl.isY, Vl.isC, Vl.isA, Vl.isP] at ct
        refine ct.mono ?_
        rintro e z3 ⟨rfl, kk⟩
        have j1 := Rl.is_on j1 kk
        have n3 := n2.trans (kk.mono n2.size)
        have hV := hV.below kk
        have v0 : z3.cell? ⟨wm.heap.size, 0, none⟩ = some iv := j1.at (i := 0) rfl
        clear ct kk n2
        go_wp2_with fail
        have ct := clauses_x hV hsm
        simp only [Vl.txt, Vl.cnt, Vl.ye, Vl.cls, Vl.ats, Vl.pvs, Vl.isT, Vl.isN, Vl.isY, Vl.isC, Vl.isA, Vl.isP] at ct
        refine ct.mono ?_
        rintro e z4 ⟨u4, rfl, hu, kk⟩
        have j1 := Rl.is_on j1 kk
        have n4 := n3.trans (kk.mono n3.size)
        have hV := hV.below kk
        have v0 : z4.cell? ⟨wm.heap.size, 0, none⟩ = some iv := j1.at (i := 0) rfl
        obtain ⟨s4, t4, rfl⟩ := hu.here.shape
        clear hu
        clear ct kk n3
        go_wp2_with fail
        have ct := atoms_x hV hsm
        simp only [Vl.txt, Vl.cnt, Vl.ye, Vl.cls, Vl.ats, Vl.pvs, Vl.isT, Vl.isN, Vl.isY, Vl.isC, Vl.isA, Vl.isP] at ct
        refine ct.mono ?_
        rintro e z5 ⟨u5, rfl, hu, kk⟩
        have j1 := Rl.is_on j1 kk
        have n5 := n4.trans (kk.mono n4.size)
        have hV := hV.below kk
        have v0 : z5.cell? ⟨wm.heap.size, 0, none⟩ = some iv := j1.at (i := 0) rfl
        obtain ⟨s5, t5, rfl⟩ := hu.here.shape
        clear hu
        clear ct kk n4
        go_wp2_with fail
        have ct := provs_x hV hsm
        simp only [Vl.txt, Vl.cnt, Vl.ye, Vl.cls, Vl.ats, Vl.pvs, Vl.isT, Vl.isN, Vl.isY, Vl.isC, Vl.isA, Vl.isP] at ct
        refine ct.mono ?_
        rintro e z6 ⟨u6, rfl, hu, kk⟩
        have j1 := Rl.is_on j1 kk
        have n6 := n5.trans (kk.mono n5.size)
        have hV := hV.below kk
        have v0 : z6.cell? ⟨wm.heap.size, 0, none⟩ = some iv := j1.at (i := 0) rfl
        obtain ⟨s6, t6, rfl⟩ := hu.here.shape
        clear hu
        clear ct kk n5
        go_wp2_with fail
        have ct := back1_try_no wm.heap.size iv _ _ _ z6 hV rfl j1
        refine ct.mono ?_
        rintro e z7 ⟨bb, rfl, kk⟩
        have j1 := Rl.is_on j1 kk
        have n7 := n6.trans (kk.mono n6.size)
        have hV := hV.below kk
        have v0 := j1.at (i := 0) rfl
        have ck := kind_x hV
        simp only [Vl.kind] at ck
        clear ct kk n6
        go_wp2_with fail
        refine ck.mono ?_
        rintro e z8 ⟨rfl, kk⟩
        have n8 := n7.trans (kk.mono n7.size)
        clear ck kk n7 j1 hV v0 hsm
        go_wp2_with fail
        refine (ca _).mono ?_
        rintro e z9 ⟨rfl, kk⟩
        have n9 := n8.trans (kk.mono n8.size)
        clear kk n8
        go_wp2_with fail
        go_ret
        exact ⟨rfl, n9⟩
      | text xs =>
        have ct := text_x hV
        simp only [Vl.txt, Vl.cnt, Vl.ye, Vl.cls, Vl.ats, Vl.pvs, Vl.isT, Vl.isN, Vl.isY, Vl.isC, Vl.isA, Vl.isP] at ct
        refine ct.mono ?_
        rintro e z1 ⟨rfl, kk⟩
        have j1 := Rl.is_on j1 kk
        have n1 := n0.trans (kk.mono n0.size)
        have hV := hV.below kk
        have v0 : z1.cell? ⟨wm.heap.size, 0, none⟩ = some iv := j1.at (i := 0) rfl
        clear ct kk n0
        go_wp2_with fail
        have ct := count_x hV
        simp only [Vl.txt, Vl.cnt, Vl.ye, Vl.cls, Vl.ats, Vl.pvs, Vl.isT, Vl.isN, Vl.isY, Vl.isC, Vl.isA, Vl.isP] at ct
        refine ct.mono ?_
        rintro e z2 ⟨rfl, kk⟩
        have j1 := Rl.is_on j1 kk
        have n2 := n1.trans (kk.mono n1.size)
        have hV := hV.below kk
        have v0 : z2.cell? ⟨wm.heap.size, 0, none⟩ = some iv := j1.at (i := 0) rfl
        clear ct kk n1
        go_wp2_with fail
        have ct := yes_x hV
        simp only [Vl.txt, Vl.cnt, Vl.ye, Vl.cls, Vl.ats, Vl.pvs, Vl.isT, Vl.isN, Vl.isY, Vl.isC, Vl.isA, Vl.isP] at ct
        refine ct.mono ?_
        rintro e z3 ⟨rfl, kk⟩
        have j1 := Rl.is_on j1 kk
        have n3 := n2.trans (kk.mono n2.size)
        have hV := hV.below kk
        have v0 : z3.cell? ⟨wm.heap.size, 0, none⟩ = some iv := j1.at (i := 0) rfl
        clear ct kk n2
        go_wp2_with fail
        have ct := clauses_x hV hsm
        simp only [Vl.txt, Vl.cnt, Vl.ye, Vl.cls, Vl.ats, Vl.pvs, Vl.isT, Vl.isN, Vl.isY, Vl.isC, Vl.isA, Vl.isP] at ct
        refine ct.mono ?_
        rintro e z4 ⟨u4, rfl, hu, kk⟩
        have j1 := Rl.is_on j1 kk
        have n4 := n3.trans (kk.mono n3.size)
        have hV := hV.below kk
        have v0 : z4.cell? ⟨wm.heap.size, 0, none⟩ = some iv := j1.at (i := 0) rfl
        obtain ⟨s4, t4, rfl⟩ := hu.here.shape
        clear hu
        clear ct kk n3
        go_wp2_with fail
        have ct := atoms_x hV hsm
        simp only [Vl.txt, Vl.cnt, Vl.ye, Vl.cls, Vl.ats, Vl.pvs, Vl.isT, Vl.isN, Vl.isY, Vl.isC, Vl.isA, Vl.isP] at ct
        refine ct.mono ?_
        rintro e z5 ⟨u5, rfl, hu, kk⟩
        have j1 := Rl.is_on j1 kk
        have n5 := n4.trans (kk.mono n4.size)
        have hV := hV.below kk
        have v0 : z5.cell? ⟨wm.heap.size, 0, none⟩ = some iv := j1.at (i := 0) rfl
        obtain ⟨s5, t5, rfl⟩ := hu.here.shape
        clear hu
        clear ct kk n4
        go_wp2_with fail
        have ct := provs_x hV hsm
        simp only [Vl.txt, Vl.cnt, Vl.ye, Vl.cls, Vl.ats, Vl.pvs, Vl.isT, Vl.isN, Vl.isY, Vl.isC, Vl.isA, Vl.isP] at ct
        refine ct.mono ?_
        rintro e z6 ⟨u6, rfl, hu, kk⟩
        have j1 := Rl.is_on j1 kk
        have n6 := n5.trans (kk.mono n5.size)
        have hV := hV.below kk
        have v0 : z6.cell? ⟨wm.heap.size, 0, none⟩ = some iv := j1.at (i := 0) rfl
        obtain ⟨s6, t6, rfl⟩ := hu.here.shape
        clear hu
        clear ct kk n5
        go_wp2_with fail
        have hiv : iv = .iface 9 (.string xs) := hV
        subst hiv
        have ct := back1_try_yes wm.heap.size xs z6 j1
        refine ct.mono ?_
        rintro e z7 ⟨rfl, kk⟩
        have j1 := Rl.is_on j1 kk
        have n7 := n6.trans (kk.mono n6.size)
        have hV := hV.below kk
        have v0 := j1.at (i := 0) rfl
        have ck := kind_x hV
        simp only [Vl.kind] at ck
        clear ct kk n6
        go_wp2_with fail
        refine ck.mono ?_
        rintro e z8 ⟨rfl, kk⟩
        have n8 := n7.trans (kk.mono n7.size)
        clear ck kk n7 j1 hV v0 hsm
        go_wp2_with fail
        refine (ca _).mono ?_
        rintro e z9 ⟨rfl, kk⟩
        have n9 := n8.trans (kk.mono n8.size)
        clear kk n8
        go_wp2_with fail
        go_ret
        exact ⟨rfl, n9⟩
      | count xn =>
        have ct := text_x hV
        simp only [Vl.txt, Vl.cnt, Vl.ye, Vl.cls, Vl.ats, Vl.pvs, Vl.isT, Vl.isN, Vl.isY, Vl.isC, Vl.isA, Vl.isP] at ct
        refine ct.mono ?_
        rintro e z1 ⟨rfl, kk⟩
        have j1 := Rl.is_on j1 kk
        have n1 := n0.trans (kk.mono n0.size)
        have hV := hV.below kk
        have v0 : z1.cell? ⟨wm.heap.size, 0, none⟩ = some iv := j1.at (i := 0) rfl
        clear ct kk n0
        go_wp2_with fail
        have ct := count_x hV
        simp only [Vl.txt, Vl.cnt, Vl.ye, Vl.cls, Vl.ats, Vl.pvs, Vl.isT, Vl.isN, Vl.isY, Vl.isC, Vl.isA, Vl.isP] at ct
        refine ct.mono ?_
        rintro e z2 ⟨rfl, kk⟩
        have j1 := Rl.is_on j1 kk
        have n2 := n1.trans (kk.mono n1.size)
        have hV := hV.below kk
        have v0 : z2.cell? ⟨wm.heap.size, 0, none⟩ = some iv := j1.at (i := 0) rfl
        clear ct kk n1
        go_wp2_with fail
        have ct := yes_x hV
        simp only [Vl.txt, Vl.cnt, Vl.ye, Vl.cls, Vl.ats, Vl.pvs, Vl.isT, Vl.isN, Vl.isY, Vl.isC, Vl.isA, Vl.isP] at ct
        refine ct.mono ?_
        rintro e z3 ⟨rfl, kk⟩
        have j1 := Rl.is_on j1 kk
        have n3 := n2.trans (kk.mono n2.size)
        have hV := hV.below kk
        have v0 : z3.cell? ⟨wm.heap.size, 0, none⟩ = some iv := j1.at (i := 0) rfl
        clear ct kk n2
        go_wp2_with fail
        have ct := clauses_x hV hsm
        simp only [Vl.txt, Vl.cnt, Vl.ye, Vl.cls, Vl.ats, Vl.pvs, Vl.isT, Vl.isN, Vl.isY, Vl.isC, Vl.isA, Vl.isP] at ct
        refine ct.mono ?_
        rintro e z4 ⟨u4, rfl, hu, kk⟩
        have j1 := Rl.is_on j1 kk
        have n4 := n3.trans (kk.mono n3.size)
        have hV := hV.below kk
        have v0 : z4.cell? ⟨wm.heap.size, 0, none⟩ = some iv := j1.at (i := 0) rfl
        obtain ⟨s4, t4, rfl⟩ := hu.here.shape
        clear hu
        clear ct kk n3
        go_wp2_with fail
        have ct := atoms_x hV hsm
        simp only [Vl.txt, Vl.cnt, Vl.ye, Vl.cls, Vl.ats, Vl.pvs, Vl.isT, Vl.isN, Vl.isY, Vl.isC, Vl.isA, Vl.isP] at ct
        refine ct.mono ?_
        rintro e z5 ⟨u5, rfl, hu, kk⟩
        have j1 := Rl.is_on j1 kk
        have n5 := n4.trans (kk.mono n4.size)
        have hV := hV.below kk
        have v0 : z5.cell? ⟨wm.heap.size, 0, none⟩ = some iv := j1.at (i := 0) rfl
        obtain ⟨s5, t5, rfl⟩ := hu.here.shape
        clear hu
        clear ct kk n4
        go_wp2_with fail
        have ct := provs_x hV hsm
        simp only [Vl.txt, Vl.cnt, Vl.ye, Vl.cls, Vl.ats, Vl.pvs, Vl.isT, Vl.isN, Vl.isY, Vl.isC, Vl.isA, Vl.isP] at ct
        refine ct.mono ?_
        rintro e z6 ⟨u6, rfl, hu, kk⟩
        have j1 := Rl.is_on j1 kk
        have n6 := n5.trans (kk.mono n5.size)
        have hV := hV.below kk
        have v0 : z6.cell? ⟨wm.heap.size, 0, none⟩ = some iv := j1.at (i := 0) rfl
        obtain ⟨s6, t6, rfl⟩ := hu.here.shape
        clear hu
        clear ct kk n5
        go_wp2_with fail
        have ct := back1_try_no wm.heap.size iv _ _ _ z6 hV rfl j1
        refine ct.mono ?_
        rintro e z7 ⟨bb, rfl, kk⟩
        have j1 := Rl.is_on j1 kk
        have n7 := n6.trans (kk.mono n6.size)
        have hV := hV.below kk
        have v0 := j1.at (i := 0) rfl
        have ck := kind_x hV
        simp only [Vl.kind] at ck
        clear ct kk n6
        go_wp2_with fail
        refine ck.mono ?_
        rintro e z8 ⟨rfl, kk⟩
        have n8 := n7.trans (kk.mono n7.size)
        clear ck kk n7 j1 hV v0 hsm
        go_wp2_with fail
        refine (ca _).mono ?_
        rintro e z9 ⟨rfl, kk⟩
        have n9 := n8.trans (kk.mono n8.size)
        clear kk n8
        go_wp2_with fail
        go_ret
        exact ⟨rfl, n9⟩
      | yes xb =>
        have ct := text_x hV
        simp only [Vl.txt, Vl.cnt, Vl.ye, Vl.cls, Vl.ats, Vl.pvs, Vl.isT, Vl.isN, Vl.isY, Vl.isC, Vl.isA, Vl.isP] at ct
        refine ct.mono ?_
        rintro e z1 ⟨rfl, kk⟩
        have j1 := Rl.is_on j1 kk
        have n1 := n0.trans (kk.mono n0.size)
        have hV := hV.below kk
        have v0 : z1.cell? ⟨wm.heap.size, 0, none⟩ = some iv := j1.at (i := 0) rfl
        clear ct kk n0
        go_wp2_with fail
        have ct := count_x hV
        simp only [Vl.txt, Vl.cnt, Vl.ye, Vl.cls, Vl.ats, Vl.pvs, Vl.isT, Vl.isN, Vl.isY, Vl.isC, Vl.isA, Vl.isP] at ct
        refine ct.mono ?_
        rintro e z2 ⟨rfl, kk⟩
        have j1 := Rl.is_on j1 kk
        have n2 := n1.trans (kk.mono n1.size)
        have hV := hV.below kk
        have v0 : z2.cell? ⟨wm.heap.size, 0, none⟩ = some iv := j1.at (i := 0) rfl
        clear ct kk n1
        go_wp2_with fail
        have ct := yes_x hV
        simp only [Vl.txt, Vl.cnt, Vl.ye, Vl.cls, Vl.ats, Vl.pvs, Vl.isT, Vl.isN, Vl.isY, Vl.isC, Vl.isA, Vl.isP] at ct
        refine ct.mono ?_
        rintro e z3 ⟨rfl, kk⟩
        have j1 := Rl.is_on j1 kk
        have n3 := n2.trans (kk.mono n2.size)
        have hV := hV.below kk
        have v0 : z3.cell? ⟨wm.heap.size, 0, none⟩ = some iv := j1.at (i := 0) rfl
        clear ct kk n2
        go_wp2_with fail
        have ct := clauses_x hV hsm
        simp only [Vl.txt, Vl.cnt, Vl.ye, Vl.cls, Vl.ats, Vl.pvs, Vl.isT, Vl.isN, Vl.isY, Vl.isC, Vl.isA, Vl.isP] at ct
        refine ct.mono ?_
        rintro e z4 ⟨u4, rfl, hu, kk⟩
        have j1 := Rl.is_on j1 kk
        have n4 := n3.trans (kk.mono n3.size)
        have hV := hV.below kk
        have v0 : z4.cell? ⟨wm.heap.size, 0, none⟩ = some iv := j1.at (i := 0) rfl
        obtain ⟨s4, t4, rfl⟩ := hu.here.shape
        clear hu
        clear ct kk n3
        go_wp2_with fail
        have ct := atoms_x hV hsm
        simp only [Vl.txt, Vl.cnt, Vl.ye, Vl.cls, Vl.ats, Vl.pvs, Vl.isT, Vl.isN, Vl.isY, Vl.isC, Vl.isA, Vl.isP] at ct
        refine ct.mono ?_
        rintro e z5 ⟨u5, rfl, hu, kk⟩
        have j1 := Rl.is_on j1 kk
        have n5 := n4.trans (kk.mono n4.size)
        have hV := hV.below kk
        have v0 : z5.cell? ⟨wm.heap.size, 0, none⟩ = some iv := j1.at (i := 0) rfl
        obtain ⟨s5, t5, rfl⟩ := hu.here.shape
        clear hu
        clear ct kk n4
        go_wp2_with fail
        have ct := provs_x hV hsm
        simp only [Vl.txt, Vl.cnt, Vl.ye, Vl.cls, Vl.ats, Vl.pvs, Vl.isT, Vl.isN, Vl.isY, Vl.isC, Vl.isA, Vl.isP] at ct
        refine ct.mono ?_
        rintro e z6 ⟨u6, rfl, hu, kk⟩
        have j1 := Rl.is_on j1 kk
        have n6 := n5.trans (kk.mono n5.size)
        have hV := hV.below kk
        have v0 : z6.cell? ⟨wm.heap.size, 0, none⟩ = some iv := j1.at (i := 0) rfl
        obtain ⟨s6, t6, rfl⟩ := hu.here.shape
        clear hu
        clear ct kk n5
        go_wp2_with fail
        have ct := back1_try_no wm.heap.size iv _ _ _ z6 hV rfl j1
        refine ct.mono ?_
        rintro e z7 ⟨bb, rfl, kk⟩
        have j1 := Rl.is_on j1 kk
        have n7 := n6.trans (kk.mono n6.size)
        have hV := hV.below kk
        have v0 := j1.at (i := 0) rfl
        have ck := kind_x hV
        simp only [Vl.kind] at ck
        clear ct kk n6
        go_wp2_with fail
        refine ck.mono ?_
        rintro e z8 ⟨rfl, kk⟩
        have n8 := n7.trans (kk.mono n7.size)
        clear ck kk n7 j1 hV v0 hsm
        go_wp2_with fail
        refine (ca _).mono ?_
        rintro e z9 ⟨rfl, kk⟩
        have n9 := n8.trans (kk.mono n8.size)
        clear kk n8
        go_wp2_with fail
        go_ret
        exact ⟨rfl, n9⟩
      | clauses xl =>
        have ct := text_x hV
        simp only [Vl.txt, Vl.cnt, Vl.ye, Vl.cls, Vl.ats, Vl.pvs, Vl.isT, Vl.isN, Vl.isY, Vl.isC, Vl.isA, Vl.isP] at ct
        refine ct.mono ?_
        rintro e z1 ⟨rfl, kk⟩
        have j1 := Rl.is_on j1 kk
        have n1 := n0.trans (kk.mono n0.size)
        have hV := hV.below kk
        have v0 : z1.cell? ⟨wm.heap.size, 0, none⟩ = some iv := j1.at (i := 0) rfl
        clear ct kk n0
        go_wp2_with fail
        have ct := count_x hV
        simp only [Vl.txt, Vl.cnt, Vl.ye, Vl.cls, Vl.ats, Vl.pvs, Vl.isT, Vl.isN, Vl.isY, Vl.isC, Vl.isA, Vl.isP] at ct
        refine ct.mono ?_
        rintro e z2 ⟨rfl, kk⟩
        have j1 := Rl.is_on j1 kk
        have n2 := n1.trans (kk.mono n1.size)
        have hV := hV.below kk
        have v0 : z2.cell? ⟨wm.heap.size, 0, none⟩ = some iv := j1.at (i := 0) rfl
        clear ct kk n1
        go_wp2_with fail
        have ct := yes_x hV
        simp only [Vl.txt, Vl.cnt, Vl.ye, Vl.cls, Vl.ats, Vl.pvs, Vl.isT, Vl.isN, Vl.isY, Vl.isC, Vl.isA, Vl.isP] at ct
        refine ct.mono ?_
        rintro e z3 ⟨rfl, kk⟩
        have j1 := Rl.is_on j1 kk
        have n3 := n2.trans (kk.mono n2.size)
        have hV := hV.below kk
        have v0 : z3.cell? ⟨wm.heap.size, 0, none⟩ = some iv := j1.at (i := 0) rfl
        clear ct kk n2
        go_wp2_with fail
        have ct := clauses_x hV hsm
        simp only [Vl.txt, Vl.cnt, Vl.ye, Vl.cls, Vl.ats, Vl.pvs, Vl.isT, Vl.isN, Vl.isY, Vl.isC, Vl.isA, Vl.isP] at ct
        refine ct.mono ?_
        rintro e z4 ⟨u4, rfl, hu, kk⟩
        have j1 := Rl.is_on j1 kk
        have n4 := n3.trans (kk.mono n3.size)
        have hV := hV.below kk
        have v0 : z4.cell? ⟨wm.heap.size, 0, none⟩ = some iv := j1.at (i := 0) rfl
        obtain ⟨s4, t4, rfl⟩ := hu.here.shape
        clear hu
        clear ct kk n3
        go_wp2_with fail
        have ct := atoms_x hV hsm
        simp only [Vl.txt, Vl.cnt, Vl.ye, Vl.cls, Vl.ats, Vl.pvs, Vl.isT, Vl.isN, Vl.isY, Vl.isC, Vl.isA, Vl.isP] at ct
        refine ct.mono ?_
        rintro e z5 ⟨u5, rfl, hu, kk⟩
        have j1 := Rl.is_on j1 kk
        have n5 := n4.trans (kk.mono n4.size)
        have hV := hV.below kk
        have v0 : z5.cell? ⟨wm.heap.size, 0, none⟩ = some iv := j1.at (i := 0) rfl
        obtain ⟨s5, t5, rfl⟩ := hu.here.shape
        clear hu
        clear ct kk n4
        go_wp2_with fail
        have ct := provs_x hV hsm
        simp only [Vl.txt, Vl.cnt, Vl.ye, Vl.cls, Vl.ats, Vl.pvs, Vl.isT, Vl.isN, Vl.isY, Vl.isC, Vl.isA, Vl.isP] at ct
        refine ct.mono ?_
        rintro e z6 ⟨u6, rfl, hu, kk⟩
        have j1 := Rl.is_on j1 kk
        have n6 := n5.trans (kk.mono n5.size)
        have hV := hV.below kk
        have v0 : z6.cell? ⟨wm.heap.size, 0, none⟩ = some iv := j1.at (i := 0) rfl
        obtain ⟨s6, t6, rfl⟩ := hu.here.shape
        clear hu
        clear ct kk n5
        go_wp2_with fail
        have ct := back1_try_no wm.heap.size iv _ _ _ z6 hV rfl j1
        refine ct.mono ?_
        rintro e z7 ⟨bb, rfl, kk⟩
        have j1 := Rl.is_on j1 kk
        have n7 := n6.trans (kk.mono n6.size)
        have hV := hV.below kk
        have v0 := j1.at (i := 0) rfl
        have ck := kind_x hV
        simp only [Vl.kind] at ck
        clear ct kk n6
        go_wp2_with fail
        refine ck.mono ?_
        rintro e z8 ⟨rfl, kk⟩
        have n8 := n7.trans (kk.mono n7.size)
        clear ck kk n7 j1 hV v0 hsm
        go_wp2_with fail
        refine (ca _).mono ?_
        rintro e z9 ⟨rfl, kk⟩
        have n9 := n8.trans (kk.mono n8.size)
        clear kk n8
        go_wp2_with fail
        go_ret
        exact ⟨rfl, n9⟩
      | atoms xl =>
        have ct := text_x hV
        simp only [Vl.txt, Vl.cnt, Vl.ye, Vl.cls, Vl.ats, Vl.pvs, Vl.isT, Vl.isN, Vl.isY, Vl.isC, Vl.isA, Vl.isP] at ct
        refine ct.mono ?_
        rintro e z1 ⟨rfl, kk⟩
        have j1 := Rl.is_on j1 kk
        have n1 := n0.trans (kk.mono n0.size)
        have hV := hV.below kk
        have v0 : z1.cell? ⟨wm.heap.size, 0, none⟩ = some iv := j1.at (i := 0) rfl
        clear ct kk n0
        go_wp2_with fail
        have ct := count_x hV
        simp only [Vl.txt, Vl.cnt, Vl.ye, Vl.cls, Vl.ats, Vl.pvs, Vl.isT, Vl.isN, Vl.isY, Vl.isC, Vl.isA, Vl.isP] at ct
        refine ct.mono ?_
        rintro e z2 ⟨rfl, kk⟩
        have j1 := Rl.is_on j1 kk
        have n2 := n1.trans (kk.mono n1.size)
        have hV := hV.below kk
        have v0 : z2.cell? ⟨wm.heap.size, 0, none⟩ = some iv := j1.at (i := 0) rfl
        clear ct kk n1
        go_wp2_with fail
        have ct := yes_x hV
        simp only [Vl.txt, Vl.cnt, Vl.ye, Vl.cls, Vl.ats, Vl.pvs, Vl.isT, Vl.isN, Vl.isY, Vl.isC, Vl.isA, Vl.isP] at ct
        refine ct.mono ?_
        rintro e z3 ⟨rfl, kk⟩
        have j1 := Rl.is_on j1 kk
        have n3 := n2.trans (kk.mono n2.size)
        have hV := hV.below kk
        have v0 : z3.cell? ⟨wm.heap.size, 0, none⟩ = some iv := j1.at (i := 0) rfl
        clear ct kk n2
        go_wp2_with fail
        have ct := clauses_x hV hsm
        simp only [Vl.txt, Vl.cnt, Vl.ye, Vl.cls, Vl.ats, Vl.pvs, Vl.isT, Vl.isN, Vl.isY, Vl.isC, Vl.isA, Vl.isP] at ct
        refine ct.mono ?_
        rintro e z4 ⟨u4, rfl, hu, kk⟩
        have j1 := Rl.is_on j1 kk
        have n4 := n3.trans (kk.mono n3.size)
        have hV := hV.below kk
        have v0 : z4.cell? ⟨wm.heap.size, 0, none⟩ = some iv := j1.at (i := 0) rfl
        obtain ⟨s4, t4, rfl⟩ := hu.here.shape
        clear hu
        clear ct kk n3
        go_wp2_with fail
        have ct := atoms_x hV hsm
        simp only [Vl.txt, Vl.cnt, Vl.ye, Vl.cls, Vl.ats, Vl.pvs, Vl.isT, Vl.isN, Vl.isY, Vl.isC, Vl.isA, Vl.isP] at ct
        refine ct.mono ?_
        rintro e z5 ⟨u5, rfl, hu, kk⟩
        have j1 := Rl.is_on j1 kk
        have n5 := n4.trans (kk.mono n4.size)
        have hV := hV.below kk
        have v0 : z5.cell? ⟨wm.heap.size, 0, none⟩ = some iv := j1.at (i := 0) rfl
        obtain ⟨s5, t5, rfl⟩ := hu.here.shape
        clear hu
        clear ct kk n4
        go_wp2_with fail
        have ct := provs_x hV hsm
        simp only [Vl.txt, Vl.cnt, Vl.ye, Vl.cls, Vl.ats, Vl.pvs, Vl.isT, Vl.isN, Vl.isY, Vl.isC, Vl.isA, Vl.isP] at ct
        refine ct.mono ?_
        rintro e z6 ⟨u6, rfl, hu, kk⟩
        have j1 := Rl.is_on j1 kk
        have n6 := n5.trans (kk.mono n5.size)
        have hV := hV.below kk
        have v0 : z6.cell? ⟨wm.heap.size, 0, none⟩ = some iv := j1.at (i := 0) rfl
        obtain ⟨s6, t6, rfl⟩ := hu.here.shape
        clear hu
        clear ct kk n5
        go_wp2_with fail
        have ct := back1_try_no wm.heap.size iv _ _ _ z6 hV rfl j1
        refine ct.mono ?_
        rintro e z7 ⟨bb, rfl, kk⟩
        have j1 := Rl.is_on j1 kk
        have n7 := n6.trans (kk.mono n6.size)
        have hV := hV.below kk
        have v0 := j1.at (i := 0) rfl
        have ck := kind_x hV
        simp only [Vl.kind] at ck
        clear ct kk n6
        go_wp2_with fail
        refine ck.mono ?_
        rintro e z8 ⟨rfl, kk⟩
        have n8 := n7.trans (kk.mono n7.size)
        clear ck kk n7 j1 hV v0 hsm
        go_wp2_with fail
        refine (ca _).mono ?_
        rintro e z9 ⟨rfl, kk⟩
        have n9 := n8.trans (kk.mono n8.size)
        clear kk n8
        go_wp2_with fail
        go_ret
        exact ⟨rfl, n9⟩
      | provs xl =>
        have ct := text_x hV
        simp only [Vl.txt, Vl.cnt, Vl.ye, Vl.cls, Vl.ats, Vl.pvs, Vl.isT, Vl.isN, Vl.isY, Vl.isC, Vl.isA, Vl.isP] at ct
        refine ct.mono ?_
        rintro e z1 ⟨rfl, kk⟩
        have j1 := Rl.is_on j1 kk
        have n1 := n0.trans (kk.mono n0.size)
        have hV := hV.below kk
        have v0 : z1.cell? ⟨wm.heap.size, 0, none⟩ = some iv := j1.at (i := 0) rfl
        clear ct kk n0
        go_wp2_with fail
        have ct := count_x hV
        simp only [Vl.txt, Vl.cnt, Vl.ye, Vl.cls, Vl.ats, Vl.pvs, Vl.isT, Vl.isN, Vl.isY, Vl.isC, Vl.isA, Vl.isP] at ct
        refine ct.mono ?_
        rintro e z2 ⟨rfl, kk⟩
        have j1 := Rl.is_on j1 kk
        have n2 := n1.trans (kk.mono n1.size)
        have hV := hV.below kk
        have v0 : z2.cell? ⟨wm.heap.size, 0, none⟩ = some iv := j1.at (i := 0) rfl
        clear ct kk n1
        go_wp2_with fail
        have ct := yes_x hV
        simp only [Vl.txt, Vl.cnt, Vl.ye, Vl.cls, Vl.ats, Vl.pvs, Vl.isT, Vl.isN, Vl.isY, Vl.isC, Vl.isA, Vl.isP] at ct
        refine ct.mono ?_
        rintro e z3 ⟨rfl, kk⟩
        have j1 := Rl.is_on j1 kk
        have n3 := n2.trans (kk.mono n2.size)
        have hV := hV.below kk
        have v0 : z3.cell? ⟨wm.heap.size, 0, none⟩ = some iv := j1.at (i := 0) rfl
        clear ct kk n2
        go_wp2_with fail
        have ct := clauses_x hV hsm
        simp only [Vl.txt, Vl.cnt, Vl.ye, Vl.cls, Vl.ats, Vl.pvs, Vl.isT, Vl.isN, Vl.isY, Vl.isC, Vl.isA, Vl.isP] at ct
        refine ct.mono ?_
        rintro e z4 ⟨u4, rfl, hu, kk⟩
        have j1 := Rl.is_on j1 kk
        have n4 := n3.trans (kk.mono n3.size)
        have hV := hV.below kk
        have v0 : z4.cell? ⟨wm.heap.size, 0, none⟩ = some iv := j1.at (i := 0) rfl
        obtain ⟨s4, t4, rfl⟩ := hu.here.shape
        clear hu
        clear ct kk n3
        go_wp2_with fail
        have ct := atoms_x hV hsm
        simp only [Vl.txt, Vl.cnt, Vl.ye, Vl.cls, Vl.ats, Vl.pvs, Vl.isT, Vl.isN, Vl.isY, Vl.isC, Vl.isA, Vl.isP] at ct
        refine ct.mono ?_
        rintro e z5 ⟨u5, rfl, hu, kk⟩
        have j1 := Rl.is_on j1 kk
        have n5 := n4.trans (kk.mono n4.size)
        have hV := hV.below kk
        have v0 : z5.cell? ⟨wm.heap.size, 0, none⟩ = some iv := j1.at (i := 0) rfl
        obtain ⟨s5, t5, rfl⟩ := hu.here.shape
        clear hu
        clear ct kk n4
        go_wp2_with fail
        have ct := provs_x hV hsm
        simp only [Vl.txt, Vl.cnt, Vl.ye, Vl.cls, Vl.ats, Vl.pvs, Vl.isT, Vl.isN, Vl.isY, Vl.isC, Vl.isA, Vl.isP] at ct
        refine ct.mono ?_
        rintro e z6 ⟨u6, rfl, hu, kk⟩
        have j1 := Rl.is_on j1 kk
        have n6 := n5.trans (kk.mono n5.size)
        have hV := hV.below kk
        have v0 : z6.cell? ⟨wm.heap.size, 0, none⟩ = some iv := j1.at (i := 0) rfl
        obtain ⟨s6, t6, rfl⟩ := hu.here.shape
        clear hu
        clear ct kk n5
        go_wp2_with fail
        have ct := back1_try_no wm.heap.size iv _ _ _ z6 hV rfl j1
        refine ct.mono ?_
        rintro e z7 ⟨bb, rfl, kk⟩
        have j1 := Rl.is_on j1 kk
        have n7 := n6.trans (kk.mono n6.size)
        have hV := hV.below kk
        have v0 := j1.at (i := 0) rfl
        have ck := kind_x hV
        simp only [Vl.kind] at ck
        clear ct kk n6
        go_wp2_with fail
        refine ck.mono ?_
        rintro e z8 ⟨rfl, kk⟩
        have n8 := n7.trans (kk.mono n7.size)
        clear ck kk n7 j1 hV v0 hsm
        go_wp2_with fail
        refine (ca _).mono ?_
        rintro e z9 ⟨rfl, kk⟩
        have n9 := n8.trans (kk.mono n8.size)
        clear kk n8
        go_wp2_with fail
        go_ret
        exact ⟨rfl, n9⟩
end Va
end Go.Proofs.YtapmpdljapbpeaaGreatDoor

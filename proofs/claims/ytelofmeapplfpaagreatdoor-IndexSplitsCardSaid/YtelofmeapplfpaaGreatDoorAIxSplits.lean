/-
The law IndexSplits.
-/
import Derived.Test.YtelofmeapplfpaaGreatDoorAIxSat
import Derived.Test.YtelofmeapplfpaaGreatDoorAIxLit
import Derived.Test.YtelofmeapplfpaaGreatDoorARelArgs
import Derived.Test.YtelofmeapplfpaaGreatDoorARecYMay
namespace Go.Proofs.YtelofmeapplfpaaGreatDoor
open Go.RowKit
set_option linter.unusedSimpArgs false
set_option linter.unusedVariables false
namespace Ix
open Ver (Bs S S_li S_size cmpV holdsV)
open Rl (At Pv Vars aV may nmB isV)
open Rc (Pk nPk Pks PkV PkC Has mayK)
def bare (p:Pk):Pk:={ p with prv:=[] }
theorem sat_bare {p:Pk} (hp:MayP p) {t:Bs} (ht:isV t = true) (r:Int) (h1:1 ≤ r) (h5:r ≤ 5):sat (bare p) (p.nm,r,t) = holdsV r p.vs t:=by
 have hm:may (p.nm,r,t) = true:=by
  simp [may,hp.nm,ht,h1,h5,show r ≠ 0 by omega]
 unfold sat bare
 rw [hm]
 simp
theorem sat_name {p:Pk} (hp:MayP p):sat (bare p) (p.nm,0,[]) = true:=by
 have hm:may (p.nm,0,[]) = true:=by
  simp [may,hp.nm]
 have hv:=hp.ver
 unfold isV at hv
 unfold sat bare
 rw [hm]
 simp [holdsV,hv]
theorem holds_le {a c:Bs} (ha:isV a = true) (hc:isV c = true):holdsV 2 a c = decide (cmpV a c ≤ 0):=by unfold isV at *; simp [holdsV,ha,hc]
theorem holds_lt {a c:Bs} (ha:isV a = true) (hc:isV c = true):holdsV 1 a c = decide (cmpV a c < 0):=by unfold isV at *; simp [holdsV,ha,hc]
theorem holds_eq {a c:Bs} (ha:isV a = true) (hc:isV c = true):holdsV 3 a c = decide (cmpV a c = 0):=by unfold isV at *; simp [holdsV,ha,hc]
theorem holds_ge {a c:Bs} (ha:isV a = true) (hc:isV c = true):holdsV 4 a c = decide (0 ≤ cmpV a c):=by unfold isV at *; simp [holdsV,ha,hc]
theorem holds_gt {a c:Bs} (ha:isV a = true) (hc:isV c = true):holdsV 5 a c = decide (0 < cmpV a c):=by unfold isV at *; simp [holdsV,ha,hc]
set_option maxRecDepth 100000 in
set_option maxHeartbeats 2000000 in
theorem splitsFn_any (b:Nat) (p:Pk) (t:Bs) (r:Int) (u1 u2 u3 u4 u5 u6:Value) (w:World) (i1:Blk.Is w b 26 #[.string (S p.nm),.string (S p.vs),u1,u2,u3,u4,u5,u6,.bool p.ess]) (i2:Blk.Is w (b + 1) 9 #[.string (S t)]) (hp:Has w p u1 u2 u3 u4 u5 u6) (hl:p.Lim) (ht:t.length ≤ 140737488351232) (hv:Vars w) :
  Calls Tryz.prog 32 #[.int .i64 r,.pointer (some ⟨b,0,none⟩),.pointer (some ⟨b + 1,0,none⟩)] w fun e w'=>e = .returned (.bool (sat p (p.nm,r,t))) ∧ Below w.heap.size w w':=by
 have ca:=satisfies_any (.agg #[.string (S p.nm),.string (S p.vs),u1,u2,u3,u4,u5,u6,.bool p.ess]) p (p.nm,r,t) w ⟨_,_,_,_,_,_,rfl,hp⟩ hl ⟨hl.nm,ht⟩ hv
 have c0:=i1.at (i:=0) rfl
 have c1:=i1.at (i:=1) rfl
 have c2:=i1.at (i:=2) rfl
 have c3:=i1.at (i:=3) rfl
 have c4:=i1.at (i:=4) rfl
 have c5:=i1.at (i:=5) rfl
 have c6:=i1.at (i:=6) rfl
 have c7:=i1.at (i:=7) rfl
 have c8:=i1.at (i:=8) rfl
 have d0:=i2.at (i:=0) rfl
 unfold aV at ca
 simp only at ca
 clear i1 i2 hp hl ht hv
 go_enter Tryz.func32,Tryz.ntmps32
 go_wp2_with fail
 refine ca.mono ?_
 rintro e w1 ⟨rfl,k1⟩
 clear ca
 go_wp2_with fail
 go_ret
 exact ⟨rfl,k1⟩
set_option maxRecDepth 100000 in
set_option maxHeartbeats 16000000 in
theorem splits_walk (v1:Value) (p:Pk) (t:Bs) (w:World) (h1:PkV w v1 p) (l1:p.Lim) (ht:t.length ≤ 140737488351232) (hv:Vars w) :
  Calls Tryz.prog 8 #[v1,.string (S t)] w fun e w'=>e = .returned (.bool true) ∧ Below w.heap.size w w':=by
 obtain ⟨u1,u2,u3,u4,u5,u6,rfl,hp⟩:=h1
 obtain ⟨x1,cx1,ex1⟩:=hp.pre.shape
 generalize nx1h:p.pre.length = nx1 at ex1
 clear nx1h
 obtain ⟨x2,cx2,ex2⟩:=hp.dep.shape
 generalize nx2h:p.dep.length = nx2 at ex2
 clear nx2h
 obtain ⟨x3,cx3,ex3⟩:=hp.rcm.shape
 generalize nx3h:p.rcm.length = nx3 at ex3
 clear nx3h
 obtain ⟨x4,cx4,ex4⟩:=hp.con.shape
 generalize nx4h:p.con.length = nx4 at ex4
 clear nx4h
 obtain ⟨x5,cx5,ex5⟩:=hp.brk.shape
 generalize nx5h:p.brk.length = nx5 at ex5
 clear nx5h
 obtain ⟨x6,cx6,ex6⟩:=hp.prv.shape
 generalize nx6h:p.prv.length = nx6 at ex6
 clear nx6h
 subst ex1 ex2 ex3 ex4 ex5 ex6
 have hb1:=(Below.refl w.heap.size w).alloc (Nat.le_refl _) (.cells #[.string (S p.nm),.string (S p.vs),.slice x1 nx1 cx1,.slice x2 nx2 cx2,.slice x3 nx3 cx3,.slice x4 nx4 cx4,.slice x5 nx5 cx5,.slice x6 nx6 cx6,.bool p.ess] 26)
 have i1:=Blk.Is.new w 26 #[.string (S p.nm),.string (S p.vs),.slice x1 nx1 cx1,.slice x2 nx2 cx2,.slice x3 nx3 cx3,.slice x4 nx4 cx4,.slice x5 nx5 cx5,.slice x6 nx6 cx6,.bool p.ess]
 have s1:(w.alloc (.cells #[.string (S p.nm),.string (S p.vs),.slice x1 nx1 cx1,.slice x2 nx2 cx2,.slice x3 nx3 cx3,.slice x4 nx4 cx4,.slice x5 nx5 cx5,.slice x6 nx6 cx6,.bool p.ess] 26)).heap.size = w.heap.size + 1:=by simp
 have hb2:=hb1.alloc hb1.size (.cells #[.string (S t)] 9)
 have i2:=Blk.Is.new (w.alloc (.cells #[.string (S p.nm),.string (S p.vs),.slice x1 nx1 cx1,.slice x2 nx2 cx2,.slice x3 nx3 cx3,.slice x4 nx4 cx4,.slice x5 nx5 cx5,.slice x6 nx6 cx6,.bool p.ess] 26)) 9 #[.string (S t)]
 rw [s1] at i2
 have i1':=i1.alloc (.cells #[.string (S t)] 9)
 obtain ⟨W,hW⟩:∃ W,(w.alloc (.cells #[.string (S p.nm),.string (S p.vs),.slice x1 nx1 cx1,.slice x2 nx2 cx2,.slice x3 nx3 cx3,.slice x4 nx4 cx4,.slice x5 nx5 cx5,.slice x6 nx6 cx6,.bool p.ess] 26)).alloc (.cells #[.string (S t)] 9) = W:=⟨_,rfl⟩
 rw [hW] at hb2 i2 i1'
 have s2:W.heap.size = w.heap.size + 2:=by rw [← hW]; simp
 have HP0:=Lib.hid hp
 have HP:=Lib.hid (hp.below hb2)
 have HB:=Lib.hid hb2
 have IP:=Lib.hid i1'
 have IT:=Lib.hid i2
 have LP:=Lib.hid l1
 have HT:=Lib.hid ht
 have GV:=Lib.hid (hv.on hb2)
 have HV0:=Lib.hid hv
 have HS2:=Lib.hid s2
 obtain ⟨hbl,hpk⟩:=pks_one W p (.slice x1 nx1 cx1) (.slice x2 nx2 cx2) (.slice x3 nx3 cx3) (.slice x4 nx4 cx4) (.slice x5 nx5 cx5) (.slice x6 nx6 cx6) HP.out
 obtain ⟨V,hV⟩:∃ V,W.alloc (.cells #[.string (S p.nm),.string (S p.vs),.slice x1 nx1 cx1,.slice x2 nx2 cx2,.slice x3 nx3 cx3,.slice x4 nx4 cx4,.slice x5 nx5 cx5,.slice x6 nx6 cx6,.bool p.ess] 26) = V:=⟨_,rfl⟩
 rw [hV] at hbl hpk
 obtain ⟨b1,hb1'⟩:∃ b1,Rc.lightB [p] = b1:=⟨_,rfl⟩
 have cl:=Rc.light_any _ [p] V hpk
 rw [hb1'] at cl
 have HBV:=Lib.hid hbl
 have c0:=IP.out.at (i:=0) rfl
 have c1:=IP.out.at (i:=1) rfl
 have c2:=IP.out.at (i:=2) rfl
 have c3:=IP.out.at (i:=3) rfl
 have c4:=IP.out.at (i:=4) rfl
 have c5:=IP.out.at (i:=5) rfl
 have c6:=IP.out.at (i:=6) rfl
 have c7:=IP.out.at (i:=7) rfl
 have c8:=IP.out.at (i:=8) rfl
 clear hp hb1 i1 s1 hb2 i2 i1' hv l1 ht hb1' hbl hpk s2
 cases b1 with
 | false =>
  go_enter Tryz.func8,Tryz.ntmps8
  go_wp2_with fail
  clear hV hW c0 c1 c2 c3 c4 c5 c6 c7 c8
  refine cl.mono ?_
  rintro e w1 ⟨rfl,k1⟩
  have B1:=Lib.hid (HBV.out.trans (k1.mono HBV.out.size))
  clear cl k1
  have ca:=awake_any w1 (GV.out.on B1.out)
  go_wp2_with fail
  refine ca.mono ?_
  rintro e w9 ⟨rfl,k9⟩
  have hb:=HB.out.trans ((B1.out.trans (k9.mono B1.out.size)).mono HB.out.size)
  go_wp2_with fail
  go_ret
  exact ⟨rfl,hb⟩
 | true =>
  go_enter Tryz.func8,Tryz.ntmps8
  go_wp2_with fail
  clear hV hW c0 c1 c2 c3 c4 c5 c6 c7 c8
  refine cl.mono ?_
  rintro e w1 ⟨rfl,k1⟩
  have B1:=Lib.hid (HBV.out.trans (k1.mono HBV.out.size))
  clear cl k1
  have j1:=Rl.is_on IP.out B1.out
  have c0:=j1.at (i:=0) rfl
  have c1:=j1.at (i:=1) rfl
  have c2:=j1.at (i:=2) rfl
  have c3:=j1.at (i:=3) rfl
  have c4:=j1.at (i:=4) rfl
  have c5:=j1.at (i:=5) rfl
  have c6:=j1.at (i:=6) rfl
  have c7:=j1.at (i:=7) rfl
  have c8:=j1.at (i:=8) rfl
  have cy:=Rc.ymay_any (.agg #[.string (S p.nm),.string (S p.vs),.slice x1 nx1 cx1,.slice x2 nx2 cx2,.slice x3 nx3 cx3,.slice x4 nx4 cx4,.slice x5 nx5 cx5,.slice x6 nx6 cx6,.bool p.ess]) p w1 ⟨_,_,_,_,_,_,rfl,HP.out.below B1.out⟩ LP.out
  clear j1
  by_cases hm:mayK p = 0
  ·have HMP:Hid (MayP p):=mayK_of hm
   rw [hm] at cy
   clear hm
   go_wp2_with fail
   clear c0 c1 c2 c3 c4 c5 c6 c7 c8
   refine cy.mono ?_
   rintro e w2 ⟨rfl,k2⟩
   have B2:=Lib.hid (B1.out.trans (k2.mono B1.out.size))
   clear cy k2 B1
   have d0:=(Rl.is_on IT.out B2.out).at (i:=0) rfl
   have ci:=Ver.yis_any (S t) w2 (by rw [S_size]; have:=HT.out; omega)
   rw [S_li] at ci
   cases hiv:isV t with
   | false =>
    rw [show (Ver.parse t).isSome = false from hiv] at ci
    clear hiv
    go_wp2_with fail
    clear d0
    refine ci.mono ?_
    rintro e w3 ⟨rfl,k3⟩
    have B3:=Lib.hid (B2.out.trans (k3.mono B2.out.size))
    clear ci k3
    have ca:=awake_any w3 (GV.out.on B3.out)
    go_wp2_with fail
    refine ca.mono ?_
    rintro e w9 ⟨rfl,k9⟩
    have hb:=HB.out.trans ((B3.out.trans (k9.mono B3.out.size)).mono HB.out.size)
    go_wp2_with fail
    go_ret
    exact ⟨rfl,hb⟩
   | true =>
    rw [show (Ver.parse t).isSome = true from hiv] at ci
    have HIV:=Lib.hid hiv
    clear hiv
    go_wp2_with fail
    clear d0
    refine ci.mono ?_
    rintro e w3 ⟨rfl,k3⟩
    have B3:=Lib.hid (B2.out.trans (k3.mono B2.out.size))
    clear ci k3 B2
    -- the store
    have j3:=Rl.is_on IP.out B3.out
    have y7:=j3.at (i:=7) rfl
    have f7:=j3.free 7
    have j4:=j3.set 7 (.slice none 0 0)
    have hc4:Blk.Chg (fun k=>k = w.heap.size) w3 (w3.setCell ⟨w.heap.size,7,none⟩ (.slice none 0 0)):=(Blk.Chg.refl (fun k=>k = w.heap.size) w3).setAt rfl
    have t4:=hc4.is (Rl.is_on IT.out B3.out) (by omega)
    have hb3:=HB.out.trans (B3.out.mono HB.out.size)
    have B4:Hid (Below w.heap.size w (w3.setCell ⟨w.heap.size,7,none⟩ (.slice none 0 0))):=hb3.trans (hc4.below (fun k hk=>by omega) hb3.size)
    obtain ⟨w4,hw4⟩:∃ w4,w3.setCell ⟨w.heap.size,7,none⟩ (.slice none 0 0) = w4:=⟨_,rfl⟩
    rw [hw4] at j4 t4 B4
    have J4:Hid (Blk.Is w4 w.heap.size 26 #[.string (S p.nm),.string (S p.vs),.slice x1 nx1 cx1,.slice x2 nx2 cx2,.slice x3 nx3 cx3,.slice x4 nx4 cx4,.slice x5 nx5 cx5,.slice none 0 0,.bool p.ess]):=j4
    have T4:=Lib.hid t4
    have HW4:=Lib.hid hw4
    have nil6:∀ W,Rl.Pvs W (.slice none 0 0) []:=fun W=>slc_nil _ _ _ _
    have H4:Hid (Has w4 (bare p) (.slice x1 nx1 cx1) (.slice x2 nx2 cx2) (.slice x3 nx3 cx3) (.slice x4 nx4 cx4) (.slice x5 nx5 cx5) (.slice none 0 0)):=by
     have h:=HP0.out.below B4.out
     exact ⟨h.pre,h.dep,h.rcm,h.con,h.brk,nil6 _⟩
    have LB:Hid (bare p).Lim:=⟨LP.out.nm,LP.out.vs,LP.out.pre,LP.out.dep,LP.out.rcm,LP.out.con,LP.out.brk,fun y hy=>by cases hy⟩
    have V4:=Lib.hid (HV0.out.on B4.out)
    have hu:=hw4
    have e1':∀ w':World,Below w4.heap.size w4 w' → ∀ r:Int,1 ≤ r → r ≤ 5 → Calls Tryz.prog 32 #[.int .i64 r,.pointer (some ⟨w.heap.size,0,none⟩),.pointer (some ⟨w.heap.size + 1,0,none⟩)] w' fun e w''=>e = .returned (.bool (holdsV r p.vs t)) ∧ Below w'.heap.size w' w'':=fun w' hb r r1 r5=>by
     have h:=splitsFn_any w.heap.size (bare p) t r (.slice x1 nx1 cx1) (.slice x2 nx2 cx2) (.slice x3 nx3 cx3) (.slice x4 nx4 cx4) (.slice x5 nx5 cx5) (.slice none 0 0) w' (Rl.is_on J4.out hb) (Rl.is_on T4.out hb) (H4.out.below hb) LB.out HT.out (V4.out.on hb)
     rw [show (bare p).nm = p.nm from rfl,sat_bare HMP.out HIV.out r r1 r5] at h
     exact h
    have FN:=Lib.hid e1'
    have cs:=satisfies_any (.agg #[.string (S p.nm),.string (S p.vs),.slice x1 nx1 cx1,.slice x2 nx2 cx2,.slice x3 nx3 cx3,.slice x4 nx4 cx4,.slice x5 nx5 cx5,.slice none 0 0,.bool p.ess]) (bare p) (p.nm,0,[]) w4 ⟨_,_,_,_,_,_,rfl,H4.out⟩ LB.out ⟨LP.out.nm,by show 0 ≤ _; omega⟩ V4.out
    rw [sat_name HMP.out] at cs
    unfold aV at cs
    have es:S [] = ⟨#[]⟩:=rfl
    simp only [es] at cs
    have c0:=J4.out.at (i:=0) rfl
    have c1:=J4.out.at (i:=1) rfl
    have c2:=J4.out.at (i:=2) rfl
    have c3:=J4.out.at (i:=3) rfl
    have c4:=J4.out.at (i:=4) rfl
    have c5:=J4.out.at (i:=5) rfl
    have c6:=J4.out.at (i:=6) rfl
    have c7:=J4.out.at (i:=7) rfl
    have c8:=J4.out.at (i:=8) rfl
    clear e1' es j3 j4 t4 hc4 hb3 hw4 nil6 B3 IP IT HP HB GV HP0 HBV
    go_wp2_with fail
    clear hu c0 c1 c2 c3 c4 c5 c6 c7 c8
    refine cs.mono ?_
    rintro e u0 ⟨rfl,k0⟩
    have K0:=Lib.hid k0
    clear cs k0 y7 f7
    rcases Int.lt_trichotomy (cmpV p.vs t) 0 with hx0 | hx0 | hx0
    ·have hx:=hx0
     have cx:=FN.out u0 K0.out 2 (by omega) (by omega)
     rw [holds_le (HMP.out.ver) HIV.out,show decide (_) = true from decide_eq_true (by omega)] at cx
     go_wp2_with fail
     refine cx.mono ?_
     rintro e u1 ⟨rfl,k1⟩
     have K1:=Lib.hid (K0.out.trans (k1.mono K0.out.size))
     clear cx k1 K0
     have cx:=FN.out u1 K1.out 5 (by omega) (by omega)
     rw [holds_gt (HMP.out.ver) HIV.out,show decide (_) = false from decide_eq_false (by omega)] at cx
     go_wp2_with fail
     refine cx.mono ?_
     rintro e u2 ⟨rfl,k2⟩
     have K2:=Lib.hid (K1.out.trans (k2.mono K1.out.size))
     clear cx k2 K1
     have cx:=FN.out u2 K2.out 1 (by omega) (by omega)
     rw [holds_lt (HMP.out.ver) HIV.out,show decide (_) = true from decide_eq_true (by omega)] at cx
     go_wp2_with fail
     refine cx.mono ?_
     rintro e u3 ⟨rfl,k3⟩
     have K3:=Lib.hid (K2.out.trans (k3.mono K2.out.size))
     clear cx k3 K2
     have cx:=FN.out u3 K3.out 4 (by omega) (by omega)
     rw [holds_ge (HMP.out.ver) HIV.out,show decide (_) = false from decide_eq_false (by omega)] at cx
     go_wp2_with fail
     refine cx.mono ?_
     rintro e u4 ⟨rfl,k4⟩
     have K4:=Lib.hid (K3.out.trans (k4.mono K3.out.size))
     clear cx k4 K3
     have cx:=FN.out u4 K4.out 3 (by omega) (by omega)
     rw [holds_eq (HMP.out.ver) HIV.out,show decide (_) = false from decide_eq_false (by omega)] at cx
     go_wp2_with fail
     refine cx.mono ?_
     rintro e u5 ⟨rfl,k5⟩
     have K5:=Lib.hid (K4.out.trans (k5.mono K4.out.size))
     clear cx k5 K4
     have cx:=FN.out u5 K5.out 2 (by omega) (by omega)
     rw [holds_le (HMP.out.ver) HIV.out,show decide (_) = true from decide_eq_true (by omega)] at cx
     go_wp2_with fail
     refine cx.mono ?_
     rintro e u6 ⟨rfl,k6⟩
     have K6:=Lib.hid (K5.out.trans (k6.mono K5.out.size))
     clear cx k6 K5
     have cx:=FN.out u6 K6.out 4 (by omega) (by omega)
     rw [holds_ge (HMP.out.ver) HIV.out,show decide (_) = false from decide_eq_false (by omega)] at cx
     go_wp2_with fail
     refine cx.mono ?_
     rintro e u7 ⟨rfl,k7⟩
     have K7:=Lib.hid (K6.out.trans (k7.mono K6.out.size))
     clear cx k7 K6
     have ca:=awake_any u7 (V4.out.on K7.out)
     go_wp2_with fail
     refine ca.mono ?_
     rintro e w9 ⟨rfl,k9⟩
     have hb:=B4.out.trans ((K7.out.trans (k9.mono K7.out.size)).mono B4.out.size)
     clear ca
     go_wp2_with fail
     go_ret
     exact ⟨rfl,hb⟩
    ·have hx:=hx0
     have cx:=FN.out u0 K0.out 2 (by omega) (by omega)
     rw [holds_le (HMP.out.ver) HIV.out,show decide (_) = true from decide_eq_true (by omega)] at cx
     go_wp2_with fail
     refine cx.mono ?_
     rintro e u1 ⟨rfl,k1⟩
     have K1:=Lib.hid (K0.out.trans (k1.mono K0.out.size))
     clear cx k1 K0
     have cx:=FN.out u1 K1.out 5 (by omega) (by omega)
     rw [holds_gt (HMP.out.ver) HIV.out,show decide (_) = false from decide_eq_false (by omega)] at cx
     go_wp2_with fail
     refine cx.mono ?_
     rintro e u2 ⟨rfl,k2⟩
     have K2:=Lib.hid (K1.out.trans (k2.mono K1.out.size))
     clear cx k2 K1
     have cx:=FN.out u2 K2.out 1 (by omega) (by omega)
     rw [holds_lt (HMP.out.ver) HIV.out,show decide (_) = false from decide_eq_false (by omega)] at cx
     go_wp2_with fail
     refine cx.mono ?_
     rintro e u3 ⟨rfl,k3⟩
     have K3:=Lib.hid (K2.out.trans (k3.mono K2.out.size))
     clear cx k3 K2
     have cx:=FN.out u3 K3.out 4 (by omega) (by omega)
     rw [holds_ge (HMP.out.ver) HIV.out,show decide (_) = true from decide_eq_true (by omega)] at cx
     go_wp2_with fail
     refine cx.mono ?_
     rintro e u4 ⟨rfl,k4⟩
     have K4:=Lib.hid (K3.out.trans (k4.mono K3.out.size))
     clear cx k4 K3
     have cx:=FN.out u4 K4.out 3 (by omega) (by omega)
     rw [holds_eq (HMP.out.ver) HIV.out,show decide (_) = true from decide_eq_true (by omega)] at cx
     go_wp2_with fail
     refine cx.mono ?_
     rintro e u5 ⟨rfl,k5⟩
     have K5:=Lib.hid (K4.out.trans (k5.mono K4.out.size))
     clear cx k5 K4
     have cx:=FN.out u5 K5.out 2 (by omega) (by omega)
     rw [holds_le (HMP.out.ver) HIV.out,show decide (_) = true from decide_eq_true (by omega)] at cx
     go_wp2_with fail
     refine cx.mono ?_
     rintro e u6 ⟨rfl,k6⟩
     have K6:=Lib.hid (K5.out.trans (k6.mono K5.out.size))
     clear cx k6 K5
     have cx:=FN.out u6 K6.out 4 (by omega) (by omega)
     rw [holds_ge (HMP.out.ver) HIV.out,show decide (_) = true from decide_eq_true (by omega)] at cx
     go_wp2_with fail
     refine cx.mono ?_
     rintro e u7 ⟨rfl,k7⟩
     have K7:=Lib.hid (K6.out.trans (k7.mono K6.out.size))
     clear cx k7 K6
     have ca:=awake_any u7 (V4.out.on K7.out)
     go_wp2_with fail
     refine ca.mono ?_
     rintro e w9 ⟨rfl,k9⟩
     have hb:=B4.out.trans ((K7.out.trans (k9.mono K7.out.size)).mono B4.out.size)
     clear ca
     go_wp2_with fail
     go_ret
     exact ⟨rfl,hb⟩
    ·have hx:=hx0
     have cx:=FN.out u0 K0.out 2 (by omega) (by omega)
     rw [holds_le (HMP.out.ver) HIV.out,show decide (_) = false from decide_eq_false (by omega)] at cx
     go_wp2_with fail
     refine cx.mono ?_
     rintro e u1 ⟨rfl,k1⟩
     have K1:=Lib.hid (K0.out.trans (k1.mono K0.out.size))
     clear cx k1 K0
     have cx:=FN.out u1 K1.out 5 (by omega) (by omega)
     rw [holds_gt (HMP.out.ver) HIV.out,show decide (_) = true from decide_eq_true (by omega)] at cx
     go_wp2_with fail
     refine cx.mono ?_
     rintro e u2 ⟨rfl,k2⟩
     have K2:=Lib.hid (K1.out.trans (k2.mono K1.out.size))
     clear cx k2 K1
     have cx:=FN.out u2 K2.out 1 (by omega) (by omega)
     rw [holds_lt (HMP.out.ver) HIV.out,show decide (_) = false from decide_eq_false (by omega)] at cx
     go_wp2_with fail
     refine cx.mono ?_
     rintro e u3 ⟨rfl,k3⟩
     have K3:=Lib.hid (K2.out.trans (k3.mono K2.out.size))
     clear cx k3 K2
     have cx:=FN.out u3 K3.out 4 (by omega) (by omega)
     rw [holds_ge (HMP.out.ver) HIV.out,show decide (_) = true from decide_eq_true (by omega)] at cx
     go_wp2_with fail
     refine cx.mono ?_
     rintro e u4 ⟨rfl,k4⟩
     have K4:=Lib.hid (K3.out.trans (k4.mono K3.out.size))
     clear cx k4 K3
     have cx:=FN.out u4 K4.out 3 (by omega) (by omega)
     rw [holds_eq (HMP.out.ver) HIV.out,show decide (_) = false from decide_eq_false (by omega)] at cx
     go_wp2_with fail
     refine cx.mono ?_
     rintro e u5 ⟨rfl,k5⟩
     have K5:=Lib.hid (K4.out.trans (k5.mono K4.out.size))
     clear cx k5 K4
     have cx:=FN.out u5 K5.out 2 (by omega) (by omega)
     rw [holds_le (HMP.out.ver) HIV.out,show decide (_) = false from decide_eq_false (by omega)] at cx
     go_wp2_with fail
     refine cx.mono ?_
     rintro e u6 ⟨rfl,k6⟩
     have K6:=Lib.hid (K5.out.trans (k6.mono K5.out.size))
     clear cx k6 K5
     have ca:=awake_any u6 (V4.out.on K6.out)
     go_wp2_with fail
     refine ca.mono ?_
     rintro e w9 ⟨rfl,k9⟩
     have hb:=B4.out.trans ((K6.out.trans (k9.mono K6.out.size)).mono B4.out.size)
     clear ca
     go_wp2_with fail
     go_ret
     exact ⟨rfl,hb⟩
  ·have hne:(mayK p != 0) = true:=by simp [hm]
   generalize mayK p = M at *
   go_wp2_with fail
   clear c0 c1 c2 c3 c4 c5 c6 c7 c8
   refine cy.mono ?_
   rintro e w2 ⟨rfl,k2⟩
   have B2:=Lib.hid (B1.out.trans (k2.mono B1.out.size))
   clear cy k2
   have ca:=awake_any w2 (GV.out.on B2.out)
   go_wp2_with fail
   refine ca.mono ?_
   rintro e w9 ⟨rfl,k9⟩
   have hb:=HB.out.trans ((B2.out.trans (k9.mono B2.out.size)).mono HB.out.size)
   go_wp2_with fail
   go_ret
   exact ⟨rfl,hb⟩
end Ix
end Go.Proofs.YtelofmeapplfpaaGreatDoor

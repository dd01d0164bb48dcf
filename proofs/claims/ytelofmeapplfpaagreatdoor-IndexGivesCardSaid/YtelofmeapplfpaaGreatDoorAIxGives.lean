/-
The law IndexGives.
-/
import Derived.Test.YtelofmeapplfpaaGreatDoorAIxSat
import Derived.Test.YtelofmeapplfpaaGreatDoorAIxYSat
import Derived.Test.YtelofmeapplfpaaGreatDoorAIxLit
import Derived.Test.YtelofmeapplfpaaGreatDoorARelArgs
import Derived.Test.YtelofmeapplfpaaGreatDoorARecYMay
import Derived.Test.YtelofmeapplfpaaGreatDoorARelJoin
import Derived.Test.YtelofmeapplfpaaGreatDoorARecMay3
import Derived.OrdersHeld
import Derived.Deep.MidRow
namespace Go.Proofs.YtelofmeapplfpaaGreatDoor
open Go.RowKit
set_option linter.unusedSimpArgs false
set_option linter.unusedVariables false
namespace Ix
open Ver (Bs S S_li S_size cmpV holdsV)
open Rl (At Pv Vars aV may nmB isV)
open Rc (Pk nPk Pks PkV PkC Has mayK)
def gives (p:Pk) (n v:Bs):Pk:={ p with prv:=[(n,v)] }
def plain (n v:Bs):Pk:=⟨n,v,[],[],[],[],[],[],false⟩
theorem may_rel {n y:Bs} (hq:MayP (plain n y)) {r:Int} (h1:1 ≤ r) (h5:r ≤ 5):may (n,r,y) = true:=by
 have h:=hq.nm
 have hv:=hq.ver
 simp only [plain] at h hv
 simp [may,h,hv,h1,h5,show r ≠ 0 by omega]
theorem gives_none {p:Pk} {n v y:Bs} (hq:MayP (plain n y)):sat (gives p n v) (n,0,[]) = true:=by
 have h:=hq.nm
 simp only [plain] at h
 have hm:may (n,0,[]) = true:=by simp [may,h]
 unfold sat gives
 rw [hm]
 simp [pmeets]
theorem gives_rel {p:Pk} {n v y:Bs} (hp:p.nm ≠ n) (hq:MayP (plain n y)) {r:Int} (h1:1 ≤ r) (h5:r ≤ 5):sat (gives p n v) (n,r,y) = holdsV r v y:=by
 unfold sat gives
 rw [may_rel hq h1 h5]
 simp [hp,pmeets,show r ≠ 0 by omega]
theorem plain_rel {n v y:Bs} (hq:MayP (plain n y)) {r:Int} (h1:1 ≤ r) (h5:r ≤ 5):sat (plain n v) (n,r,y) = holdsV r v y:=by
 unfold sat plain
 rw [may_rel hq h1 h5]
 simp
theorem rel_wrap (r:Int):∃ R,wrap64 (wrap64 ((IntKind.u64.wrap r).tmod 5) + 1) = R ∧ 1 ≤ R ∧ R ≤ 5:=by
 refine ⟨_,rfl,?_⟩
 have h0:0 ≤ IntKind.u64.wrap r:=by
  simp [IntKind.wrap,IntKind.signed,IntKind.bits]
  omega
 have h1:(IntKind.u64.wrap r).tmod 5 = (IntKind.u64.wrap r) % 5:=Int.tmod_eq_emod_of_nonneg h0
 rw [h1]
 unfold wrap64
 omega
theorem pvs_one {w:World} {g:Nat} {n v:Bs} (h:Blk.Is w g 63 #[.string (S n),.string (S v)]):Rl.Pvs w (.slice (some ⟨g,0,none⟩) 1 1) [(n,v)] :=
 ⟨by simp,some ⟨g,0,none⟩,1,rfl,by simp,fun _=>⟨g,0,rfl,fun i hi=>by
  have:i = 0:=by have:i < 1:=hi; omega
  subst this
  exact ⟨h.at (i:=0) rfl,h.at (i:=1) rfl⟩⟩⟩
set_option maxRecDepth 100000 in
set_option maxHeartbeats 16000000 in
theorem gives_walk (v1:Value) (p:Pk) (n v y:Bs) (rel:Int) (w:World) (h1:PkV w v1 p) (l1:p.Lim) (hn:n.length ≤ 140737488351232) (hvl:v.length ≤ 140737488351232) (hy:y.length ≤ 140737488351232) (hv:Vars w) :
  Calls Tryz.prog 9 #[v1,.string (S n),.string (S v),.string (S y),.int .i64 rel] w fun e w'=>e = .returned (.bool true) ∧ Below w.heap.size w w':=by
 obtain ⟨u1,u2,u3,u4,u5,u6,rfl,hp⟩:=h1
 obtain ⟨x1,cx1,ex1⟩:=hp.pre.shape
 generalize nx1h:p.pre.length = nx1 at ex1
 clear nx1h
 obtain ⟨x2,cx2,ex2⟩:=hp.dep.shape
 generalize nx2h:p.dep.length = nx2 at ex2
 clear nx2h
 obtain ⟨x3,cx3,ex3⟩:=hp.rcm.shape
 generalize nx3h:p.rcm.length = nx3 at ex3
 clear nx3h
 obtain ⟨x4,cx4,ex4⟩:=hp.con.shape
 generalize nx4h:p.con.length = nx4 at ex4
 clear nx4h
 obtain ⟨x5,cx5,ex5⟩:=hp.brk.shape
 generalize nx5h:p.brk.length = nx5 at ex5
 clear nx5h
 obtain ⟨x6,cx6,ex6⟩:=hp.prv.shape
 generalize nx6h:p.prv.length = nx6 at ex6
 clear nx6h
 subst ex1 ex2 ex3 ex4 ex5 ex6
 have hb1:=(Below.refl w.heap.size w).alloc (Nat.le_refl _) (.cells #[.string (S p.nm),.string (S p.vs),.slice x1 nx1 cx1,.slice x2 nx2 cx2,.slice x3 nx3 cx3,.slice x4 nx4 cx4,.slice x5 nx5 cx5,.slice x6 nx6 cx6,.bool p.ess] 26)
 have i1:=Blk.Is.new w 26 #[.string (S p.nm),.string (S p.vs),.slice x1 nx1 cx1,.slice x2 nx2 cx2,.slice x3 nx3 cx3,.slice x4 nx4 cx4,.slice x5 nx5 cx5,.slice x6 nx6 cx6,.bool p.ess]
 obtain ⟨W,hW⟩:∃ W,w.alloc (.cells #[.string (S p.nm),.string (S p.vs),.slice x1 nx1 cx1,.slice x2 nx2 cx2,.slice x3 nx3 cx3,.slice x4 nx4 cx4,.slice x5 nx5 cx5,.slice x6 nx6 cx6,.bool p.ess] 26) = W:=⟨_,rfl⟩
 rw [hW] at hb1 i1
 have s1:W.heap.size = w.heap.size + 1:=by rw [← hW]; simp
 have HP0:=Lib.hid hp
 have HP:=Lib.hid (hp.below hb1)
 have HB:=Lib.hid hb1
 have IP:=Lib.hid i1
 have LP:=Lib.hid l1
 have LN:=Lib.hid hn
 have LV:=Lib.hid hvl
 have LY:=Lib.hid hy
 have GV:=Lib.hid (hv.on hb1)
 have HV0:=Lib.hid hv
 have HS1:=Lib.hid s1
 obtain ⟨hbl,hpk⟩:=pks_one W p (.slice x1 nx1 cx1) (.slice x2 nx2 cx2) (.slice x3 nx3 cx3) (.slice x4 nx4 cx4) (.slice x5 nx5 cx5) (.slice x6 nx6 cx6) HP.out
 obtain ⟨V,hV⟩:∃ V,W.alloc (.cells #[.string (S p.nm),.string (S p.vs),.slice x1 nx1 cx1,.slice x2 nx2 cx2,.slice x3 nx3 cx3,.slice x4 nx4 cx4,.slice x5 nx5 cx5,.slice x6 nx6 cx6,.bool p.ess] 26) = V:=⟨_,rfl⟩
 rw [hV] at hbl hpk
 obtain ⟨b1,hb1'⟩:∃ b1,Rc.lightB [p] = b1:=⟨_,rfl⟩
 have cl:=Rc.light_any _ [p] V hpk
 rw [hb1'] at cl
 have HBV:=Lib.hid hbl
 have c0:=IP.out.at (i:=0) rfl
 have c1:=IP.out.at (i:=1) rfl
 have c2:=IP.out.at (i:=2) rfl
 have c3:=IP.out.at (i:=3) rfl
 have c4:=IP.out.at (i:=4) rfl
 have c5:=IP.out.at (i:=5) rfl
 have c6:=IP.out.at (i:=6) rfl
 have c7:=IP.out.at (i:=7) rfl
 have c8:=IP.out.at (i:=8) rfl
 clear hp hb1 i1 s1 hv l1 hn hvl hy hb1' hbl hpk
 cases b1 with
 | false =>
  go_enter Tryz.func9,Tryz.ntmps9
  go_wp2_with fail
  clear hV hW c0 c1 c2 c3 c4 c5 c6 c7 c8
  refine cl.mono ?_
  rintro e w1 ⟨rfl,k1⟩
  have B1:=Lib.hid (HB.out.trans ((HBV.out.trans (k1.mono HBV.out.size)).mono HB.out.size))
  have W1W:=Lib.hid (HBV.out.trans (k1.mono HBV.out.size))
  clear cl k1
  have ca:=awake_any w1 (HV0.out.on B1.out)
  go_wp2_with fail
  refine ca.mono ?_
  rintro e w9 ⟨rfl,k9⟩
  have hb:=B1.out.trans (k9.mono B1.out.size)
  go_wp2_with fail
  go_ret
  exact ⟨rfl,hb⟩
 | true =>
  go_enter Tryz.func9,Tryz.ntmps9
  go_wp2_with fail
  clear hV hW c0 c1 c2 c3 c4 c5 c6 c7 c8
  refine cl.mono ?_
  rintro e w1 ⟨rfl,k1⟩
  have B1:=Lib.hid (HB.out.trans ((HBV.out.trans (k1.mono HBV.out.size)).mono HB.out.size))
  have W1W:=Lib.hid (HBV.out.trans (k1.mono HBV.out.size))
  clear cl k1
  -- what it provides
  have hba:=(Below.refl w1.heap.size w1).alloc (Nat.le_refl _) (.cells #[.string (S n),.string (S v)] 63)
  have ia:=Blk.Is.new w1 63 #[.string (S n),.string (S v)]
  obtain ⟨wa,hwa⟩:∃ wa,w1.alloc (.cells #[.string (S n),.string (S v)] 63) = wa:=⟨_,rfl⟩
  rw [hwa] at hba ia
  obtain ⟨g1,hg1⟩:∃ g1,w1.heap.size = g1:=⟨_,rfl⟩
  have hbg:w.heap.size < g1:=by have:=W1W.out.size; have:=HS1.out; omega
  rw [hg1] at ia
  have j3:=Rl.is_on (Rl.is_on IP.out W1W.out) hba
  have y7:=j3.at (i:=7) rfl
  have f7:=j3.free 7
  have hbA:=B1.out.trans (hba.mono B1.out.size)
  have j4:=j3.set 7 (.slice (some ⟨g1,0,none⟩) 1 1)
  have hc4:Blk.Chg (fun k=>k = w.heap.size) wa (wa.setCell ⟨w.heap.size,7,none⟩ (.slice (some ⟨g1,0,none⟩) 1 1)):=(Blk.Chg.refl (fun k=>k = w.heap.size) wa).setAt rfl
  have t4:=hc4.is ia (by omega)
  have b4:=hbA.trans (hc4.below (B:=w.heap.size) (fun k hk=>by omega) hbA.size)
  obtain ⟨w2,hw2⟩:∃ w2,wa.setCell ⟨w.heap.size,7,none⟩ (.slice (some ⟨g1,0,none⟩) 1 1) = w2:=⟨_,rfl⟩
  rw [hw2] at j4 t4 b4
  have J4:Hid (Blk.Is w2 w.heap.size 26 #[.string (S p.nm),.string (S p.vs),.slice x1 nx1 cx1,.slice x2 nx2 cx2,.slice x3 nx3 cx3,.slice x4 nx4 cx4,.slice x5 nx5 cx5,.slice (some ⟨g1,0,none⟩) 1 1,.bool p.ess]):=j4
  have B2:=Lib.hid b4
  have H4:Hid (Has w2 (gives p n v) (.slice x1 nx1 cx1) (.slice x2 nx2 cx2) (.slice x3 nx3 cx3) (.slice x4 nx4 cx4) (.slice x5 nx5 cx5) (.slice (some ⟨g1,0,none⟩) 1 1)):=by
   have h:=HP0.out.below b4
   exact ⟨h.pre,h.dep,h.rcm,h.con,h.brk,pvs_one t4⟩
  have LG:Hid (gives p n v).Lim:=⟨LP.out.nm,LP.out.vs,LP.out.pre,LP.out.dep,LP.out.rcm,LP.out.con,LP.out.brk,fun x hx=>by
   have:x = (n,v):=by simpa [gives] using hx
   subst this
   exact ⟨LN.out,LV.out⟩⟩
  have cy:=Rc.ymay_any (.agg #[.string (S p.nm),.string (S p.vs),.slice x1 nx1 cx1,.slice x2 nx2 cx2,.slice x3 nx3 cx3,.slice x4 nx4 cx4,.slice x5 nx5 cx5,.slice (some ⟨g1,0,none⟩) 1 1,.bool p.ess]) (gives p n v) w2 ⟨_,_,_,_,_,_,rfl,H4.out⟩ LG.out
  have c0:=J4.out.at (i:=0) rfl
  have c1:=J4.out.at (i:=1) rfl
  have c2:=J4.out.at (i:=2) rfl
  have c3:=J4.out.at (i:=3) rfl
  have c4:=J4.out.at (i:=4) rfl
  have c5:=J4.out.at (i:=5) rfl
  have c6:=J4.out.at (i:=6) rfl
  have c7:=J4.out.at (i:=7) rfl
  have c8:=J4.out.at (i:=8) rfl
  have hu:=hw2
  have hu0:=hwa
  clear hba ia hbA j3 j4 hc4 t4 b4 hw2 hwa
  subst hg1
  by_cases hm:mayK (gives p n v) = 0
  ·have HMP:Hid (MayP (gives p n v)):=mayK_of hm
   rw [hm] at cy
   clear hm
   have hqn:((S p.nm).toList == (S n).toList) = decide (p.nm = n):=Rl.S_beq _ _
   go_wp2_with fail
   clear hu hu0 y7 f7 c0 c1 c2 c3 c4 c5 c6 c7 c8
   refine cy.mono ?_
   rintro e w3 ⟨rfl,k3⟩
   have B3:=Lib.hid (B2.out.trans (k3.mono B2.out.size))
   have J5:=Lib.hid (Rl.is_on J4.out k3)
   have H5:=Lib.hid (H4.out.below k3)
   have c0:=J5.out.at (i:=0) rfl
   clear cy k3 B2 J4 H4 B1 W1W
   cases hN:decide (p.nm = n) with
   | true =>
    rw [hN] at hqn
    have ca:=awake_any w3 (HV0.out.on B3.out)
    go_wp2_with fail
    refine ca.mono ?_
    rintro e w9 ⟨rfl,k9⟩
    have hb:=B3.out.trans (k9.mono B3.out.size)
    go_wp2_with fail
    go_ret
    exact ⟨rfl,hb⟩
   | false =>
    rw [hN] at hqn
    have HNE:Hid (p.nm ≠ n):=of_decide_eq_false hN
    clear hN
    have hi9:(Tryz.prog.info? 26).map (·.size) = some 9:=by kernel_rfl
    have hbz:=(Below.refl w3.heap.size w3).alloc (Nat.le_refl _) (.cells #[.string ⟨#[]⟩,.string ⟨#[]⟩,.slice none 0 0,.slice none 0 0,.slice none 0 0,.slice none 0 0,.slice none 0 0,.slice none 0 0,.bool false] 26)
    have iz:=Blk.Is.new w3 26 #[.string ⟨#[]⟩,.string ⟨#[]⟩,.slice none 0 0,.slice none 0 0,.slice none 0 0,.slice none 0 0,.slice none 0 0,.slice none 0 0,.bool false]
    have IZ:=Lib.hid iz
    have jz:=iz.row #[.string (S n),.string (S y),.slice none 0 0,.slice none 0 0,.slice none 0 0,.slice none 0 0,.slice none 0 0,.slice none 0 0,.bool false]
    have bz:Below w3.heap.size w3 ((w3.alloc (.cells #[.string ⟨#[]⟩,.string ⟨#[]⟩,.slice none 0 0,.slice none 0 0,.slice none 0 0,.slice none 0 0,.slice none 0 0,.slice none 0 0,.bool false] 26)).setRow w3.heap.size #[.string (S n),.string (S y),.slice none 0 0,.slice none 0 0,.slice none 0 0,.slice none 0 0,.slice none 0 0,.slice none 0 0,.bool false]):=hbz.trans ⟨rfl,rfl,rfl,by simp,fun k hk=>setRow_other _ w3.heap.size k _ (by omega)⟩
    have sz:=jz.lt
    have HJZ:=Lib.hid jz
    have HBZ:=Lib.hid bz
    have HSZ:=Lib.hid sz
    have LQ:∀ x:Bs,x.length ≤ 140737488351232 → (plain n x).Lim:=fun x hx=>⟨LN.out,hx,(fun x hx=>by cases hx),(fun x hx=>by cases hx),(fun x hx=>by cases hx),(fun x hx=>by cases hx),(fun x hx=>by cases hx),(fun x hx=>by cases hx)⟩
    have HLQ:=Lib.hid LQ
    have HQH:Hid (∀ (W:World) (x:Bs),Has W (plain n x) (.slice none 0 0) (.slice none 0 0) (.slice none 0 0) (.slice none 0 0) (.slice none 0 0) (.slice none 0 0)):=Lib.hid fun W x=>⟨slc_nil _ _ _ _,slc_nil _ _ _ _,slc_nil _ _ _ _,slc_nil _ _ _ _,slc_nil _ _ _ _,slc_nil _ _ _ _⟩
    obtain ⟨R,hR,hR1,hR5⟩:=rel_wrap rel
    have HR:=Lib.hid hR
    clear hbz iz jz bz LQ sz hR
    go_wp2_with (refine wpList_store_row rfl 26 (.tmp 11) (.tmp 40) rfl w3.heap.size #[.string (S n),.string (S y),.slice none 0 0,.slice none 0 0,.slice none 0 0,.slice none 0 0,.slice none 0 0,.slice none 0 0,.bool false] rfl rfl 26 #[.string ⟨#[]⟩,.string ⟨#[]⟩,.slice none 0 0,.slice none 0 0,.slice none 0 0,.slice none 0 0,.slice none 0 0,.slice none 0 0,.bool false] IZ.out hi9 (by rfl) (by simp [Value.oneCell']) ?_; simp only [HR.out]; generalize (w3.alloc (.cells #[.string ⟨#[]⟩,.string ⟨#[]⟩,.slice none 0 0,.slice none 0 0,.slice none 0 0,.slice none 0 0,.slice none 0 0,.slice none 0 0,.bool false] 26)).setRow w3.heap.size #[.string (S n),.string (S y),.slice none 0 0,.slice none 0 0,.slice none 0 0,.slice none 0 0,.slice none 0 0,.slice none 0 0,.bool false] = wq at *; have q0:=HJZ.out.at (i:=0) rfl; have q1:=HJZ.out.at (i:=1) rfl; have q2:=HJZ.out.at (i:=2) rfl; have q3:=HJZ.out.at (i:=3) rfl; have q4:=HJZ.out.at (i:=4) rfl; have q5:=HJZ.out.at (i:=5) rfl; have q6:=HJZ.out.at (i:=6) rfl; have q7:=HJZ.out.at (i:=7) rfl; have q8:=HJZ.out.at (i:=8) rfl; clear c0 HR IZ)
    have cy:=Rc.ymay_any (.agg #[.string (S n),.string (S y),.slice none 0 0,.slice none 0 0,.slice none 0 0,.slice none 0 0,.slice none 0 0,.slice none 0 0,.bool false]) (plain n y) wq ⟨_,_,_,_,_,_,rfl,HQH.out wq y⟩ (HLQ.out y LY.out)
    clear q0 q1 q2 q3 q4 q5 q6 q7 q8
    by_cases hm2:mayK (plain n y) = 0
    ·rw [hm2] at cy
     have HMQ:Hid (MayP (plain n y)):=mayK_of hm2
     clear hm2
     refine cy.mono ?_
     rintro e w5 ⟨rfl,k5⟩
     obtain ⟨g2,hg2⟩:∃ g2,w3.heap.size = g2:=⟨_,rfl⟩
     have B35:=HBZ.out.trans (k5.mono HBZ.out.size)
     have JQ5:=Rl.is_on HJZ.out k5
     have g25:g2 < w5.heap.size:=by have:=HSZ.out; have:=k5.size; omega
     rw [hg2] at B35 JQ5
     have hba:=(Below.refl w5.heap.size w5).alloc (Nat.le_refl _) (.cells #[.string (S n),.int .i64 R,.string (S y)] 28)
     have ia:=Blk.Is.new w5 28 #[.string (S n),.int .i64 R,.string (S y)]
     obtain ⟨g3,hg3⟩:∃ g3,w5.heap.size = g3:=⟨_,rfl⟩
     rw [hg3] at ia
     obtain ⟨w6,hw6⟩:∃ w6,w5.alloc (.cells #[.string (S n),.int .i64 R,.string (S y)] 28) = w6:=⟨_,rfl⟩
     rw [hw6] at hba ia
     have JQ6:=Rl.is_on JQ5 hba
     have y1:=JQ6.at (i:=1) rfl
     have f1:=JQ6.free 1
     have j7:=JQ6.set 1 (.string (S v))
     have hc7:Blk.Chg (fun k=>k = g2) w6 (w6.setCell ⟨g2,1,none⟩ (.string (S v))):=(Blk.Chg.refl (fun k=>k = g2) w6).setAt rfl
     have ia7:=hc7.is ia (by omega)
     have B36:=B35.trans (hba.mono (by omega))
     have B37:=B36.trans (hc7.below (B:=g2) (fun k hk=>by omega) (by have:=hba.size; omega))
     obtain ⟨w7,hw7⟩:∃ w7,w6.setCell ⟨g2,1,none⟩ (.string (S v)) = w7:=⟨_,rfl⟩
     rw [hw7] at j7 ia7 B37
     have KQ7:Hid (Blk.Is w7 g2 26 #[.string (S n),.string (S v),.slice none 0 0,.slice none 0 0,.slice none 0 0,.slice none 0 0,.slice none 0 0,.slice none 0 0,.bool false]):=j7
     have KA7:=Lib.hid ia7
     have KP7:=Lib.hid (Rl.is_on J5.out (by rw [hg2]; exact B37))
     have H7:=Lib.hid (H5.out.below (by rw [hg2]; exact B37))
     have B7:=Lib.hid (B3.out.trans (B37.mono (by have:=B3.out.size; omega)))
     have hu6:=hw6
     have hu7:=hw7
     have GE:=Lib.hid hg2
     clear cy k5 B35 JQ5 hba ia JQ6 j7 hc7 ia7 B36 B37 hw6 hw7 hg2 J5 H5 B3 HJZ HBZ HSZ
     subst hg3
     have hge:=GE.out
     clear GE
     subst hge
     have LNN:Hid (LimAt (n,0,[])):=Lib.hid ⟨LN.out,by show 0 ≤ _; omega⟩
     have LNR:Hid (LimAt (n,R,y)):=Lib.hid ⟨LN.out,LY.out⟩
     have PP:Hid (∀ u,Below w7.heap.size w7 u → PkV u (.agg #[.string (S p.nm),.string (S p.vs),.slice x1 nx1 cx1,.slice x2 nx2 cx2,.slice x3 nx3 cx3,.slice x4 nx4 cx4,.slice x5 nx5 cx5,.slice (some ⟨w1.heap.size,0,none⟩) 1 1,.bool p.ess]) (gives p n v)):=Lib.hid fun u hu=>⟨_,_,_,_,_,_,rfl,H7.out.below hu⟩
     have V7:=Lib.hid (HV0.out.on B7.out)
     have es:S [] = ⟨#[]⟩:=rfl
     have cs1:∀ u,Below w7.heap.size w7 u → Calls Tryz.prog 11 #[.agg #[.string (S p.nm),.string (S p.vs),.slice x1 nx1 cx1,.slice x2 nx2 cx2,.slice x3 nx3 cx3,.slice x4 nx4 cx4,.slice x5 nx5 cx5,.slice (some ⟨w1.heap.size,0,none⟩) 1 1,.bool p.ess],.agg #[.string (S n),.int .i64 0,.string ⟨#[]⟩]] u fun e w'=>e = .returned (.bool true) ∧ Below u.heap.size u w':=fun u hu=>by
      have h:=satisfies_any _ (gives p n v) (n,0,[]) u (PP.out u hu) LG.out LNN.out (V7.out.on hu)
      rw [gives_none HMQ.out] at h
      unfold aV at h
      simp only [es] at h
      exact h
     have cs2:∀ u,Below w7.heap.size w7 u → Calls Tryz.prog 11 #[.agg #[.string (S p.nm),.string (S p.vs),.slice x1 nx1 cx1,.slice x2 nx2 cx2,.slice x3 nx3 cx3,.slice x4 nx4 cx4,.slice x5 nx5 cx5,.slice (some ⟨w1.heap.size,0,none⟩) 1 1,.bool p.ess],.agg #[.string (S n),.int .i64 R,.string (S y)]] u fun e w'=>e = .returned (.bool (holdsV R v y)) ∧ Below u.heap.size u w':=fun u hu=>by
      have h:=satisfies_any _ (gives p n v) (n,R,y) u (PP.out u hu) LG.out LNR.out (V7.out.on hu)
      rw [gives_rel HNE.out HMQ.out hR1 hR5] at h
      exact h
     have cs3:∀ u,Below w7.heap.size w7 u → Calls Tryz.prog 11 #[.agg #[.string (S n),.string (S v),.slice none 0 0,.slice none 0 0,.slice none 0 0,.slice none 0 0,.slice none 0 0,.slice none 0 0,.bool false],.agg #[.string (S n),.int .i64 R,.string (S y)]] u fun e w'=>e = .returned (.bool (holdsV R v y)) ∧ Below u.heap.size u w':=fun u hu=>by
      have h:=satisfies_any (.agg #[.string (S n),.string (S v),.slice none 0 0,.slice none 0 0,.slice none 0 0,.slice none 0 0,.slice none 0 0,.slice none 0 0,.bool false]) (plain n v) (n,R,y) u ⟨_,_,_,_,_,_,rfl,HQH.out u v⟩ (HLQ.out v LV.out) LNR.out (V7.out.on hu)
      rw [plain_rel HMQ.out hR1 hR5] at h
      exact h
     have C1:=Lib.hid cs1
     have C2:=Lib.hid cs2
     have C3:=Lib.hid cs3
     clear cs1 cs2 cs3 es
     have c0:=KP7.out.at (i:=0) rfl
     have c1:=KP7.out.at (i:=1) rfl
     have c2:=KP7.out.at (i:=2) rfl
     have c3:=KP7.out.at (i:=3) rfl
     have c4:=KP7.out.at (i:=4) rfl
     have c5:=KP7.out.at (i:=5) rfl
     have c6:=KP7.out.at (i:=6) rfl
     have c7:=KP7.out.at (i:=7) rfl
     have c8:=KP7.out.at (i:=8) rfl
     have a0:=KA7.out.at (i:=0) rfl
     have a1:=KA7.out.at (i:=1) rfl
     have a2:=KA7.out.at (i:=2) rfl
     by_cases hv0:v = []
     ·have hsn:(S v).toList = []:=by rw [hv0]; exact s_nil
      have HZ:Hid (holdsV R v y = false):=by rw [hv0]; exact holds_empty _ _
      have cs:=C1.out w7 (Below.refl _ _)
      clear hv0
      go_wp2_with fail
      clear hu6 hu7 y1 f1
      refine cs.mono ?_
      rintro e w8 ⟨rfl,k8⟩
      replace c0:=Rl.cell_on c0 k8
      replace c1:=Rl.cell_on c1 k8
      replace c2:=Rl.cell_on c2 k8
      replace c3:=Rl.cell_on c3 k8
      replace c4:=Rl.cell_on c4 k8
      replace c5:=Rl.cell_on c5 k8
      replace c6:=Rl.cell_on c6 k8
      replace c7:=Rl.cell_on c7 k8
      replace c8:=Rl.cell_on c8 k8
      replace a0:=Rl.cell_on a0 k8
      replace a1:=Rl.cell_on a1 k8
      replace a2:=Rl.cell_on a2 k8
      have K8:=Lib.hid k8
      have cs:=C2.out w8 k8
      rw [HZ.out] at cs
      clear k8
      go_wp2_with fail
      clear c0 c1 c2 c3 c4 c5 c6 c7 c8 a0 a1 a2
      refine cs.mono ?_
      rintro e w10 ⟨rfl,k10⟩
      have B10:=Lib.hid (B7.out.trans ((K8.out.trans (k10.mono K8.out.size)).mono B7.out.size))
      clear cs k10 K8
      have ca:=awake_any w10 (HV0.out.on B10.out)
      go_wp2_with fail
      refine ca.mono ?_
      rintro e w9 ⟨rfl,k9⟩
      have hb:=B10.out.trans (k9.mono B10.out.size)
      go_wp2_with fail
      go_ret
      exact ⟨rfl,hb⟩
     ·have hsn:¬ (S v).toList = []:=s_not hv0
      have hsm:(S v).toList.isEmpty = false:=by rw [List.isEmpty_eq_false_iff]; exact hsn
      obtain ⟨H,hH⟩:∃ H,holdsV R v y = H:=⟨_,rfl⟩
      have HH:=Lib.hid hH
      have hhh:(H == H) = true:=by simp
      have z9:(Tryz.prog.info? 26).map (·.size) = some 9:=by kernel_rfl
      have z3:(Tryz.prog.info? 28).map (·.size) = some 3:=by kernel_rfl
      have Z9:=Lib.hid z9
      have Z3:=Lib.hid z3
      have KP:Hid (∀ u,Below w7.heap.size w7 u → u.rangeAt w.heap.size 0 [.string (S p.nm),.string (S p.vs),.slice x1 nx1 cx1,.slice x2 nx2 cx2,.slice x3 nx3 cx3,.slice x4 nx4 cx4,.slice x5 nx5 cx5,.slice (some ⟨w1.heap.size,0,none⟩) 1 1,.bool p.ess]):=Lib.hid fun u hu=>range_of (Rl.is_on KP7.out hu)
      have KQ:Hid (∀ u,Below w7.heap.size w7 u → u.rangeAt w3.heap.size 0 [.string (S n),.string (S v),.slice none 0 0,.slice none 0 0,.slice none 0 0,.slice none 0 0,.slice none 0 0,.slice none 0 0,.bool false]):=Lib.hid fun u hu=>range_of (Rl.is_on KQ7.out hu)
      have KA:Hid (∀ u,Below w7.heap.size w7 u → u.rangeAt w5.heap.size 0 [.string (S n),.int .i64 R,.string (S y)]):=Lib.hid fun u hu=>range_of (Rl.is_on KA7.out hu)
      clear hv0 hH z9 z3 c0 c1 c2 c3 c4 c5 c6 c7 c8 a0 a1 a2
      go_upto_region 14 with fail
      clear hu6 hu7 y1 f1
      refine wp_region_held (S:=fun u=>Below w7.heap.size w7 u) (by kernel_rfl) ?_
      have hS0:Below w7.heap.size w7 w7.drew:=(Below.refl _ _).drew
      change wpAnyH _ _ _ _ _ 17 _ _ w7.drew
      generalize w7.drew = u0 at *
      refine wpAnyH_take (i:=0) (v:=.agg [.string (S p.nm),.string (S p.vs),.slice x1 nx1 cx1,.slice x2 nx2 cx2,.slice x3 nx3 cx3,.slice x4 nx4 cx4,.slice x5 nx5 cx5,.slice (some ⟨w1.heap.size,0,none⟩) 1 1,.bool p.ess].toArray) rfl (by kernel_rfl) (by kernel_rfl) (by kernel_rfl) (fun _ _ _ h=>h) (yieldsIf_load_mid rfl 26 (.tmp 5) rfl w.heap.size 0 rfl _ _ KP.out Tryz.underlying26 rfl Z9.out) hS0 ?_
      simp only [Act.put,List.getElem_toArray,List.getElem_cons_zero,List.getElem_cons_succ,List.setIfInBounds_toArray,List.set_cons_zero,List.set_cons_succ]
      refine wpAnyH_take (i:=1) (v:=.string (S n)) rfl (by kernel_rfl) (by kernel_rfl) (by kernel_rfl) (fun _ _ _ h=>h) (.inl ⟨rfl,fun w _=>rfl⟩) hS0 ?_
      simp only [Act.put,List.getElem_toArray,List.getElem_cons_zero,List.getElem_cons_succ,List.setIfInBounds_toArray,List.set_cons_zero,List.set_cons_succ]
      refine wpAnyH_all (rs:=[2]) (by kernel_rfl) (by simp) ?_
      intro i hi
      obtain rfl:=List.mem_singleton.1 hi
      refine Reg.wpOp_list rfl ?_
      go_wp2_with fail
      change _ ∧ _
      refine ⟨hS0,?_⟩
      have cx:=C1.out u0 hS0
      refine wpAnyH_all (rs:=[3]) (by kernel_rfl) (by simp) ?_
      intro i hi
      obtain rfl:=List.mem_singleton.1 hi
      refine Reg.wpOp_list rfl ?_
      go_wp2_with fail
      refine cx.mono ?_
      rintro e u1 ⟨rfl,k1⟩
      go_wp2_with fail
      change _ ∧ _
      have hS1:Below w7.heap.size w7 u1:=hS0.trans (k1.mono hS0.size)
      refine ⟨hS1,?_⟩
      clear cx
      refine wpAnyH_all (rs:=[4]) (by kernel_rfl) (by simp) ?_
      intro i hi
      obtain rfl:=List.mem_singleton.1 hi
      refine Reg.wpOp_list rfl ?_
      go_wp2_with fail
      change _ ∧ _
      refine ⟨hS1,?_⟩
      refine wpAnyH_take (i:=5) (v:=.agg [.string (S p.nm),.string (S p.vs),.slice x1 nx1 cx1,.slice x2 nx2 cx2,.slice x3 nx3 cx3,.slice x4 nx4 cx4,.slice x5 nx5 cx5,.slice (some ⟨w1.heap.size,0,none⟩) 1 1,.bool p.ess].toArray) rfl (by kernel_rfl) (by kernel_rfl) (by kernel_rfl) (fun _ _ _ h=>h) (yieldsIf_load_mid rfl 26 (.tmp 5) rfl w.heap.size 0 rfl _ _ KP.out Tryz.underlying26 rfl Z9.out) hS1 ?_
      simp only [Act.put,List.getElem_toArray,List.getElem_cons_zero,List.getElem_cons_succ,List.setIfInBounds_toArray,List.set_cons_zero,List.set_cons_succ]
      refine wpAnyH_take (i:=6) (v:=.agg [.string (S n),.int .i64 R,.string (S y)].toArray) rfl (by kernel_rfl) (by kernel_rfl) (by kernel_rfl) (fun _ _ _ h=>h) (yieldsIf_load_mid rfl 28 (.tmp 12) rfl w5.heap.size 0 rfl _ _ KA.out Tryz.underlying28 rfl Z3.out) hS1 ?_
      simp only [Act.put,List.getElem_toArray,List.getElem_cons_zero,List.getElem_cons_succ,List.setIfInBounds_toArray,List.set_cons_zero,List.set_cons_succ]
      refine wpAnyH_take (i:=8) (v:=.agg [.string (S n),.string (S v),.slice none 0 0,.slice none 0 0,.slice none 0 0,.slice none 0 0,.slice none 0 0,.slice none 0 0,.bool false].toArray) rfl (by kernel_rfl) (by kernel_rfl) (by kernel_rfl) (fun _ _ _ h=>h) (yieldsIf_load_mid rfl 26 (.tmp 11) rfl w3.heap.size 0 rfl _ _ KQ.out Tryz.underlying26 rfl Z9.out) hS1 ?_
      simp only [Act.put,List.getElem_toArray,List.getElem_cons_zero,List.getElem_cons_succ,List.setIfInBounds_toArray,List.set_cons_zero,List.set_cons_succ]
      refine wpAnyH_take (i:=9) (v:=.agg [.string (S n),.int .i64 R,.string (S y)].toArray) rfl (by kernel_rfl) (by kernel_rfl) (by kernel_rfl) (fun _ _ _ h=>h) (yieldsIf_load_mid rfl 28 (.tmp 12) rfl w5.heap.size 0 rfl _ _ KA.out Tryz.underlying28 rfl Z3.out) hS1 ?_
      simp only [Act.put,List.getElem_toArray,List.getElem_cons_zero,List.getElem_cons_succ,List.setIfInBounds_toArray,List.set_cons_zero,List.set_cons_succ]
      have cx:=C2.out u1 hS1
      rw [HH.out] at cx
      refine wpAnyH_all (rs:=[7]) (by kernel_rfl) (by simp) ?_
      intro i hi
      obtain rfl:=List.mem_singleton.1 hi
      refine Reg.wpOp_list rfl ?_
      go_wp2_with fail
      refine cx.mono ?_
      rintro e u2 ⟨rfl,k2⟩
      go_wp2_with fail
      change _ ∧ _
      have hS2:Below w7.heap.size w7 u2:=hS1.trans (k2.mono hS1.size)
      refine ⟨hS2,?_⟩
      clear cx
      have cx:=C3.out u2 hS2
      rw [HH.out] at cx
      refine wpAnyH_all (rs:=[10]) (by kernel_rfl) (by simp) ?_
      intro i hi
      obtain rfl:=List.mem_singleton.1 hi
      refine Reg.wpOp_list rfl ?_
      go_wp2_with fail
      refine cx.mono ?_
      rintro e u3 ⟨rfl,k3⟩
      go_wp2_with fail
      change _ ∧ _
      have hS3:Below w7.heap.size w7 u3:=hS2.trans (k3.mono hS2.size)
      refine ⟨hS3,?_⟩
      clear cx
      refine wpAnyH_all (rs:=[11]) (by kernel_rfl) (by simp) ?_
      intro i hi
      obtain rfl:=List.mem_singleton.1 hi
      refine Reg.wpOp_list rfl ?_
      go_wp2_with fail
      change _ ∧ _
      refine ⟨hS3,?_⟩
      refine wpAnyH_all (rs:=[12]) (by kernel_rfl) (by simp) ?_
      intro i hi
      obtain rfl:=List.mem_singleton.1 hi
      refine Reg.wpOp_list rfl ?_
      go_wp2_with fail
      change _ ∧ _
      refine ⟨hS3,?_⟩
      refine wpAnyH_all (rs:=[13]) (by kernel_rfl) (by simp) ?_
      intro i hi
      obtain rfl:=List.mem_singleton.1 hi
      refine Reg.wpOp_list rfl ?_
      go_wp2_with fail
      change _ ∧ _
      refine ⟨hS3,?_⟩
      have cx:=awake_any u3 (V7.out.on hS3)
      refine wpAnyH_all (rs:=[14]) (by kernel_rfl) (by simp) ?_
      intro i hi
      obtain rfl:=List.mem_singleton.1 hi
      refine Reg.wpOp_list rfl ?_
      go_wp2_with fail
      refine cx.mono ?_
      rintro e u4 ⟨rfl,k4⟩
      go_wp2_with fail
      change _ ∧ _
      have hS4:Below w7.heap.size w7 u4:=hS3.trans (k4.mono hS3.size)
      refine ⟨hS4,?_⟩
      clear cx
      refine wpAnyH_all (rs:=[15]) (by kernel_rfl) (by simp) ?_
      intro i hi
      obtain rfl:=List.mem_singleton.1 hi
      refine Reg.wpOp_list rfl ?_
      go_wp2_with fail
      change _ ∧ _
      refine ⟨hS4,?_⟩
      refine wpAnyH_all (rs:=[16]) (by kernel_rfl) (by simp) ?_
      intro i hi
      obtain rfl:=List.mem_singleton.1 hi
      refine Reg.wpOp_list rfl ?_
      go_wp2_with fail
      change _ ∧ _
      refine ⟨hS4,?_⟩
      refine wpAnyH_done (by kernel_rfl) ?_ _
      have hbz:=B7.out.trans (hS4.mono B7.out.size)
      clear hS0 hS1 hS2 hS3 hS4
      go_wp2_with fail
      go_ret
      exact ⟨rfl,hbz⟩
    ·have hne:(mayK (plain n y) != 0) = true:=by simp [hm2]
     generalize mayK (plain n y) = M at *
     refine cy.mono ?_
     rintro e w5 ⟨rfl,k5⟩
     have hbx:=HBZ.out.trans (k5.mono HBZ.out.size)
     have B5:=Lib.hid (B3.out.trans (hbx.mono B3.out.size))
     clear cy k5 hbx
     have ca:=awake_any w5 (HV0.out.on B5.out)
     go_wp2_with fail
     refine ca.mono ?_
     rintro e w9 ⟨rfl,k9⟩
     have hb:=B5.out.trans (k9.mono B5.out.size)
     go_wp2_with fail
     go_ret
     exact ⟨rfl,hb⟩
  ·have hne:(mayK (gives p n v) != 0) = true:=by simp [hm]
   generalize mayK (gives p n v) = M at *
   go_wp2_with fail
   clear hu hu0 c0 c1 c2 c3 c4 c5 c6 c7 c8
   refine cy.mono ?_
   rintro e w3 ⟨rfl,k3⟩
   have B3:=Lib.hid (B2.out.trans (k3.mono B2.out.size))
   clear cy k3
   have ca:=awake_any w3 (HV0.out.on B3.out)
   go_wp2_with fail
   refine ca.mono ?_
   rintro e w9 ⟨rfl,k9⟩
   have hb:=B3.out.trans (k9.mono B3.out.size)
   go_wp2_with fail
   go_ret
   exact ⟨rfl,hb⟩
end Ix
end Go.Proofs.YtelofmeapplfpaaGreatDoor

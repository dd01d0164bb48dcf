/-
The law IndexClash.
-/
import Derived.Test.YtelofmeapplfpaaGreatDoorAIxClash
import Derived.Test.YtelofmeapplfpaaGreatDoorAIxYClash
import Derived.Test.YtelofmeapplfpaaGreatDoorAIxLit
import Derived.Test.YtelofmeapplfpaaGreatDoorARelArgs
import Derived.Test.YtelofmeapplfpaaGreatDoorARelJoin
import Derived.Test.YtelofmeapplfpaaGreatDoorARecMay3
import Derived.OrdersHeld
import Derived.Deep.MidRow
namespace Go.Proofs.YtelofmeapplfpaaGreatDoor
open Go.RowKit
set_option linter.unusedSimpArgs false
set_option linter.unusedVariables false
namespace Ix
open Ver (Bs S)
open Rl (At Pv Vars aV)
open Rc (Pk nPk Pks PkV PkC Has)
theorem clash_turn (p q:Pk):clash q p = clash p q:=by
 unfold clash
 rw [Bool.or_comm,show decide (q.nm = p.nm) = decide (p.nm = q.nm) from decide_eq_decide.2 eq_comm]
theorem clash_nm {p q:Pk} (h:p.nm = q.nm):clash p q = false:=by unfold clash; rw [decide_eq_true h]; rfl
set_option maxRecDepth 100000 in
set_option maxHeartbeats 16000000 in
theorem clash_walk (v1 v2:Value) (p q:Pk) (w:World) (h1:PkV w v1 p) (h2:PkV w v2 q) (l1:p.Lim) (l2:q.Lim) (hv:Vars w) :
  Calls Tryz.prog 7 #[v1,v2] w fun e w'=>e = .returned (.bool true) ∧ Below w.heap.size w w':=by
 obtain ⟨u1,u2,u3,u4,u5,u6,rfl,hp⟩:=h1
 obtain ⟨z1,z2,z3,z4,z5,z6,rfl,hq⟩:=h2
 obtain ⟨x1,cx1,ex1⟩:=hp.pre.shape
 generalize nx1h:p.pre.length = nx1 at ex1
 clear nx1h
 obtain ⟨x2,cx2,ex2⟩:=hp.dep.shape
 generalize nx2h:p.dep.length = nx2 at ex2
 clear nx2h
 obtain ⟨x3,cx3,ex3⟩:=hp.rcm.shape
 generalize nx3h:p.rcm.length = nx3 at ex3
 clear nx3h
 obtain ⟨x4,cx4,ex4⟩:=hp.con.shape
 generalize nx4h:p.con.length = nx4 at ex4
 clear nx4h
 obtain ⟨x5,cx5,ex5⟩:=hp.brk.shape
 generalize nx5h:p.brk.length = nx5 at ex5
 clear nx5h
 obtain ⟨x6,cx6,ex6⟩:=hp.prv.shape
 generalize nx6h:p.prv.length = nx6 at ex6
 clear nx6h
 obtain ⟨y1,cy1,ey1⟩:=hq.pre.shape
 generalize ny1h:q.pre.length = ny1 at ey1
 clear ny1h
 obtain ⟨y2,cy2,ey2⟩:=hq.dep.shape
 generalize ny2h:q.dep.length = ny2 at ey2
 clear ny2h
 obtain ⟨y3,cy3,ey3⟩:=hq.rcm.shape
 generalize ny3h:q.rcm.length = ny3 at ey3
 clear ny3h
 obtain ⟨y4,cy4,ey4⟩:=hq.con.shape
 generalize ny4h:q.con.length = ny4 at ey4
 clear ny4h
 obtain ⟨y5,cy5,ey5⟩:=hq.brk.shape
 generalize ny5h:q.brk.length = ny5 at ey5
 clear ny5h
 obtain ⟨y6,cy6,ey6⟩:=hq.prv.shape
 generalize ny6h:q.prv.length = ny6 at ey6
 clear ny6h
 subst ex1 ex2 ex3 ex4 ex5 ex6 ey1 ey2 ey3 ey4 ey5 ey6
 have hb1:=(Below.refl w.heap.size w).alloc (Nat.le_refl _) (.cells #[.string (S p.nm),.string (S p.vs),.slice x1 nx1 cx1,.slice x2 nx2 cx2,.slice x3 nx3 cx3,.slice x4 nx4 cx4,.slice x5 nx5 cx5,.slice x6 nx6 cx6,.bool p.ess] 26)
 have i1:=Blk.Is.new w 26 #[.string (S p.nm),.string (S p.vs),.slice x1 nx1 cx1,.slice x2 nx2 cx2,.slice x3 nx3 cx3,.slice x4 nx4 cx4,.slice x5 nx5 cx5,.slice x6 nx6 cx6,.bool p.ess]
 have s1:(w.alloc (.cells #[.string (S p.nm),.string (S p.vs),.slice x1 nx1 cx1,.slice x2 nx2 cx2,.slice x3 nx3 cx3,.slice x4 nx4 cx4,.slice x5 nx5 cx5,.slice x6 nx6 cx6,.bool p.ess] 26)).heap.size = w.heap.size + 1:=by simp
 have hb2:=hb1.alloc hb1.size (.cells #[.string (S q.nm),.string (S q.vs),.slice y1 ny1 cy1,.slice y2 ny2 cy2,.slice y3 ny3 cy3,.slice y4 ny4 cy4,.slice y5 ny5 cy5,.slice y6 ny6 cy6,.bool q.ess] 26)
 have i2:=Blk.Is.new (w.alloc (.cells #[.string (S p.nm),.string (S p.vs),.slice x1 nx1 cx1,.slice x2 nx2 cx2,.slice x3 nx3 cx3,.slice x4 nx4 cx4,.slice x5 nx5 cx5,.slice x6 nx6 cx6,.bool p.ess] 26)) 26 #[.string (S q.nm),.string (S q.vs),.slice y1 ny1 cy1,.slice y2 ny2 cy2,.slice y3 ny3 cy3,.slice y4 ny4 cy4,.slice y5 ny5 cy5,.slice y6 ny6 cy6,.bool q.ess]
 rw [s1] at i2
 have i1':=i1.alloc (.cells #[.string (S q.nm),.string (S q.vs),.slice y1 ny1 cy1,.slice y2 ny2 cy2,.slice y3 ny3 cy3,.slice y4 ny4 cy4,.slice y5 ny5 cy5,.slice y6 ny6 cy6,.bool q.ess] 26)
 have s2:((w.alloc (.cells #[.string (S p.nm),.string (S p.vs),.slice x1 nx1 cx1,.slice x2 nx2 cx2,.slice x3 nx3 cx3,.slice x4 nx4 cx4,.slice x5 nx5 cx5,.slice x6 nx6 cx6,.bool p.ess] 26)).alloc (.cells #[.string (S q.nm),.string (S q.vs),.slice y1 ny1 cy1,.slice y2 ny2 cy2,.slice y3 ny3 cy3,.slice y4 ny4 cy4,.slice y5 ny5 cy5,.slice y6 ny6 cy6,.bool q.ess] 26)).heap.size = w.heap.size + 2:=by simp
 obtain ⟨W,hW⟩:∃ W,(w.alloc (.cells #[.string (S p.nm),.string (S p.vs),.slice x1 nx1 cx1,.slice x2 nx2 cx2,.slice x3 nx3 cx3,.slice x4 nx4 cx4,.slice x5 nx5 cx5,.slice x6 nx6 cx6,.bool p.ess] 26)).alloc (.cells #[.string (S q.nm),.string (S q.vs),.slice y1 ny1 cy1,.slice y2 ny2 cy2,.slice y3 ny3 cy3,.slice y4 ny4 cy4,.slice y5 ny5 cy5,.slice y6 ny6 cy6,.bool q.ess] 26) = W:=⟨_,rfl⟩
 rw [hW] at hb2 i2 i1'
 have KP:Hid (∀ u,Below W.heap.size W u → u.rangeAt w.heap.size 0 [.string (S p.nm),.string (S p.vs),.slice x1 nx1 cx1,.slice x2 nx2 cx2,.slice x3 nx3 cx3,.slice x4 nx4 cx4,.slice x5 nx5 cx5,.slice x6 nx6 cx6,.bool p.ess]):=Lib.hid fun u hu=>range_of (Rl.is_on i1' hu)
 have KQ:Hid (∀ u,Below W.heap.size W u → u.rangeAt (w.heap.size + 1) 0 [.string (S q.nm),.string (S q.vs),.slice y1 ny1 cy1,.slice y2 ny2 cy2,.slice y3 ny3 cy3,.slice y4 ny4 cy4,.slice y5 ny5 cy5,.slice y6 ny6 cy6,.bool q.ess]):=Lib.hid fun u hu=>range_of (Rl.is_on i2 hu)
 have IP:=Lib.hid i1'
 have IQ:=Lib.hid i2
 have HP:=Lib.hid (hp.below hb2)
 have HQ:=Lib.hid (hq.below hb2)
 have PP:Hid (∀ u,Below W.heap.size W u → PkV u (.agg #[.string (S p.nm),.string (S p.vs),.slice x1 nx1 cx1,.slice x2 nx2 cx2,.slice x3 nx3 cx3,.slice x4 nx4 cx4,.slice x5 nx5 cx5,.slice x6 nx6 cx6,.bool p.ess]) p):=Lib.hid fun u hu=>⟨_,_,_,_,_,_,rfl,HP.out.below hu⟩
 have PQ:Hid (∀ u,Below W.heap.size W u → PkV u (.agg #[.string (S q.nm),.string (S q.vs),.slice y1 ny1 cy1,.slice y2 ny2 cy2,.slice y3 ny3 cy3,.slice y4 ny4 cy4,.slice y5 ny5 cy5,.slice y6 ny6 cy6,.bool q.ess]) q):=Lib.hid fun u hu=>⟨_,_,_,_,_,_,rfl,HQ.out.below hu⟩
 have z9:(Tryz.prog.info? 26).map (·.size) = some 9:=by kernel_rfl
 have z3:(Tryz.prog.info? 28).map (·.size) = some 3:=by kernel_rfl
 have Z9:=Lib.hid z9
 have Z3:=Lib.hid z3
 have LP:=Lib.hid l1
 have LQ:=Lib.hid l2
 have HB:=Lib.hid hb2
 have GV:=Lib.hid (hv.on hb2)
 have hqn:((S p.nm).toList == (S q.nm).toList) = decide (p.nm = q.nm):=Rl.S_beq _ _
 obtain ⟨C,hC⟩:∃ C,clash p q = C:=⟨_,rfl⟩
 have HC:=Lib.hid hC
 have hcc:(C == C) = true:=by simp
 obtain ⟨hbl,hpk⟩:=pks_two W p q (.slice x1 nx1 cx1) (.slice x2 nx2 cx2) (.slice x3 nx3 cx3) (.slice x4 nx4 cx4) (.slice x5 nx5 cx5) (.slice x6 nx6 cx6) (.slice y1 ny1 cy1) (.slice y2 ny2 cy2) (.slice y3 ny3 cy3) (.slice y4 ny4 cy4) (.slice y5 ny5 cy5) (.slice y6 ny6 cy6) HP.out HQ.out
 obtain ⟨V,hV⟩:∃ V,W.alloc (.cells #[.string (S p.nm),.string (S p.vs),.slice x1 nx1 cx1,.slice x2 nx2 cx2,.slice x3 nx3 cx3,.slice x4 nx4 cx4,.slice x5 nx5 cx5,.slice x6 nx6 cx6,.bool p.ess,.string (S q.nm),.string (S q.vs),.slice y1 ny1 cy1,.slice y2 ny2 cy2,.slice y3 ny3 cy3,.slice y4 ny4 cy4,.slice y5 ny5 cy5,.slice y6 ny6 cy6,.bool q.ess] 26) = V:=⟨_,rfl⟩
 rw [hV] at hbl hpk
 obtain ⟨b1,hb1'⟩:∃ b1,Rc.lightB [p,q] = b1:=⟨_,rfl⟩
 have cl:=Rc.light_any _ [p,q] V hpk
 rw [hb1'] at cl
 have HBV:=Lib.hid hbl
 have c0:=IP.out.at (i:=0) rfl
 have d0:=IQ.out.at (i:=0) rfl
 have c1:=IP.out.at (i:=1) rfl
 have d1:=IQ.out.at (i:=1) rfl
 have c2:=IP.out.at (i:=2) rfl
 have d2:=IQ.out.at (i:=2) rfl
 have c3:=IP.out.at (i:=3) rfl
 have d3:=IQ.out.at (i:=3) rfl
 have c4:=IP.out.at (i:=4) rfl
 have d4:=IQ.out.at (i:=4) rfl
 have c5:=IP.out.at (i:=5) rfl
 have d5:=IQ.out.at (i:=5) rfl
 have c6:=IP.out.at (i:=6) rfl
 have d6:=IQ.out.at (i:=6) rfl
 have c7:=IP.out.at (i:=7) rfl
 have d7:=IQ.out.at (i:=7) rfl
 have c8:=IP.out.at (i:=8) rfl
 have d8:=IQ.out.at (i:=8) rfl
 clear hp hq hb1 i1 s1 hb2 i2 i1' s2 z9 z3 l1 l2 hv hC hb1' hbl hpk
 cases b1 with
 | false =>
  go_enter Tryz.func7,Tryz.ntmps7
  go_wp2_with fail
  clear hV c0 d0 c1 d1 c2 d2 c3 d3 c4 d4 c5 d5 c6 d6 c7 d7 c8 d8
  refine cl.mono ?_
  rintro e w1 ⟨rfl,k1⟩
  have B1:=Lib.hid (HBV.out.trans (k1.mono HBV.out.size))
  clear cl k1
  have ca:=awake_any w1 (GV.out.on B1.out)
  go_wp2_with fail
  refine ca.mono ?_
  rintro e w2 ⟨rfl,k2⟩
  have hb:=HB.out.trans ((B1.out.trans (k2.mono B1.out.size)).mono HB.out.size)
  go_wp2_with fail
  go_ret
  exact ⟨rfl,hb⟩
 | true =>
  go_enter Tryz.func7,Tryz.ntmps7
  go_wp2_with fail
  clear hV c0 d0 c1 d1 c2 d2 c3 d3 c4 d4 c5 d5 c6 d6 c7 d7 c8 d8
  refine cl.mono ?_
  rintro e w1 ⟨rfl,k1⟩
  have B1:=Lib.hid (HBV.out.trans (k1.mono HBV.out.size))
  clear cl k1
  have hnm:∃ N,decide (p.nm = q.nm) = N:=⟨_,rfl⟩
  obtain ⟨N,hN⟩:=hnm
  rw [hN] at hqn
  have KP2:Hid (∀ u,Below w1.heap.size w1 u → u.rangeAt w.heap.size 0 [.string (S p.nm),.string (S p.vs),.slice x1 nx1 cx1,.slice x2 nx2 cx2,.slice x3 nx3 cx3,.slice x4 nx4 cx4,.slice x5 nx5 cx5,.slice x6 nx6 cx6,.bool p.ess]):=Lib.hid fun u hu=>KP.out u (B1.out.trans (hu.mono B1.out.size))
  have KQ2:Hid (∀ u,Below w1.heap.size w1 u → u.rangeAt (w.heap.size + 1) 0 [.string (S q.nm),.string (S q.vs),.slice y1 ny1 cy1,.slice y2 ny2 cy2,.slice y3 ny3 cy3,.slice y4 ny4 cy4,.slice y5 ny5 cy5,.slice y6 ny6 cy6,.bool q.ess]):=Lib.hid fun u hu=>KQ.out u (B1.out.trans (hu.mono B1.out.size))
  have PP2:Hid (∀ u,Below w1.heap.size w1 u → PkV u (.agg #[.string (S p.nm),.string (S p.vs),.slice x1 nx1 cx1,.slice x2 nx2 cx2,.slice x3 nx3 cx3,.slice x4 nx4 cx4,.slice x5 nx5 cx5,.slice x6 nx6 cx6,.bool p.ess]) p):=Lib.hid fun u hu=>PP.out u (B1.out.trans (hu.mono B1.out.size))
  have PQ2:Hid (∀ u,Below w1.heap.size w1 u → PkV u (.agg #[.string (S q.nm),.string (S q.vs),.slice y1 ny1 cy1,.slice y2 ny2 cy2,.slice y3 ny3 cy3,.slice y4 ny4 cy4,.slice y5 ny5 cy5,.slice y6 ny6 cy6,.bool q.ess]) q):=Lib.hid fun u hu=>PQ.out u (B1.out.trans (hu.mono B1.out.size))
  have CP0:Hid (∀ u,Below w1.heap.size w1 u → u.cell? ⟨w.heap.size,0,none⟩ = some (.string (S p.nm))):=Lib.hid fun u hu=>(Rl.is_on IP.out (B1.out.trans (hu.mono B1.out.size))).at (i:=0) rfl
  have CQ0:Hid (∀ u,Below w1.heap.size w1 u → u.cell? ⟨w.heap.size + 1,0,none⟩ = some (.string (S q.nm))):=Lib.hid fun u hu=>(Rl.is_on IQ.out (B1.out.trans (hu.mono B1.out.size))).at (i:=0) rfl
  have GV2:=Lib.hid (GV.out.on B1.out)
  go_upto_region 3 with fail
  cases N with
  | false =>
   clear hN
   refine wp_region_held (S:=fun u=>Below w1.heap.size w1 u) (by kernel_rfl) ?_
   have hS0:Below w1.heap.size w1 w1.drew:=(Below.refl _ _).drew
   change wpAnyH _ _ _ _ _ 30 _ _ w1.drew
   generalize w1.drew = u0 at *
   refine wpAnyH_take (i:=0) (v:=.agg [.string (S p.nm),.string (S p.vs),.slice x1 nx1 cx1,.slice x2 nx2 cx2,.slice x3 nx3 cx3,.slice x4 nx4 cx4,.slice x5 nx5 cx5,.slice x6 nx6 cx6,.bool p.ess].toArray) rfl (by kernel_rfl) (by kernel_rfl) (by kernel_rfl) (fun _ _ _ h=>h) (yieldsIf_load_mid rfl 26 (.tmp 2) rfl w.heap.size 0 rfl _ _ KP2.out Tryz.underlying26 rfl Z9.out) hS0 ?_
   simp only [Act.put,List.getElem_toArray,List.getElem_cons_zero,List.getElem_cons_succ,List.setIfInBounds_toArray,List.set_cons_zero,List.set_cons_succ]
   refine wpAnyH_take (i:=1) (v:=.agg [.string (S q.nm),.string (S q.vs),.slice y1 ny1 cy1,.slice y2 ny2 cy2,.slice y3 ny3 cy3,.slice y4 ny4 cy4,.slice y5 ny5 cy5,.slice y6 ny6 cy6,.bool q.ess].toArray) rfl (by kernel_rfl) (by kernel_rfl) (by kernel_rfl) (fun _ _ _ h=>h) (yieldsIf_load_mid rfl 26 (.tmp 3) rfl (w.heap.size + 1) 0 rfl _ _ KQ2.out Tryz.underlying26 rfl Z9.out) hS0 ?_
   simp only [Act.put,List.getElem_toArray,List.getElem_cons_zero,List.getElem_cons_succ,List.setIfInBounds_toArray,List.set_cons_zero,List.set_cons_succ]
   refine wpAnyH_take (i:=3) (v:=.agg [.string (S q.nm),.string (S q.vs),.slice y1 ny1 cy1,.slice y2 ny2 cy2,.slice y3 ny3 cy3,.slice y4 ny4 cy4,.slice y5 ny5 cy5,.slice y6 ny6 cy6,.bool q.ess].toArray) rfl (by kernel_rfl) (by kernel_rfl) (by kernel_rfl) (fun _ _ _ h=>h) (yieldsIf_load_mid rfl 26 (.tmp 3) rfl (w.heap.size + 1) 0 rfl _ _ KQ2.out Tryz.underlying26 rfl Z9.out) hS0 ?_
   simp only [Act.put,List.getElem_toArray,List.getElem_cons_zero,List.getElem_cons_succ,List.setIfInBounds_toArray,List.set_cons_zero,List.set_cons_succ]
   refine wpAnyH_take (i:=4) (v:=.agg [.string (S p.nm),.string (S p.vs),.slice x1 nx1 cx1,.slice x2 nx2 cx2,.slice x3 nx3 cx3,.slice x4 nx4 cx4,.slice x5 nx5 cx5,.slice x6 nx6 cx6,.bool p.ess].toArray) rfl (by kernel_rfl) (by kernel_rfl) (by kernel_rfl) (fun _ _ _ h=>h) (yieldsIf_load_mid rfl 26 (.tmp 2) rfl w.heap.size 0 rfl _ _ KP2.out Tryz.underlying26 rfl Z9.out) hS0 ?_
   simp only [Act.put,List.getElem_toArray,List.getElem_cons_zero,List.getElem_cons_succ,List.setIfInBounds_toArray,List.set_cons_zero,List.set_cons_succ]
   have cx:=clash_any _ _ p q u0 (PP2.out _ hS0) (PQ2.out _ hS0) LP.out LQ.out (GV2.out.on hS0)
   rw [HC.out] at cx
   refine wpAnyH_all (rs:=[2]) (by kernel_rfl) (by simp) ?_
   intro i hi
   obtain rfl:=List.mem_singleton.1 hi
   refine Reg.wpOp_list rfl ?_
   go_wp2_with fail
   refine cx.mono ?_
   rintro e u1 ⟨rfl,k1⟩
   go_wp2_with fail
   change _ ∧ _
   have hS1:Below w1.heap.size w1 u1:=hS0.trans (k1.mono hS0.size)
   refine ⟨hS1,?_⟩
   clear cx
   have cx:=clash_any _ _ q p u1 (PQ2.out _ hS1) (PP2.out _ hS1) LQ.out LP.out (GV2.out.on hS1)
   rw [clash_turn,HC.out] at cx
   refine wpAnyH_all (rs:=[5]) (by kernel_rfl) (by simp) ?_
   intro i hi
   obtain rfl:=List.mem_singleton.1 hi
   refine Reg.wpOp_list rfl ?_
   go_wp2_with fail
   refine cx.mono ?_
   rintro e u2 ⟨rfl,k2⟩
   go_wp2_with fail
   change _ ∧ _
   have hS2:Below w1.heap.size w1 u2:=hS1.trans (k2.mono hS1.size)
   refine ⟨hS2,?_⟩
   clear cx
   refine wpAnyH_all (rs:=[6]) (by kernel_rfl) (by simp) ?_
   intro i hi
   obtain rfl:=List.mem_singleton.1 hi
   refine Reg.wpOp_list rfl ?_
   go_wp2_with fail
   change _ ∧ _
   refine ⟨hS2,?_⟩
   refine wpAnyH_all (rs:=[7]) (by kernel_rfl) (by simp) ?_
   intro i hi
   obtain rfl:=List.mem_singleton.1 hi
   refine Reg.wpOp_list rfl ?_
   go_wp2_with fail
   change _ ∧ _
   refine ⟨hS2,?_⟩
   refine wpAnyH_take (i:=8) (v:=.agg [.string (S p.nm),.string (S p.vs),.slice x1 nx1 cx1,.slice x2 nx2 cx2,.slice x3 nx3 cx3,.slice x4 nx4 cx4,.slice x5 nx5 cx5,.slice x6 nx6 cx6,.bool p.ess].toArray) rfl (by kernel_rfl) (by kernel_rfl) (by kernel_rfl) (fun _ _ _ h=>h) (yieldsIf_load_mid rfl 26 (.tmp 2) rfl w.heap.size 0 rfl _ _ KP2.out Tryz.underlying26 rfl Z9.out) hS2 ?_
   simp only [Act.put,List.getElem_toArray,List.getElem_cons_zero,List.getElem_cons_succ,List.setIfInBounds_toArray,List.set_cons_zero,List.set_cons_succ]
   refine wpAnyH_take (i:=9) (v:=.agg [.string (S p.nm),.string (S p.vs),.slice x1 nx1 cx1,.slice x2 nx2 cx2,.slice x3 nx3 cx3,.slice x4 nx4 cx4,.slice x5 nx5 cx5,.slice x6 nx6 cx6,.bool p.ess].toArray) rfl (by kernel_rfl) (by kernel_rfl) (by kernel_rfl) (fun _ _ _ h=>h) (yieldsIf_load_mid rfl 26 (.tmp 2) rfl w.heap.size 0 rfl _ _ KP2.out Tryz.underlying26 rfl Z9.out) hS2 ?_
   simp only [Act.put,List.getElem_toArray,List.getElem_cons_zero,List.getElem_cons_succ,List.setIfInBounds_toArray,List.set_cons_zero,List.set_cons_succ]
   have cx:=clash_any _ _ p p u2 (PP2.out _ hS2) (PP2.out _ hS2) LP.out LP.out (GV2.out.on hS2)
   rw [clash_nm rfl] at cx
   refine wpAnyH_all (rs:=[10]) (by kernel_rfl) (by simp) ?_
   intro i hi
   obtain rfl:=List.mem_singleton.1 hi
   refine Reg.wpOp_list rfl ?_
   go_wp2_with fail
   refine cx.mono ?_
   rintro e u3 ⟨rfl,k3⟩
   go_wp2_with fail
   change _ ∧ _
   have hS3:Below w1.heap.size w1 u3:=hS2.trans (k3.mono hS2.size)
   refine ⟨hS3,?_⟩
   clear cx
   refine wpAnyH_all (rs:=[11]) (by kernel_rfl) (by simp) ?_
   intro i hi
   obtain rfl:=List.mem_singleton.1 hi
   refine Reg.wpOp_list rfl ?_
   go_wp2_with fail
   change _ ∧ _
   refine ⟨hS3,?_⟩
   refine wpAnyH_all (rs:=[12]) (by kernel_rfl) (by simp) ?_
   intro i hi
   obtain rfl:=List.mem_singleton.1 hi
   refine Reg.wpOp_list rfl ?_
   go_wp2_with fail
   change _ ∧ _
   refine ⟨hS3,?_⟩
   refine wpAnyH_all (rs:=[13]) (by kernel_rfl) (by simp) ?_
   intro i hi
   obtain rfl:=List.mem_singleton.1 hi
   refine Reg.wpOp_list rfl ?_
   go_wp2_with fail
   change _ ∧ _
   refine ⟨hS3,?_⟩
   refine wpAnyH_take (i:=14) (v:=.pointer (some ⟨w.heap.size,0,none⟩)) rfl (by kernel_rfl) (by kernel_rfl) (by kernel_rfl) (fun _ _ _ h=>h) (.inl ⟨rfl,fun w _=>rfl⟩) hS3 ?_
   simp only [Act.put,List.getElem_toArray,List.getElem_cons_zero,List.getElem_cons_succ,List.setIfInBounds_toArray,List.set_cons_zero,List.set_cons_succ]
   refine wpAnyH_take (i:=16) (v:=.pointer (some ⟨w.heap.size + 1,0,none⟩)) rfl (by kernel_rfl) (by kernel_rfl) (by kernel_rfl) (fun _ _ _ h=>h) (.inl ⟨rfl,fun w _=>rfl⟩) hS3 ?_
   simp only [Act.put,List.getElem_toArray,List.getElem_cons_zero,List.getElem_cons_succ,List.setIfInBounds_toArray,List.set_cons_zero,List.set_cons_succ]
   refine wpAnyH_take (i:=15) (v:=.string (S p.nm)) rfl (by kernel_rfl) (by kernel_rfl) (by kernel_rfl) (fun _ _ _ h=>h) (Held.load1 rfl 9 (.tmp 25) rfl w.heap.size 0 rfl _ _ CP0.out Tryz.underlying9 rfl) hS3 ?_
   simp only [Act.put,List.getElem_toArray,List.getElem_cons_zero,List.getElem_cons_succ,List.setIfInBounds_toArray,List.set_cons_zero,List.set_cons_succ]
   refine wpAnyH_take (i:=17) (v:=.string (S q.nm)) rfl (by kernel_rfl) (by kernel_rfl) (by kernel_rfl) (fun _ _ _ h=>h) (Held.load1 rfl 9 (.tmp 27) rfl (w.heap.size + 1) 0 rfl _ _ CQ0.out Tryz.underlying9 rfl) hS3 ?_
   simp only [Act.put,List.getElem_toArray,List.getElem_cons_zero,List.getElem_cons_succ,List.setIfInBounds_toArray,List.set_cons_zero,List.set_cons_succ]
   refine wpAnyH_all (rs:=[18]) (by kernel_rfl) (by simp) ?_
   intro i hi
   obtain rfl:=List.mem_singleton.1 hi
   refine Reg.wpOp_list rfl ?_
   go_wp2_with fail
   change _ ∧ _
   refine ⟨hS3,?_⟩
   refine wpAnyH_all (rs:=[19]) (by kernel_rfl) (by simp) ?_
   intro i hi
   obtain rfl:=List.mem_singleton.1 hi
   refine Reg.wpOp_list rfl ?_
   go_wp2_with fail
   change _ ∧ _
   refine ⟨hS3,?_⟩
   refine wpAnyH_take (i:=20) (v:=undef) rfl (by kernel_rfl) (by kernel_rfl) (by kernel_rfl) (fun _ _ _ h=>h) (.inr ⟨by kernel_rfl,rfl⟩) hS3 ?_
   simp only [Act.put,List.getElem_toArray,List.getElem_cons_zero,List.getElem_cons_succ,List.setIfInBounds_toArray,List.set_cons_zero,List.set_cons_succ]
   refine wpAnyH_take (i:=21) (v:=undef) rfl (by kernel_rfl) (by kernel_rfl) (by kernel_rfl) (fun _ _ _ h=>h) (.inr ⟨by kernel_rfl,rfl⟩) hS3 ?_
   simp only [Act.put,List.getElem_toArray,List.getElem_cons_zero,List.getElem_cons_succ,List.setIfInBounds_toArray,List.set_cons_zero,List.set_cons_succ]
   refine wpAnyH_take (i:=22) (v:=undef) rfl (by kernel_rfl) (by kernel_rfl) (by kernel_rfl) (fun _ _ _ h=>h) (.inr ⟨by kernel_rfl,rfl⟩) hS3 ?_
   simp only [Act.put,List.getElem_toArray,List.getElem_cons_zero,List.getElem_cons_succ,List.setIfInBounds_toArray,List.set_cons_zero,List.set_cons_succ]
   refine wpAnyH_take (i:=23) (v:=undef) rfl (by kernel_rfl) (by kernel_rfl) (by kernel_rfl) (fun _ _ _ h=>h) (.inr ⟨by kernel_rfl,rfl⟩) hS3 ?_
   simp only [Act.put,List.getElem_toArray,List.getElem_cons_zero,List.getElem_cons_succ,List.setIfInBounds_toArray,List.set_cons_zero,List.set_cons_succ]
   refine wpAnyH_all (rs:=[24]) (by kernel_rfl) (by simp) ?_
   intro i hi
   obtain rfl:=List.mem_singleton.1 hi
   refine Reg.wpOp_list rfl ?_
   go_wp2_with fail
   change _ ∧ _
   refine ⟨hS3,?_⟩
   refine wpAnyH_all (rs:=[25]) (by kernel_rfl) (by simp) ?_
   intro i hi
   obtain rfl:=List.mem_singleton.1 hi
   refine Reg.wpOp_list rfl ?_
   go_wp2_with fail
   change _ ∧ _
   refine ⟨hS3,?_⟩
   refine wpAnyH_all (rs:=[26]) (by kernel_rfl) (by simp) ?_
   intro i hi
   obtain rfl:=List.mem_singleton.1 hi
   refine Reg.wpOp_list rfl ?_
   go_wp2_with fail
   change _ ∧ _
   refine ⟨hS3,?_⟩
   have cx:=awake_any u3 (GV2.out.on hS3)
   refine wpAnyH_all (rs:=[27]) (by kernel_rfl) (by simp) ?_
   intro i hi
   obtain rfl:=List.mem_singleton.1 hi
   refine Reg.wpOp_list rfl ?_
   go_wp2_with fail
   refine cx.mono ?_
   rintro e u4 ⟨rfl,k4⟩
   go_wp2_with fail
   change _ ∧ _
   have hS4:Below w1.heap.size w1 u4:=hS3.trans (k4.mono hS3.size)
   refine ⟨hS4,?_⟩
   clear cx
   refine wpAnyH_all (rs:=[28]) (by kernel_rfl) (by simp) ?_
   intro i hi
   obtain rfl:=List.mem_singleton.1 hi
   refine Reg.wpOp_list rfl ?_
   go_wp2_with fail
   change _ ∧ _
   refine ⟨hS4,?_⟩
   refine wpAnyH_all (rs:=[29]) (by kernel_rfl) (by simp) ?_
   intro i hi
   obtain rfl:=List.mem_singleton.1 hi
   refine Reg.wpOp_list rfl ?_
   go_wp2_with fail
   change _ ∧ _
   refine ⟨hS4,?_⟩
   refine wpAnyH_done (by kernel_rfl) ?_ _
   have hbz:=HB.out.trans ((B1.out.trans (hS4.mono B1.out.size)).mono HB.out.size)
   clear hS0 hS1 hS2 hS3 hS4
   go_wp2_with fail
   go_ret
   exact ⟨rfl,hbz⟩
  | true =>
   have HN:=Lib.hid (of_decide_eq_true hN)
   clear hN
   refine wp_region_held (S:=fun u=>Below w1.heap.size w1 u) (by kernel_rfl) ?_
   have hS0:Below w1.heap.size w1 w1.drew:=(Below.refl _ _).drew
   change wpAnyH _ _ _ _ _ 30 _ _ w1.drew
   generalize w1.drew = u0 at *
   refine wpAnyH_take (i:=0) (v:=.agg [.string (S p.nm),.string (S p.vs),.slice x1 nx1 cx1,.slice x2 nx2 cx2,.slice x3 nx3 cx3,.slice x4 nx4 cx4,.slice x5 nx5 cx5,.slice x6 nx6 cx6,.bool p.ess].toArray) rfl (by kernel_rfl) (by kernel_rfl) (by kernel_rfl) (fun _ _ _ h=>h) (yieldsIf_load_mid rfl 26 (.tmp 2) rfl w.heap.size 0 rfl _ _ KP2.out Tryz.underlying26 rfl Z9.out) hS0 ?_
   simp only [Act.put,List.getElem_toArray,List.getElem_cons_zero,List.getElem_cons_succ,List.setIfInBounds_toArray,List.set_cons_zero,List.set_cons_succ]
   refine wpAnyH_take (i:=1) (v:=.agg [.string (S q.nm),.string (S q.vs),.slice y1 ny1 cy1,.slice y2 ny2 cy2,.slice y3 ny3 cy3,.slice y4 ny4 cy4,.slice y5 ny5 cy5,.slice y6 ny6 cy6,.bool q.ess].toArray) rfl (by kernel_rfl) (by kernel_rfl) (by kernel_rfl) (fun _ _ _ h=>h) (yieldsIf_load_mid rfl 26 (.tmp 3) rfl (w.heap.size + 1) 0 rfl _ _ KQ2.out Tryz.underlying26 rfl Z9.out) hS0 ?_
   simp only [Act.put,List.getElem_toArray,List.getElem_cons_zero,List.getElem_cons_succ,List.setIfInBounds_toArray,List.set_cons_zero,List.set_cons_succ]
   refine wpAnyH_take (i:=3) (v:=.agg [.string (S q.nm),.string (S q.vs),.slice y1 ny1 cy1,.slice y2 ny2 cy2,.slice y3 ny3 cy3,.slice y4 ny4 cy4,.slice y5 ny5 cy5,.slice y6 ny6 cy6,.bool q.ess].toArray) rfl (by kernel_rfl) (by kernel_rfl) (by kernel_rfl) (fun _ _ _ h=>h) (yieldsIf_load_mid rfl 26 (.tmp 3) rfl (w.heap.size + 1) 0 rfl _ _ KQ2.out Tryz.underlying26 rfl Z9.out) hS0 ?_
   simp only [Act.put,List.getElem_toArray,List.getElem_cons_zero,List.getElem_cons_succ,List.setIfInBounds_toArray,List.set_cons_zero,List.set_cons_succ]
   refine wpAnyH_take (i:=4) (v:=.agg [.string (S p.nm),.string (S p.vs),.slice x1 nx1 cx1,.slice x2 nx2 cx2,.slice x3 nx3 cx3,.slice x4 nx4 cx4,.slice x5 nx5 cx5,.slice x6 nx6 cx6,.bool p.ess].toArray) rfl (by kernel_rfl) (by kernel_rfl) (by kernel_rfl) (fun _ _ _ h=>h) (yieldsIf_load_mid rfl 26 (.tmp 2) rfl w.heap.size 0 rfl _ _ KP2.out Tryz.underlying26 rfl Z9.out) hS0 ?_
   simp only [Act.put,List.getElem_toArray,List.getElem_cons_zero,List.getElem_cons_succ,List.setIfInBounds_toArray,List.set_cons_zero,List.set_cons_succ]
   have cx:=clash_any _ _ p q u0 (PP2.out _ hS0) (PQ2.out _ hS0) LP.out LQ.out (GV2.out.on hS0)
   rw [HC.out] at cx
   refine wpAnyH_all (rs:=[2]) (by kernel_rfl) (by simp) ?_
   intro i hi
   obtain rfl:=List.mem_singleton.1 hi
   refine Reg.wpOp_list rfl ?_
   go_wp2_with fail
   refine cx.mono ?_
   rintro e u1 ⟨rfl,k1⟩
   go_wp2_with fail
   change _ ∧ _
   have hS1:Below w1.heap.size w1 u1:=hS0.trans (k1.mono hS0.size)
   refine ⟨hS1,?_⟩
   clear cx
   have cx:=clash_any _ _ q p u1 (PQ2.out _ hS1) (PP2.out _ hS1) LQ.out LP.out (GV2.out.on hS1)
   rw [clash_turn,HC.out] at cx
   refine wpAnyH_all (rs:=[5]) (by kernel_rfl) (by simp) ?_
   intro i hi
   obtain rfl:=List.mem_singleton.1 hi
   refine Reg.wpOp_list rfl ?_
   go_wp2_with fail
   refine cx.mono ?_
   rintro e u2 ⟨rfl,k2⟩
   go_wp2_with fail
   change _ ∧ _
   have hS2:Below w1.heap.size w1 u2:=hS1.trans (k2.mono hS1.size)
   refine ⟨hS2,?_⟩
   clear cx
   refine wpAnyH_all (rs:=[6]) (by kernel_rfl) (by simp) ?_
   intro i hi
   obtain rfl:=List.mem_singleton.1 hi
   refine Reg.wpOp_list rfl ?_
   go_wp2_with fail
   change _ ∧ _
   refine ⟨hS2,?_⟩
   refine wpAnyH_all (rs:=[7]) (by kernel_rfl) (by simp) ?_
   intro i hi
   obtain rfl:=List.mem_singleton.1 hi
   refine Reg.wpOp_list rfl ?_
   go_wp2_with fail
   change _ ∧ _
   refine ⟨hS2,?_⟩
   refine wpAnyH_take (i:=8) (v:=.agg [.string (S p.nm),.string (S p.vs),.slice x1 nx1 cx1,.slice x2 nx2 cx2,.slice x3 nx3 cx3,.slice x4 nx4 cx4,.slice x5 nx5 cx5,.slice x6 nx6 cx6,.bool p.ess].toArray) rfl (by kernel_rfl) (by kernel_rfl) (by kernel_rfl) (fun _ _ _ h=>h) (yieldsIf_load_mid rfl 26 (.tmp 2) rfl w.heap.size 0 rfl _ _ KP2.out Tryz.underlying26 rfl Z9.out) hS2 ?_
   simp only [Act.put,List.getElem_toArray,List.getElem_cons_zero,List.getElem_cons_succ,List.setIfInBounds_toArray,List.set_cons_zero,List.set_cons_succ]
   refine wpAnyH_take (i:=9) (v:=.agg [.string (S p.nm),.string (S p.vs),.slice x1 nx1 cx1,.slice x2 nx2 cx2,.slice x3 nx3 cx3,.slice x4 nx4 cx4,.slice x5 nx5 cx5,.slice x6 nx6 cx6,.bool p.ess].toArray) rfl (by kernel_rfl) (by kernel_rfl) (by kernel_rfl) (fun _ _ _ h=>h) (yieldsIf_load_mid rfl 26 (.tmp 2) rfl w.heap.size 0 rfl _ _ KP2.out Tryz.underlying26 rfl Z9.out) hS2 ?_
   simp only [Act.put,List.getElem_toArray,List.getElem_cons_zero,List.getElem_cons_succ,List.setIfInBounds_toArray,List.set_cons_zero,List.set_cons_succ]
   have cx:=clash_any _ _ p p u2 (PP2.out _ hS2) (PP2.out _ hS2) LP.out LP.out (GV2.out.on hS2)
   rw [clash_nm rfl] at cx
   refine wpAnyH_all (rs:=[10]) (by kernel_rfl) (by simp) ?_
   intro i hi
   obtain rfl:=List.mem_singleton.1 hi
   refine Reg.wpOp_list rfl ?_
   go_wp2_with fail
   refine cx.mono ?_
   rintro e u3 ⟨rfl,k3⟩
   go_wp2_with fail
   change _ ∧ _
   have hS3:Below w1.heap.size w1 u3:=hS2.trans (k3.mono hS2.size)
   refine ⟨hS3,?_⟩
   clear cx
   refine wpAnyH_all (rs:=[11]) (by kernel_rfl) (by simp) ?_
   intro i hi
   obtain rfl:=List.mem_singleton.1 hi
   refine Reg.wpOp_list rfl ?_
   go_wp2_with fail
   change _ ∧ _
   refine ⟨hS3,?_⟩
   refine wpAnyH_all (rs:=[12]) (by kernel_rfl) (by simp) ?_
   intro i hi
   obtain rfl:=List.mem_singleton.1 hi
   refine Reg.wpOp_list rfl ?_
   go_wp2_with fail
   change _ ∧ _
   refine ⟨hS3,?_⟩
   refine wpAnyH_all (rs:=[13]) (by kernel_rfl) (by simp) ?_
   intro i hi
   obtain rfl:=List.mem_singleton.1 hi
   refine Reg.wpOp_list rfl ?_
   go_wp2_with fail
   change _ ∧ _
   refine ⟨hS3,?_⟩
   refine wpAnyH_take (i:=14) (v:=.pointer (some ⟨w.heap.size,0,none⟩)) rfl (by kernel_rfl) (by kernel_rfl) (by kernel_rfl) (fun _ _ _ h=>h) (.inl ⟨rfl,fun w _=>rfl⟩) hS3 ?_
   simp only [Act.put,List.getElem_toArray,List.getElem_cons_zero,List.getElem_cons_succ,List.setIfInBounds_toArray,List.set_cons_zero,List.set_cons_succ]
   refine wpAnyH_take (i:=16) (v:=.pointer (some ⟨w.heap.size + 1,0,none⟩)) rfl (by kernel_rfl) (by kernel_rfl) (by kernel_rfl) (fun _ _ _ h=>h) (.inl ⟨rfl,fun w _=>rfl⟩) hS3 ?_
   simp only [Act.put,List.getElem_toArray,List.getElem_cons_zero,List.getElem_cons_succ,List.setIfInBounds_toArray,List.set_cons_zero,List.set_cons_succ]
   refine wpAnyH_take (i:=15) (v:=.string (S p.nm)) rfl (by kernel_rfl) (by kernel_rfl) (by kernel_rfl) (fun _ _ _ h=>h) (Held.load1 rfl 9 (.tmp 25) rfl w.heap.size 0 rfl _ _ CP0.out Tryz.underlying9 rfl) hS3 ?_
   simp only [Act.put,List.getElem_toArray,List.getElem_cons_zero,List.getElem_cons_succ,List.setIfInBounds_toArray,List.set_cons_zero,List.set_cons_succ]
   refine wpAnyH_take (i:=17) (v:=.string (S q.nm)) rfl (by kernel_rfl) (by kernel_rfl) (by kernel_rfl) (fun _ _ _ h=>h) (Held.load1 rfl 9 (.tmp 27) rfl (w.heap.size + 1) 0 rfl _ _ CQ0.out Tryz.underlying9 rfl) hS3 ?_
   simp only [Act.put,List.getElem_toArray,List.getElem_cons_zero,List.getElem_cons_succ,List.setIfInBounds_toArray,List.set_cons_zero,List.set_cons_succ]
   refine wpAnyH_all (rs:=[18]) (by kernel_rfl) (by simp) ?_
   intro i hi
   obtain rfl:=List.mem_singleton.1 hi
   refine Reg.wpOp_list rfl ?_
   go_wp2_with fail
   change _ ∧ _
   refine ⟨hS3,?_⟩
   refine wpAnyH_all (rs:=[19]) (by kernel_rfl) (by simp) ?_
   intro i hi
   obtain rfl:=List.mem_singleton.1 hi
   refine Reg.wpOp_list rfl ?_
   go_wp2_with fail
   change _ ∧ _
   refine ⟨hS3,?_⟩
   refine wpAnyH_take (i:=20) (v:=.agg [.string (S p.nm),.string (S p.vs),.slice x1 nx1 cx1,.slice x2 nx2 cx2,.slice x3 nx3 cx3,.slice x4 nx4 cx4,.slice x5 nx5 cx5,.slice x6 nx6 cx6,.bool p.ess].toArray) rfl (by kernel_rfl) (by kernel_rfl) (by kernel_rfl) (fun _ _ _ h=>h) (yieldsIf_load_mid rfl 26 (.tmp 2) rfl w.heap.size 0 rfl _ _ KP2.out Tryz.underlying26 rfl Z9.out) hS3 ?_
   simp only [Act.put,List.getElem_toArray,List.getElem_cons_zero,List.getElem_cons_succ,List.setIfInBounds_toArray,List.set_cons_zero,List.set_cons_succ]
   refine wpAnyH_take (i:=21) (v:=.agg [.string (S q.nm),.string (S q.vs),.slice y1 ny1 cy1,.slice y2 ny2 cy2,.slice y3 ny3 cy3,.slice y4 ny4 cy4,.slice y5 ny5 cy5,.slice y6 ny6 cy6,.bool q.ess].toArray) rfl (by kernel_rfl) (by kernel_rfl) (by kernel_rfl) (fun _ _ _ h=>h) (yieldsIf_load_mid rfl 26 (.tmp 3) rfl (w.heap.size + 1) 0 rfl _ _ KQ2.out Tryz.underlying26 rfl Z9.out) hS3 ?_
   simp only [Act.put,List.getElem_toArray,List.getElem_cons_zero,List.getElem_cons_succ,List.setIfInBounds_toArray,List.set_cons_zero,List.set_cons_succ]
   have cx:=clash_any _ _ p q u3 (PP2.out _ hS3) (PQ2.out _ hS3) LP.out LQ.out (GV2.out.on hS3)
   rw [clash_nm HN.out] at cx
   refine wpAnyH_all (rs:=[22]) (by kernel_rfl) (by simp) ?_
   intro i hi
   obtain rfl:=List.mem_singleton.1 hi
   refine Reg.wpOp_list rfl ?_
   go_wp2_with fail
   refine cx.mono ?_
   rintro e u4 ⟨rfl,k4⟩
   go_wp2_with fail
   change _ ∧ _
   have hS4:Below w1.heap.size w1 u4:=hS3.trans (k4.mono hS3.size)
   refine ⟨hS4,?_⟩
   clear cx
   refine wpAnyH_all (rs:=[23]) (by kernel_rfl) (by simp) ?_
   intro i hi
   obtain rfl:=List.mem_singleton.1 hi
   refine Reg.wpOp_list rfl ?_
   go_wp2_with fail
   change _ ∧ _
   refine ⟨hS4,?_⟩
   refine wpAnyH_all (rs:=[24]) (by kernel_rfl) (by simp) ?_
   intro i hi
   obtain rfl:=List.mem_singleton.1 hi
   refine Reg.wpOp_list rfl ?_
   go_wp2_with fail
   change _ ∧ _
   refine ⟨hS4,?_⟩
   refine wpAnyH_all (rs:=[25]) (by kernel_rfl) (by simp) ?_
   intro i hi
   obtain rfl:=List.mem_singleton.1 hi
   refine Reg.wpOp_list rfl ?_
   go_wp2_with fail
   change _ ∧ _
   refine ⟨hS4,?_⟩
   refine wpAnyH_all (rs:=[26]) (by kernel_rfl) (by simp) ?_
   intro i hi
   obtain rfl:=List.mem_singleton.1 hi
   refine Reg.wpOp_list rfl ?_
   go_wp2_with fail
   change _ ∧ _
   refine ⟨hS4,?_⟩
   have cx:=awake_any u4 (GV2.out.on hS4)
   refine wpAnyH_all (rs:=[27]) (by kernel_rfl) (by simp) ?_
   intro i hi
   obtain rfl:=List.mem_singleton.1 hi
   refine Reg.wpOp_list rfl ?_
   go_wp2_with fail
   refine cx.mono ?_
   rintro e u5 ⟨rfl,k5⟩
   go_wp2_with fail
   change _ ∧ _
   have hS5:Below w1.heap.size w1 u5:=hS4.trans (k5.mono hS4.size)
   refine ⟨hS5,?_⟩
   clear cx
   refine wpAnyH_all (rs:=[28]) (by kernel_rfl) (by simp) ?_
   intro i hi
   obtain rfl:=List.mem_singleton.1 hi
   refine Reg.wpOp_list rfl ?_
   go_wp2_with fail
   change _ ∧ _
   refine ⟨hS5,?_⟩
   refine wpAnyH_all (rs:=[29]) (by kernel_rfl) (by simp) ?_
   intro i hi
   obtain rfl:=List.mem_singleton.1 hi
   refine Reg.wpOp_list rfl ?_
   go_wp2_with fail
   change _ ∧ _
   refine ⟨hS5,?_⟩
   refine wpAnyH_done (by kernel_rfl) ?_ _
   have hbz:=HB.out.trans ((B1.out.trans (hS5.mono B1.out.size)).mono HB.out.size)
   clear hS0 hS1 hS2 hS3 hS4 hS5
   go_wp2_with fail
   go_ret
   exact ⟨rfl,hbz⟩
end Ix
end Go.Proofs.YtelofmeapplfpaaGreatDoor

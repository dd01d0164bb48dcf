/-
The law IndexMeets.
-/
import Derived.Test.YtelofmeapplfpaaGreatDoorAIxClash
import Derived.Test.YtelofmeapplfpaaGreatDoorAIxYClash
import Derived.Test.YtelofmeapplfpaaGreatDoorAIxLit
import Derived.Test.YtelofmeapplfpaaGreatDoorARelArgs
import Derived.Test.YtelofmeapplfpaaGreatDoorARelJoin
import Derived.Test.YtelofmeapplfpaaGreatDoorARecMay3
import Derived.OrdersHeld
import Derived.Deep.MidRow
namespace Go.Proofs.YtelofmeapplfpaaGreatDoor
open Go.RowKit
set_option linter.unusedSimpArgs false
set_option linter.unusedVariables false
namespace Ix
open Ver (Bs S)
open Rl (At Pv Vars aV)
open Rc (Pk nPk Pks PkV PkC Has)
set_option maxRecDepth 100000 in
set_option maxHeartbeats 16000000 in
theorem meets_walk (v1 v2:Value) (p q:Pk) (a:At) (w:World) (h1:PkV w v1 p) (h2:PkV w v2 q) (l1:p.Lim) (l2:q.Lim) (ha:LimAt a) (hv:Vars w) :
  Calls Tryz.prog 3 #[v1,v2,aV a] w fun e w'=>e = .returned (.bool true) ∧ Below w.heap.size w w':=by
 obtain ⟨u1,u2,u3,u4,u5,u6,rfl,hp⟩:=h1
 obtain ⟨z1,z2,z3,z4,z5,z6,rfl,hq⟩:=h2
 obtain ⟨x1,cx1,ex1⟩:=hp.pre.shape
 generalize nx1h:p.pre.length = nx1 at ex1
 clear nx1h
 obtain ⟨x2,cx2,ex2⟩:=hp.dep.shape
 generalize nx2h:p.dep.length = nx2 at ex2
 clear nx2h
 obtain ⟨x3,cx3,ex3⟩:=hp.rcm.shape
 generalize nx3h:p.rcm.length = nx3 at ex3
 clear nx3h
 obtain ⟨x4,cx4,ex4⟩:=hp.con.shape
 generalize nx4h:p.con.length = nx4 at ex4
 clear nx4h
 obtain ⟨x5,cx5,ex5⟩:=hp.brk.shape
 generalize nx5h:p.brk.length = nx5 at ex5
 clear nx5h
 obtain ⟨x6,cx6,ex6⟩:=hp.prv.shape
 generalize nx6h:p.prv.length = nx6 at ex6
 clear nx6h
 obtain ⟨y1,cy1,ey1⟩:=hq.pre.shape
 generalize ny1h:q.pre.length = ny1 at ey1
 clear ny1h
 obtain ⟨y2,cy2,ey2⟩:=hq.dep.shape
 generalize ny2h:q.dep.length = ny2 at ey2
 clear ny2h
 obtain ⟨y3,cy3,ey3⟩:=hq.rcm.shape
 generalize ny3h:q.rcm.length = ny3 at ey3
 clear ny3h
 obtain ⟨y4,cy4,ey4⟩:=hq.con.shape
 generalize ny4h:q.con.length = ny4 at ey4
 clear ny4h
 obtain ⟨y5,cy5,ey5⟩:=hq.brk.shape
 generalize ny5h:q.brk.length = ny5 at ey5
 clear ny5h
 obtain ⟨y6,cy6,ey6⟩:=hq.prv.shape
 generalize ny6h:q.prv.length = ny6 at ey6
 clear ny6h
 subst ex1 ex2 ex3 ex4 ex5 ex6 ey1 ey2 ey3 ey4 ey5 ey6
 have hb1:=(Below.refl w.heap.size w).alloc (Nat.le_refl _) (.cells #[.string (S p.nm),.string (S p.vs),.slice x1 nx1 cx1,.slice x2 nx2 cx2,.slice x3 nx3 cx3,.slice x4 nx4 cx4,.slice x5 nx5 cx5,.slice x6 nx6 cx6,.bool p.ess] 26)
 have i1:=Blk.Is.new w 26 #[.string (S p.nm),.string (S p.vs),.slice x1 nx1 cx1,.slice x2 nx2 cx2,.slice x3 nx3 cx3,.slice x4 nx4 cx4,.slice x5 nx5 cx5,.slice x6 nx6 cx6,.bool p.ess]
 have s1:(w.alloc (.cells #[.string (S p.nm),.string (S p.vs),.slice x1 nx1 cx1,.slice x2 nx2 cx2,.slice x3 nx3 cx3,.slice x4 nx4 cx4,.slice x5 nx5 cx5,.slice x6 nx6 cx6,.bool p.ess] 26)).heap.size = w.heap.size + 1:=by simp
 have hb2:=hb1.alloc hb1.size (.cells #[.string (S q.nm),.string (S q.vs),.slice y1 ny1 cy1,.slice y2 ny2 cy2,.slice y3 ny3 cy3,.slice y4 ny4 cy4,.slice y5 ny5 cy5,.slice y6 ny6 cy6,.bool q.ess] 26)
 have i2:=Blk.Is.new (w.alloc (.cells #[.string (S p.nm),.string (S p.vs),.slice x1 nx1 cx1,.slice x2 nx2 cx2,.slice x3 nx3 cx3,.slice x4 nx4 cx4,.slice x5 nx5 cx5,.slice x6 nx6 cx6,.bool p.ess] 26)) 26 #[.string (S q.nm),.string (S q.vs),.slice y1 ny1 cy1,.slice y2 ny2 cy2,.slice y3 ny3 cy3,.slice y4 ny4 cy4,.slice y5 ny5 cy5,.slice y6 ny6 cy6,.bool q.ess]
 rw [s1] at i2
 have i1':=i1.alloc (.cells #[.string (S q.nm),.string (S q.vs),.slice y1 ny1 cy1,.slice y2 ny2 cy2,.slice y3 ny3 cy3,.slice y4 ny4 cy4,.slice y5 ny5 cy5,.slice y6 ny6 cy6,.bool q.ess] 26)
 have s2:((w.alloc (.cells #[.string (S p.nm),.string (S p.vs),.slice x1 nx1 cx1,.slice x2 nx2 cx2,.slice x3 nx3 cx3,.slice x4 nx4 cx4,.slice x5 nx5 cx5,.slice x6 nx6 cx6,.bool p.ess] 26)).alloc (.cells #[.string (S q.nm),.string (S q.vs),.slice y1 ny1 cy1,.slice y2 ny2 cy2,.slice y3 ny3 cy3,.slice y4 ny4 cy4,.slice y5 ny5 cy5,.slice y6 ny6 cy6,.bool q.ess] 26)).heap.size = w.heap.size + 2:=by simp
 have hb3:=hb2.alloc hb2.size (.cells #[.string (S a.1),.int .i64 a.2.1,.string (S a.2.2)] 28)
 have i3:=Blk.Is.new ((w.alloc (.cells #[.string (S p.nm),.string (S p.vs),.slice x1 nx1 cx1,.slice x2 nx2 cx2,.slice x3 nx3 cx3,.slice x4 nx4 cx4,.slice x5 nx5 cx5,.slice x6 nx6 cx6,.bool p.ess] 26)).alloc (.cells #[.string (S q.nm),.string (S q.vs),.slice y1 ny1 cy1,.slice y2 ny2 cy2,.slice y3 ny3 cy3,.slice y4 ny4 cy4,.slice y5 ny5 cy5,.slice y6 ny6 cy6,.bool q.ess] 26)) 28 #[.string (S a.1),.int .i64 a.2.1,.string (S a.2.2)]
 rw [s2] at i3
 have i2':=i2.alloc (.cells #[.string (S a.1),.int .i64 a.2.1,.string (S a.2.2)] 28)
 have i1'':=i1'.alloc (.cells #[.string (S a.1),.int .i64 a.2.1,.string (S a.2.2)] 28)
 obtain ⟨W,hW⟩:∃ W,((w.alloc (.cells #[.string (S p.nm),.string (S p.vs),.slice x1 nx1 cx1,.slice x2 nx2 cx2,.slice x3 nx3 cx3,.slice x4 nx4 cx4,.slice x5 nx5 cx5,.slice x6 nx6 cx6,.bool p.ess] 26)).alloc (.cells #[.string (S q.nm),.string (S q.vs),.slice y1 ny1 cy1,.slice y2 ny2 cy2,.slice y3 ny3 cy3,.slice y4 ny4 cy4,.slice y5 ny5 cy5,.slice y6 ny6 cy6,.bool q.ess] 26)).alloc (.cells #[.string (S a.1),.int .i64 a.2.1,.string (S a.2.2)] 28) = W:=⟨_,rfl⟩
 rw [hW] at hb3 i3 i2' i1''
 have KP:Hid (∀ u,Below W.heap.size W u → u.rangeAt w.heap.size 0 [.string (S p.nm),.string (S p.vs),.slice x1 nx1 cx1,.slice x2 nx2 cx2,.slice x3 nx3 cx3,.slice x4 nx4 cx4,.slice x5 nx5 cx5,.slice x6 nx6 cx6,.bool p.ess]):=Lib.hid fun u hu=>range_of (Rl.is_on i1'' hu)
 have KQ:Hid (∀ u,Below W.heap.size W u → u.rangeAt (w.heap.size + 1) 0 [.string (S q.nm),.string (S q.vs),.slice y1 ny1 cy1,.slice y2 ny2 cy2,.slice y3 ny3 cy3,.slice y4 ny4 cy4,.slice y5 ny5 cy5,.slice y6 ny6 cy6,.bool q.ess]):=Lib.hid fun u hu=>range_of (Rl.is_on i2' hu)
 have IP:=Lib.hid i1''
 have IQ:=Lib.hid i2'
 have KA:Hid (∀ u,Below W.heap.size W u → u.rangeAt (w.heap.size + 2) 0 [.string (S a.1),.int .i64 a.2.1,.string (S a.2.2)]):=Lib.hid fun u hu=>range_of (Rl.is_on i3 hu)
 have LA:=Lib.hid ha
 have HP:=Lib.hid (hp.below hb3)
 have HQ:=Lib.hid (hq.below hb3)
 have PP:Hid (∀ u,Below W.heap.size W u → PkV u (.agg #[.string (S p.nm),.string (S p.vs),.slice x1 nx1 cx1,.slice x2 nx2 cx2,.slice x3 nx3 cx3,.slice x4 nx4 cx4,.slice x5 nx5 cx5,.slice x6 nx6 cx6,.bool p.ess]) p):=Lib.hid fun u hu=>⟨_,_,_,_,_,_,rfl,HP.out.below hu⟩
 have PQ:Hid (∀ u,Below W.heap.size W u → PkV u (.agg #[.string (S q.nm),.string (S q.vs),.slice y1 ny1 cy1,.slice y2 ny2 cy2,.slice y3 ny3 cy3,.slice y4 ny4 cy4,.slice y5 ny5 cy5,.slice y6 ny6 cy6,.bool q.ess]) q):=Lib.hid fun u hu=>⟨_,_,_,_,_,_,rfl,HQ.out.below hu⟩
 have z9:(Tryz.prog.info? 26).map (·.size) = some 9:=by kernel_rfl
 have z3:(Tryz.prog.info? 28).map (·.size) = some 3:=by kernel_rfl
 have Z9:=Lib.hid z9
 have Z3:=Lib.hid z3
 have LP:=Lib.hid l1
 have LQ:=Lib.hid l2
 have HB:=Lib.hid hb3
 have GV:=Lib.hid (hv.on hb3)
 obtain ⟨T,hT⟩:∃ T,sat p a = T:=⟨_,rfl⟩
 obtain ⟨C,hC⟩:∃ C,clash p q = C:=⟨_,rfl⟩
 have HT:=Lib.hid hT
 have HC:=Lib.hid hC
 have htt:(T == T) = true:=by simp
 have hcc:(C == C) = true:=by simp
 clear hp hq hb1 i1 s1 hb2 i2 i1' s2 z9 z3 l1 l2 hv hb3 i3 i2' i1'' ha hT hC
 unfold aV
 obtain ⟨b1,hb1⟩:∃ b1,Rc.lightB [p,q] = b1:=⟨_,rfl⟩
 have HL:=Lib.hid hb1
 clear hb1
 cases b1 with
 | false =>
  go_enter Tryz.func3,Tryz.ntmps3
  go_upto_region 1 with fail
  clear hW
  refine wp_region_held (S:=fun u=>Below W.heap.size W u) (by kernel_rfl) ?_
  have hS0:Below W.heap.size W W.drew:=(Below.refl _ _).drew
  change wpAnyH _ _ _ _ _ 27 _ _ W.drew
  generalize W.drew = u0 at *
  refine wpAnyH_take (i:=0) (v:=.agg [.string (S p.nm),.string (S p.vs),.slice x1 nx1 cx1,.slice x2 nx2 cx2,.slice x3 nx3 cx3,.slice x4 nx4 cx4,.slice x5 nx5 cx5,.slice x6 nx6 cx6,.bool p.ess].toArray) rfl (by kernel_rfl) (by kernel_rfl) (by kernel_rfl) (fun _ _ _ h=>h) (yieldsIf_load_mid rfl 26 (.tmp 3) rfl w.heap.size 0 rfl _ _ KP.out Tryz.underlying26 rfl Z9.out) hS0 ?_
  simp only [Act.put,List.getElem_toArray,List.getElem_cons_zero,List.getElem_cons_succ,List.setIfInBounds_toArray,List.set_cons_zero,List.set_cons_succ]
  refine wpAnyH_take (i:=1) (v:=.agg [.string (S q.nm),.string (S q.vs),.slice y1 ny1 cy1,.slice y2 ny2 cy2,.slice y3 ny3 cy3,.slice y4 ny4 cy4,.slice y5 ny5 cy5,.slice y6 ny6 cy6,.bool q.ess].toArray) rfl (by kernel_rfl) (by kernel_rfl) (by kernel_rfl) (fun _ _ _ h=>h) (yieldsIf_load_mid rfl 26 (.tmp 4) rfl (w.heap.size + 1) 0 rfl _ _ KQ.out Tryz.underlying26 rfl Z9.out) hS0 ?_
  simp only [Act.put,List.getElem_toArray,List.getElem_cons_zero,List.getElem_cons_succ,List.setIfInBounds_toArray,List.set_cons_zero,List.set_cons_succ]
  have hpv:=(HP.out.below hS0)
  have hqv:=(HQ.out.below hS0)
  obtain ⟨hbl,hpk⟩:=pks_two u0 p q (.slice x1 nx1 cx1) (.slice x2 nx2 cx2) (.slice x3 nx3 cx3) (.slice x4 nx4 cx4) (.slice x5 nx5 cx5) (.slice x6 nx6 cx6) (.slice y1 ny1 cy1) (.slice y2 ny2 cy2) (.slice y3 ny3 cy3) (.slice y4 ny4 cy4) (.slice y5 ny5 cy5) (.slice y6 ny6 cy6) hpv hqv
  obtain ⟨u1,hu1⟩:∃ u1,u0.alloc (.cells #[.string (S p.nm),.string (S p.vs),.slice x1 nx1 cx1,.slice x2 nx2 cx2,.slice x3 nx3 cx3,.slice x4 nx4 cx4,.slice x5 nx5 cx5,.slice x6 nx6 cx6,.bool p.ess,.string (S q.nm),.string (S q.vs),.slice y1 ny1 cy1,.slice y2 ny2 cy2,.slice y3 ny3 cy3,.slice y4 ny4 cy4,.slice y5 ny5 cy5,.slice y6 ny6 cy6,.bool q.ess] 26) = u1:=⟨_,rfl⟩
  rw [hu1] at hbl hpk
  have hS1:Below W.heap.size W u1:=hS0.trans (hbl.mono hS0.size)
  have HPK:=Lib.hid hpk
  clear hpv hqv hbl hpk
  refine wpAnyH_all (rs:=[2]) (by kernel_rfl) (by simp) ?_
  intro i hi
  obtain rfl:=List.mem_singleton.1 hi
  refine Reg.wpOp_list rfl ?_
  go_wp2_with fail
  change _ ∧ _
  refine ⟨hS1,?_⟩
  clear hu1
  have cx:=Rc.light_any _ [p,q] u1 HPK.out
  rw [HL.out] at cx
  refine wpAnyH_all (rs:=[3]) (by kernel_rfl) (by simp) ?_
  intro i hi
  obtain rfl:=List.mem_singleton.1 hi
  refine Reg.wpOp_list rfl ?_
  go_wp2_with fail
  refine cx.mono ?_
  rintro e u2 ⟨rfl,k2⟩
  go_wp2_with fail
  change _ ∧ _
  have hS2:Below W.heap.size W u2:=hS1.trans (k2.mono hS1.size)
  refine ⟨hS2,?_⟩
  clear cx
  refine wpAnyH_all (rs:=[4]) (by kernel_rfl) (by simp) ?_
  intro i hi
  obtain rfl:=List.mem_singleton.1 hi
  refine Reg.wpOp_list rfl ?_
  go_wp2_with fail
  change _ ∧ _
  refine ⟨hS2,?_⟩
  refine wpAnyH_all (rs:=[5]) (by kernel_rfl) (by simp) ?_
  intro i hi
  obtain rfl:=List.mem_singleton.1 hi
  refine Reg.wpOp_list rfl ?_
  go_wp2_with fail
  change _ ∧ _
  refine ⟨hS2,?_⟩
  refine wpAnyH_take (i:=6) (v:=undef) rfl (by kernel_rfl) (by kernel_rfl) (by kernel_rfl) (fun _ _ _ h=>h) (.inr ⟨by kernel_rfl,rfl⟩) hS2 ?_
  simp only [Act.put,List.getElem_toArray,List.getElem_cons_zero,List.getElem_cons_succ,List.setIfInBounds_toArray,List.set_cons_zero,List.set_cons_succ]
  refine wpAnyH_take (i:=7) (v:=undef) rfl (by kernel_rfl) (by kernel_rfl) (by kernel_rfl) (fun _ _ _ h=>h) (.inr ⟨by kernel_rfl,rfl⟩) hS2 ?_
  simp only [Act.put,List.getElem_toArray,List.getElem_cons_zero,List.getElem_cons_succ,List.setIfInBounds_toArray,List.set_cons_zero,List.set_cons_succ]
  refine wpAnyH_take (i:=8) (v:=undef) rfl (by kernel_rfl) (by kernel_rfl) (by kernel_rfl) (fun _ _ _ h=>h) (.inr ⟨by kernel_rfl,rfl⟩) hS2 ?_
  simp only [Act.put,List.getElem_toArray,List.getElem_cons_zero,List.getElem_cons_succ,List.setIfInBounds_toArray,List.set_cons_zero,List.set_cons_succ]
  refine wpAnyH_take (i:=9) (v:=undef) rfl (by kernel_rfl) (by kernel_rfl) (by kernel_rfl) (fun _ _ _ h=>h) (.inr ⟨by kernel_rfl,rfl⟩) hS2 ?_
  simp only [Act.put,List.getElem_toArray,List.getElem_cons_zero,List.getElem_cons_succ,List.setIfInBounds_toArray,List.set_cons_zero,List.set_cons_succ]
  refine wpAnyH_take (i:=10) (v:=undef) rfl (by kernel_rfl) (by kernel_rfl) (by kernel_rfl) (fun _ _ _ h=>h) (.inr ⟨by kernel_rfl,rfl⟩) hS2 ?_
  simp only [Act.put,List.getElem_toArray,List.getElem_cons_zero,List.getElem_cons_succ,List.setIfInBounds_toArray,List.set_cons_zero,List.set_cons_succ]
  refine wpAnyH_take (i:=11) (v:=undef) rfl (by kernel_rfl) (by kernel_rfl) (by kernel_rfl) (fun _ _ _ h=>h) (.inr ⟨by kernel_rfl,rfl⟩) hS2 ?_
  simp only [Act.put,List.getElem_toArray,List.getElem_cons_zero,List.getElem_cons_succ,List.setIfInBounds_toArray,List.set_cons_zero,List.set_cons_succ]
  refine wpAnyH_take (i:=12) (v:=undef) rfl (by kernel_rfl) (by kernel_rfl) (by kernel_rfl) (fun _ _ _ h=>h) (.inr ⟨by kernel_rfl,rfl⟩) hS2 ?_
  simp only [Act.put,List.getElem_toArray,List.getElem_cons_zero,List.getElem_cons_succ,List.setIfInBounds_toArray,List.set_cons_zero,List.set_cons_succ]
  refine wpAnyH_take (i:=13) (v:=undef) rfl (by kernel_rfl) (by kernel_rfl) (by kernel_rfl) (fun _ _ _ h=>h) (.inr ⟨by kernel_rfl,rfl⟩) hS2 ?_
  simp only [Act.put,List.getElem_toArray,List.getElem_cons_zero,List.getElem_cons_succ,List.setIfInBounds_toArray,List.set_cons_zero,List.set_cons_succ]
  refine wpAnyH_take (i:=14) (v:=undef) rfl (by kernel_rfl) (by kernel_rfl) (by kernel_rfl) (fun _ _ _ h=>h) (.inr ⟨by kernel_rfl,rfl⟩) hS2 ?_
  simp only [Act.put,List.getElem_toArray,List.getElem_cons_zero,List.getElem_cons_succ,List.setIfInBounds_toArray,List.set_cons_zero,List.set_cons_succ]
  refine wpAnyH_take (i:=15) (v:=undef) rfl (by kernel_rfl) (by kernel_rfl) (by kernel_rfl) (fun _ _ _ h=>h) (.inr ⟨by kernel_rfl,rfl⟩) hS2 ?_
  simp only [Act.put,List.getElem_toArray,List.getElem_cons_zero,List.getElem_cons_succ,List.setIfInBounds_toArray,List.set_cons_zero,List.set_cons_succ]
  refine wpAnyH_take (i:=16) (v:=undef) rfl (by kernel_rfl) (by kernel_rfl) (by kernel_rfl) (fun _ _ _ h=>h) (.inr ⟨by kernel_rfl,rfl⟩) hS2 ?_
  simp only [Act.put,List.getElem_toArray,List.getElem_cons_zero,List.getElem_cons_succ,List.setIfInBounds_toArray,List.set_cons_zero,List.set_cons_succ]
  refine wpAnyH_take (i:=17) (v:=undef) rfl (by kernel_rfl) (by kernel_rfl) (by kernel_rfl) (fun _ _ _ h=>h) (.inr ⟨by kernel_rfl,rfl⟩) hS2 ?_
  simp only [Act.put,List.getElem_toArray,List.getElem_cons_zero,List.getElem_cons_succ,List.setIfInBounds_toArray,List.set_cons_zero,List.set_cons_succ]
  refine wpAnyH_take (i:=18) (v:=undef) rfl (by kernel_rfl) (by kernel_rfl) (by kernel_rfl) (fun _ _ _ h=>h) (.inr ⟨by kernel_rfl,rfl⟩) hS2 ?_
  simp only [Act.put,List.getElem_toArray,List.getElem_cons_zero,List.getElem_cons_succ,List.setIfInBounds_toArray,List.set_cons_zero,List.set_cons_succ]
  refine wpAnyH_take (i:=19) (v:=undef) rfl (by kernel_rfl) (by kernel_rfl) (by kernel_rfl) (fun _ _ _ h=>h) (.inr ⟨by kernel_rfl,rfl⟩) hS2 ?_
  simp only [Act.put,List.getElem_toArray,List.getElem_cons_zero,List.getElem_cons_succ,List.setIfInBounds_toArray,List.set_cons_zero,List.set_cons_succ]
  refine wpAnyH_take (i:=20) (v:=undef) rfl (by kernel_rfl) (by kernel_rfl) (by kernel_rfl) (fun _ _ _ h=>h) (.inr ⟨by kernel_rfl,rfl⟩) hS2 ?_
  simp only [Act.put,List.getElem_toArray,List.getElem_cons_zero,List.getElem_cons_succ,List.setIfInBounds_toArray,List.set_cons_zero,List.set_cons_succ]
  refine wpAnyH_take (i:=21) (v:=undef) rfl (by kernel_rfl) (by kernel_rfl) (by kernel_rfl) (fun _ _ _ h=>h) (.inr ⟨by kernel_rfl,rfl⟩) hS2 ?_
  simp only [Act.put,List.getElem_toArray,List.getElem_cons_zero,List.getElem_cons_succ,List.setIfInBounds_toArray,List.set_cons_zero,List.set_cons_succ]
  refine wpAnyH_take (i:=22) (v:=undef) rfl (by kernel_rfl) (by kernel_rfl) (by kernel_rfl) (fun _ _ _ h=>h) (.inr ⟨by kernel_rfl,rfl⟩) hS2 ?_
  simp only [Act.put,List.getElem_toArray,List.getElem_cons_zero,List.getElem_cons_succ,List.setIfInBounds_toArray,List.set_cons_zero,List.set_cons_succ]
  refine wpAnyH_take (i:=23) (v:=undef) rfl (by kernel_rfl) (by kernel_rfl) (by kernel_rfl) (fun _ _ _ h=>h) (.inr ⟨by kernel_rfl,rfl⟩) hS2 ?_
  simp only [Act.put,List.getElem_toArray,List.getElem_cons_zero,List.getElem_cons_succ,List.setIfInBounds_toArray,List.set_cons_zero,List.set_cons_succ]
  refine wpAnyH_take (i:=24) (v:=undef) rfl (by kernel_rfl) (by kernel_rfl) (by kernel_rfl) (fun _ _ _ h=>h) (.inr ⟨by kernel_rfl,rfl⟩) hS2 ?_
  simp only [Act.put,List.getElem_toArray,List.getElem_cons_zero,List.getElem_cons_succ,List.setIfInBounds_toArray,List.set_cons_zero,List.set_cons_succ]
  refine wpAnyH_all (rs:=[25]) (by kernel_rfl) (by simp) ?_
  intro i hi
  obtain rfl:=List.mem_singleton.1 hi
  refine Reg.wpOp_list rfl ?_
  go_wp2_with fail
  change _ ∧ _
  refine ⟨hS2,?_⟩
  refine wpAnyH_all (rs:=[26]) (by kernel_rfl) (by simp) ?_
  intro i hi
  obtain rfl:=List.mem_singleton.1 hi
  refine Reg.wpOp_list rfl ?_
  go_wp2_with fail
  change _ ∧ _
  refine ⟨hS2,?_⟩
  refine wpAnyH_done (by kernel_rfl) ?_ _
  have hbz:=HB.out.trans (hS2.mono HB.out.size)
  clear hS0 hS1 hS2
  go_wp2_with fail
  go_ret
  exact ⟨rfl,hbz⟩
 | true =>
  go_enter Tryz.func3,Tryz.ntmps3
  go_upto_region 1 with fail
  clear hW
  refine wp_region_held (S:=fun u=>Below W.heap.size W u) (by kernel_rfl) ?_
  have hS0:Below W.heap.size W W.drew:=(Below.refl _ _).drew
  change wpAnyH _ _ _ _ _ 27 _ _ W.drew
  generalize W.drew = u0 at *
  refine wpAnyH_take (i:=0) (v:=.agg [.string (S p.nm),.string (S p.vs),.slice x1 nx1 cx1,.slice x2 nx2 cx2,.slice x3 nx3 cx3,.slice x4 nx4 cx4,.slice x5 nx5 cx5,.slice x6 nx6 cx6,.bool p.ess].toArray) rfl (by kernel_rfl) (by kernel_rfl) (by kernel_rfl) (fun _ _ _ h=>h) (yieldsIf_load_mid rfl 26 (.tmp 3) rfl w.heap.size 0 rfl _ _ KP.out Tryz.underlying26 rfl Z9.out) hS0 ?_
  simp only [Act.put,List.getElem_toArray,List.getElem_cons_zero,List.getElem_cons_succ,List.setIfInBounds_toArray,List.set_cons_zero,List.set_cons_succ]
  refine wpAnyH_take (i:=1) (v:=.agg [.string (S q.nm),.string (S q.vs),.slice y1 ny1 cy1,.slice y2 ny2 cy2,.slice y3 ny3 cy3,.slice y4 ny4 cy4,.slice y5 ny5 cy5,.slice y6 ny6 cy6,.bool q.ess].toArray) rfl (by kernel_rfl) (by kernel_rfl) (by kernel_rfl) (fun _ _ _ h=>h) (yieldsIf_load_mid rfl 26 (.tmp 4) rfl (w.heap.size + 1) 0 rfl _ _ KQ.out Tryz.underlying26 rfl Z9.out) hS0 ?_
  simp only [Act.put,List.getElem_toArray,List.getElem_cons_zero,List.getElem_cons_succ,List.setIfInBounds_toArray,List.set_cons_zero,List.set_cons_succ]
  have hpv:=(HP.out.below hS0)
  have hqv:=(HQ.out.below hS0)
  obtain ⟨hbl,hpk⟩:=pks_two u0 p q (.slice x1 nx1 cx1) (.slice x2 nx2 cx2) (.slice x3 nx3 cx3) (.slice x4 nx4 cx4) (.slice x5 nx5 cx5) (.slice x6 nx6 cx6) (.slice y1 ny1 cy1) (.slice y2 ny2 cy2) (.slice y3 ny3 cy3) (.slice y4 ny4 cy4) (.slice y5 ny5 cy5) (.slice y6 ny6 cy6) hpv hqv
  obtain ⟨u1,hu1⟩:∃ u1,u0.alloc (.cells #[.string (S p.nm),.string (S p.vs),.slice x1 nx1 cx1,.slice x2 nx2 cx2,.slice x3 nx3 cx3,.slice x4 nx4 cx4,.slice x5 nx5 cx5,.slice x6 nx6 cx6,.bool p.ess,.string (S q.nm),.string (S q.vs),.slice y1 ny1 cy1,.slice y2 ny2 cy2,.slice y3 ny3 cy3,.slice y4 ny4 cy4,.slice y5 ny5 cy5,.slice y6 ny6 cy6,.bool q.ess] 26) = u1:=⟨_,rfl⟩
  rw [hu1] at hbl hpk
  have hS1:Below W.heap.size W u1:=hS0.trans (hbl.mono hS0.size)
  have HPK:=Lib.hid hpk
  clear hpv hqv hbl hpk
  refine wpAnyH_all (rs:=[2]) (by kernel_rfl) (by simp) ?_
  intro i hi
  obtain rfl:=List.mem_singleton.1 hi
  refine Reg.wpOp_list rfl ?_
  go_wp2_with fail
  change _ ∧ _
  refine ⟨hS1,?_⟩
  clear hu1
  have cx:=Rc.light_any _ [p,q] u1 HPK.out
  rw [HL.out] at cx
  refine wpAnyH_all (rs:=[3]) (by kernel_rfl) (by simp) ?_
  intro i hi
  obtain rfl:=List.mem_singleton.1 hi
  refine Reg.wpOp_list rfl ?_
  go_wp2_with fail
  refine cx.mono ?_
  rintro e u2 ⟨rfl,k2⟩
  go_wp2_with fail
  change _ ∧ _
  have hS2:Below W.heap.size W u2:=hS1.trans (k2.mono hS1.size)
  refine ⟨hS2,?_⟩
  clear cx
  refine wpAnyH_all (rs:=[4]) (by kernel_rfl) (by simp) ?_
  intro i hi
  obtain rfl:=List.mem_singleton.1 hi
  refine Reg.wpOp_list rfl ?_
  go_wp2_with fail
  change _ ∧ _
  refine ⟨hS2,?_⟩
  refine wpAnyH_all (rs:=[5]) (by kernel_rfl) (by simp) ?_
  intro i hi
  obtain rfl:=List.mem_singleton.1 hi
  refine Reg.wpOp_list rfl ?_
  go_wp2_with fail
  change _ ∧ _
  refine ⟨hS2,?_⟩
  refine wpAnyH_take (i:=6) (v:=.agg [.string (S p.nm),.string (S p.vs),.slice x1 nx1 cx1,.slice x2 nx2 cx2,.slice x3 nx3 cx3,.slice x4 nx4 cx4,.slice x5 nx5 cx5,.slice x6 nx6 cx6,.bool p.ess].toArray) rfl (by kernel_rfl) (by kernel_rfl) (by kernel_rfl) (fun _ _ _ h=>h) (yieldsIf_load_mid rfl 26 (.tmp 3) rfl w.heap.size 0 rfl _ _ KP.out Tryz.underlying26 rfl Z9.out) hS2 ?_
  simp only [Act.put,List.getElem_toArray,List.getElem_cons_zero,List.getElem_cons_succ,List.setIfInBounds_toArray,List.set_cons_zero,List.set_cons_succ]
  refine wpAnyH_take (i:=7) (v:=.agg [.string (S a.1),.int .i64 a.2.1,.string (S a.2.2)].toArray) rfl (by kernel_rfl) (by kernel_rfl) (by kernel_rfl) (fun _ _ _ h=>h) (yieldsIf_load_mid rfl 28 (.tmp 5) rfl (w.heap.size + 2) 0 rfl _ _ KA.out Tryz.underlying28 rfl Z3.out) hS2 ?_
  simp only [Act.put,List.getElem_toArray,List.getElem_cons_zero,List.getElem_cons_succ,List.setIfInBounds_toArray,List.set_cons_zero,List.set_cons_succ]
  refine wpAnyH_take (i:=9) (v:=.agg [.string (S p.nm),.string (S p.vs),.slice x1 nx1 cx1,.slice x2 nx2 cx2,.slice x3 nx3 cx3,.slice x4 nx4 cx4,.slice x5 nx5 cx5,.slice x6 nx6 cx6,.bool p.ess].toArray) rfl (by kernel_rfl) (by kernel_rfl) (by kernel_rfl) (fun _ _ _ h=>h) (yieldsIf_load_mid rfl 26 (.tmp 3) rfl w.heap.size 0 rfl _ _ KP.out Tryz.underlying26 rfl Z9.out) hS2 ?_
  simp only [Act.put,List.getElem_toArray,List.getElem_cons_zero,List.getElem_cons_succ,List.setIfInBounds_toArray,List.set_cons_zero,List.set_cons_succ]
  refine wpAnyH_take (i:=10) (v:=.agg [.string (S a.1),.int .i64 a.2.1,.string (S a.2.2)].toArray) rfl (by kernel_rfl) (by kernel_rfl) (by kernel_rfl) (fun _ _ _ h=>h) (yieldsIf_load_mid rfl 28 (.tmp 5) rfl (w.heap.size + 2) 0 rfl _ _ KA.out Tryz.underlying28 rfl Z3.out) hS2 ?_
  simp only [Act.put,List.getElem_toArray,List.getElem_cons_zero,List.getElem_cons_succ,List.setIfInBounds_toArray,List.set_cons_zero,List.set_cons_succ]
  have cx:=satisfies_any _ p a u2 (PP.out _ hS2) LP.out LA.out (GV.out.on hS2)
  rw [HT.out] at cx
  unfold aV at cx
  refine wpAnyH_all (rs:=[8]) (by kernel_rfl) (by simp) ?_
  intro i hi
  obtain rfl:=List.mem_singleton.1 hi
  refine Reg.wpOp_list rfl ?_
  go_wp2_with fail
  refine cx.mono ?_
  rintro e u3 ⟨rfl,k3⟩
  go_wp2_with fail
  change _ ∧ _
  have hS3:Below W.heap.size W u3:=hS2.trans (k3.mono hS2.size)
  refine ⟨hS3,?_⟩
  clear cx
  have cx:=ysat_any _ p a u3 (PP.out _ hS3) LP.out LA.out
  rw [HT.out] at cx
  unfold aV at cx
  refine wpAnyH_all (rs:=[11]) (by kernel_rfl) (by simp) ?_
  intro i hi
  obtain rfl:=List.mem_singleton.1 hi
  refine Reg.wpOp_list rfl ?_
  go_wp2_with fail
  refine cx.mono ?_
  rintro e u4 ⟨rfl,k4⟩
  go_wp2_with fail
  change _ ∧ _
  have hS4:Below W.heap.size W u4:=hS3.trans (k4.mono hS3.size)
  refine ⟨hS4,?_⟩
  clear cx
  refine wpAnyH_all (rs:=[12]) (by kernel_rfl) (by simp) ?_
  intro i hi
  obtain rfl:=List.mem_singleton.1 hi
  refine Reg.wpOp_list rfl ?_
  go_wp2_with fail
  change _ ∧ _
  refine ⟨hS4,?_⟩
  refine wpAnyH_all (rs:=[13]) (by kernel_rfl) (by simp) ?_
  intro i hi
  obtain rfl:=List.mem_singleton.1 hi
  refine Reg.wpOp_list rfl ?_
  go_wp2_with fail
  change _ ∧ _
  refine ⟨hS4,?_⟩
  refine wpAnyH_take (i:=14) (v:=.agg [.string (S p.nm),.string (S p.vs),.slice x1 nx1 cx1,.slice x2 nx2 cx2,.slice x3 nx3 cx3,.slice x4 nx4 cx4,.slice x5 nx5 cx5,.slice x6 nx6 cx6,.bool p.ess].toArray) rfl (by kernel_rfl) (by kernel_rfl) (by kernel_rfl) (fun _ _ _ h=>h) (yieldsIf_load_mid rfl 26 (.tmp 3) rfl w.heap.size 0 rfl _ _ KP.out Tryz.underlying26 rfl Z9.out) hS4 ?_
  simp only [Act.put,List.getElem_toArray,List.getElem_cons_zero,List.getElem_cons_succ,List.setIfInBounds_toArray,List.set_cons_zero,List.set_cons_succ]
  refine wpAnyH_take (i:=15) (v:=.agg [.string (S q.nm),.string (S q.vs),.slice y1 ny1 cy1,.slice y2 ny2 cy2,.slice y3 ny3 cy3,.slice y4 ny4 cy4,.slice y5 ny5 cy5,.slice y6 ny6 cy6,.bool q.ess].toArray) rfl (by kernel_rfl) (by kernel_rfl) (by kernel_rfl) (fun _ _ _ h=>h) (yieldsIf_load_mid rfl 26 (.tmp 4) rfl (w.heap.size + 1) 0 rfl _ _ KQ.out Tryz.underlying26 rfl Z9.out) hS4 ?_
  simp only [Act.put,List.getElem_toArray,List.getElem_cons_zero,List.getElem_cons_succ,List.setIfInBounds_toArray,List.set_cons_zero,List.set_cons_succ]
  refine wpAnyH_take (i:=17) (v:=.agg [.string (S p.nm),.string (S p.vs),.slice x1 nx1 cx1,.slice x2 nx2 cx2,.slice x3 nx3 cx3,.slice x4 nx4 cx4,.slice x5 nx5 cx5,.slice x6 nx6 cx6,.bool p.ess].toArray) rfl (by kernel_rfl) (by kernel_rfl) (by kernel_rfl) (fun _ _ _ h=>h) (yieldsIf_load_mid rfl 26 (.tmp 3) rfl w.heap.size 0 rfl _ _ KP.out Tryz.underlying26 rfl Z9.out) hS4 ?_
  simp only [Act.put,List.getElem_toArray,List.getElem_cons_zero,List.getElem_cons_succ,List.setIfInBounds_toArray,List.set_cons_zero,List.set_cons_succ]
  refine wpAnyH_take (i:=18) (v:=.agg [.string (S q.nm),.string (S q.vs),.slice y1 ny1 cy1,.slice y2 ny2 cy2,.slice y3 ny3 cy3,.slice y4 ny4 cy4,.slice y5 ny5 cy5,.slice y6 ny6 cy6,.bool q.ess].toArray) rfl (by kernel_rfl) (by kernel_rfl) (by kernel_rfl) (fun _ _ _ h=>h) (yieldsIf_load_mid rfl 26 (.tmp 4) rfl (w.heap.size + 1) 0 rfl _ _ KQ.out Tryz.underlying26 rfl Z9.out) hS4 ?_
  simp only [Act.put,List.getElem_toArray,List.getElem_cons_zero,List.getElem_cons_succ,List.setIfInBounds_toArray,List.set_cons_zero,List.set_cons_succ]
  have cx:=clash_any _ _ p q u4 (PP.out _ hS4) (PQ.out _ hS4) LP.out LQ.out (GV.out.on hS4)
  rw [HC.out] at cx
  refine wpAnyH_all (rs:=[16]) (by kernel_rfl) (by simp) ?_
  intro i hi
  obtain rfl:=List.mem_singleton.1 hi
  refine Reg.wpOp_list rfl ?_
  go_wp2_with fail
  refine cx.mono ?_
  rintro e u5 ⟨rfl,k5⟩
  go_wp2_with fail
  change _ ∧ _
  have hS5:Below W.heap.size W u5:=hS4.trans (k5.mono hS4.size)
  refine ⟨hS5,?_⟩
  clear cx
  have cx:=yclash_any _ _ p q u5 (PP.out _ hS5) (PQ.out _ hS5) LP.out LQ.out
  rw [HC.out] at cx
  refine wpAnyH_all (rs:=[19]) (by kernel_rfl) (by simp) ?_
  intro i hi
  obtain rfl:=List.mem_singleton.1 hi
  refine Reg.wpOp_list rfl ?_
  go_wp2_with fail
  refine cx.mono ?_
  rintro e u6 ⟨rfl,k6⟩
  go_wp2_with fail
  change _ ∧ _
  have hS6:Below W.heap.size W u6:=hS5.trans (k6.mono hS5.size)
  refine ⟨hS6,?_⟩
  clear cx
  refine wpAnyH_all (rs:=[20]) (by kernel_rfl) (by simp) ?_
  intro i hi
  obtain rfl:=List.mem_singleton.1 hi
  refine Reg.wpOp_list rfl ?_
  go_wp2_with fail
  change _ ∧ _
  refine ⟨hS6,?_⟩
  refine wpAnyH_all (rs:=[21]) (by kernel_rfl) (by simp) ?_
  intro i hi
  obtain rfl:=List.mem_singleton.1 hi
  refine Reg.wpOp_list rfl ?_
  go_wp2_with fail
  change _ ∧ _
  refine ⟨hS6,?_⟩
  refine wpAnyH_all (rs:=[22]) (by kernel_rfl) (by simp) ?_
  intro i hi
  obtain rfl:=List.mem_singleton.1 hi
  refine Reg.wpOp_list rfl ?_
  go_wp2_with fail
  change _ ∧ _
  refine ⟨hS6,?_⟩
  have cx:=awake_any u6 (GV.out.on hS6)
  refine wpAnyH_all (rs:=[23]) (by kernel_rfl) (by simp) ?_
  intro i hi
  obtain rfl:=List.mem_singleton.1 hi
  refine Reg.wpOp_list rfl ?_
  go_wp2_with fail
  refine cx.mono ?_
  rintro e u7 ⟨rfl,k7⟩
  go_wp2_with fail
  change _ ∧ _
  have hS7:Below W.heap.size W u7:=hS6.trans (k7.mono hS6.size)
  refine ⟨hS7,?_⟩
  clear cx
  refine wpAnyH_all (rs:=[24]) (by kernel_rfl) (by simp) ?_
  intro i hi
  obtain rfl:=List.mem_singleton.1 hi
  refine Reg.wpOp_list rfl ?_
  go_wp2_with fail
  change _ ∧ _
  refine ⟨hS7,?_⟩
  refine wpAnyH_all (rs:=[25]) (by kernel_rfl) (by simp) ?_
  intro i hi
  obtain rfl:=List.mem_singleton.1 hi
  refine Reg.wpOp_list rfl ?_
  go_wp2_with fail
  change _ ∧ _
  refine ⟨hS7,?_⟩
  refine wpAnyH_all (rs:=[26]) (by kernel_rfl) (by simp) ?_
  intro i hi
  obtain rfl:=List.mem_singleton.1 hi
  refine Reg.wpOp_list rfl ?_
  go_wp2_with fail
  change _ ∧ _
  refine ⟨hS7,?_⟩
  refine wpAnyH_done (by kernel_rfl) ?_ _
  have hbz:=HB.out.trans (hS7.mono HB.out.size)
  clear hS0 hS1 hS2 hS3 hS4 hS5 hS6 hS7
  go_wp2_with fail
  go_ret
  exact ⟨rfl,hbz⟩
end Ix
end Go.Proofs.YtelofmeapplfpaaGreatDoor

/-
What the fields of a package, of an entry have: ofYes, ofPackage, ofEntry. The stanza of what the fields have. What the fields of an entry have: ofEntry.
-/
import Derived.Test.YthmpepnikmdjpaaGreatDoorBRecMay
import Derived.Test.YthmpepnikmdjpaaGreatDoorBRecMay3
namespace Go.Proofs.YthmpepnikmdjpaaGreatDoor
open Go.RowKit
set_option linter.unusedSimpArgs false
set_option linter.unusedVariables false
namespace Rc
open Ver (Bs li li_len S S_self S_size S_li sameV)
open Va (Hi Vl VAt wrT)
open Rl (At Pv Ats Pvs Clss Slc LimA LimP LimC Vars nA nP mem_getD may nmB isV pvA aV pV tcells)
def yesI (b:Bool):Value:=if b = true then .iface 4 (.bool true) else .nilIface
theorem yes_at (b:Bool) (B:Nat) (w:World):VAt B w (yesI b) (yesV b):=by cases b <;> rfl
set_option maxRecDepth 100000 in
set_option maxHeartbeats 2000000 in
theorem ofYes_any (b:Bool) (w:World):Calls Tryz.prog 122 #[.bool b] w fun e w'=>e = .returned (.agg #[yesI b]) ∧ Below w.heap.size w w':=by
 have hb0:Below w.heap.size w (w.alloc (.cells #[.nilIface] 97)):=(Below.refl _ _).alloc (Nat.le_refl _) _
 have i0:=Blk.Is.new w 97 #[.nilIface]
 cases b with
 | false =>
  go_enter Tryz.func122,Tryz.ntmps122
  go_wp2_with fail
  go_returns
  exact ⟨rfl,hb0⟩
 | true =>
  have c:=Va.ofYes_any (.bool true) (w.alloc (.cells #[.nilIface] 97))
  go_enter Tryz.func122,Tryz.ntmps122
  go_wp2_with fail
  refine c.mono ?_
  rintro e w1 ⟨rfl,k1⟩
  have hb1:=hb0.trans (k1.mono hb0.size)
  have i1:=Rl.is_on i0 k1
  have c1:w1.cell? ⟨w.heap.size,0,none⟩ = some .nilIface:=i1.at (i:=0) rfl
  have f1:=i1.free 0
  have hb2:=Va.below_row hb1 (Nat.le_refl _) #[.iface 4 (.bool true)]
  have hset:w1.setCell ⟨w.heap.size,0,none⟩ (.iface 4 (.bool true)) = w1.setRow w.heap.size #[.iface 4 (.bool true)]:=setCell_eq_setRow w1 w.heap.size 0 #[.nilIface] 97 (0,0) _ i1
  have rz:=(i1.row #[.iface 4 (.bool true)]).at (i:=0) rfl
  have HS:=Lib.hid hset
  have HB:=Lib.hid hb2
  clear hb0 i0 c k1 hb1 i1 hb2 hset
  go_wp2_with fail
  rw [HS.out]
  refine bodyPost_ret (v:=.agg #[.iface 4 (.bool true)]) (by simp [results,Tryz.results122,go_sem,rz]) rfl ?_
  exact ⟨rfl,HB.out⟩
set_option maxRecDepth 100000 in
set_option maxHeartbeats 8000000 in
theorem ofPackage_any (v:Value) (p:Pk) (w:World) (h:PkV w v p) (hok:Ok p) :
  Calls Tryz.prog 68 #[v] w fun e w'=>∃ cs,e = .returned (.agg cs) ∧ Vs w.heap.size w' cs (valsP p) ∧ Below w.heap.size w w':=by
 obtain ⟨u1,u2,u3,u4,u5,u6,rfl,h1⟩:=h
 obtain ⟨W,hW,hBW,hsz,hI0,hI1⟩:=two_new w 31 99 #[.string (S p.nm),.string (S p.vs),u1,u2,u3,u4,u5,u6,.bool p.ess] nils
 unfold nils at hW
 have l3:=mayC_ok hok.pre
 have l4:=mayC_ok hok.dep
 have l5:=mayC_ok hok.rcm
 have m1:=l3.1
 have m2:=l4.1
 have m3:=l5.1
 have m4:=(mayA_ok hok.con).1
 have m5:=(mayA_ok hok.brk).1
 have m6:=(mayP_ok hok.prv).1
 have LE:=Lib.hid (⟨l3,l4,l5⟩:_ ∧ _ ∧ _)
 have HH:=Lib.hid h1
 have HBW:=Lib.hid hBW
 have I0:=Lib.hid hI0
 have I1:=Lib.hid hI1
 have hi2:(Tryz.prog.info? 99).map (·.size) = some 11:=by kernel_rfl
 clear l3 l4 l5 h1 hBW hI0 hI1 hok
 go_enter Tryz.func68,Tryz.ntmps68
 go_wp2_with fail
 refine wp_region_held (S:=fun u=>Blk.Is u w.heap.size 31 #[.string (S p.nm),.string (S p.vs),u1,u2,u3,u4,u5,u6,.bool p.ess]) (by kernel_rfl) ?_
 have hS0:=I0.out.drew
 have hB0:Below W.heap.size W W.drew:=(Below.refl _ _).drew
 change wpAnyH _ _ _ _ _ 29 _ _ W.drew
 clear I0
 generalize W.drew = x0 at *
 refine wpAnyH_take (i:=0) (v:=.pointer (some ⟨w.heap.size,0,none⟩)) rfl (by kernel_rfl) (by kernel_rfl) (by kernel_rfl) (fun _ _ _ h=>h) (.inl ⟨rfl,fun w _=>rfl⟩) hS0 ?_
 simp only [Act.put,List.getElem_toArray,List.getElem_cons_zero,List.getElem_cons_succ,List.setIfInBounds_toArray,List.set_cons_zero,List.set_cons_succ]
 refine wpAnyH_take (i:=1) (v:=.string (S p.nm)) rfl (by kernel_rfl) (by kernel_rfl) (by kernel_rfl) (fun _ _ _ h=>h) (Held.load1 rfl 9 (.tmp 3) rfl w.heap.size 0 rfl _ _ (fun u h=>h.at (i:=0) rfl) Tryz.underlying9 rfl) hS0 ?_
 simp only [Act.put,List.getElem_toArray,List.getElem_cons_zero,List.getElem_cons_succ,List.setIfInBounds_toArray,List.set_cons_zero,List.set_cons_succ]
 refine wpAnyH_take (i:=3) (v:=.pointer (some ⟨w.heap.size,1,none⟩)) rfl (by kernel_rfl) (by kernel_rfl) (by kernel_rfl) (fun _ _ _ h=>h) (.inl ⟨rfl,fun w _=>rfl⟩) hS0 ?_
 simp only [Act.put,List.getElem_toArray,List.getElem_cons_zero,List.getElem_cons_succ,List.setIfInBounds_toArray,List.set_cons_zero,List.set_cons_succ]
 refine wpAnyH_take (i:=4) (v:=.string (S p.vs)) rfl (by kernel_rfl) (by kernel_rfl) (by kernel_rfl) (fun _ _ _ h=>h) (Held.load1 rfl 9 (.tmp 6) rfl w.heap.size 1 rfl _ _ (fun u h=>h.at (i:=1) rfl) Tryz.underlying9 rfl) hS0 ?_
 simp only [Act.put,List.getElem_toArray,List.getElem_cons_zero,List.getElem_cons_succ,List.setIfInBounds_toArray,List.set_cons_zero,List.set_cons_succ]
 refine wpAnyH_take (i:=6) (v:=.pointer (some ⟨w.heap.size,8,none⟩)) rfl (by kernel_rfl) (by kernel_rfl) (by kernel_rfl) (fun _ _ _ h=>h) (.inl ⟨rfl,fun w _=>rfl⟩) hS0 ?_
 simp only [Act.put,List.getElem_toArray,List.getElem_cons_zero,List.getElem_cons_succ,List.setIfInBounds_toArray,List.set_cons_zero,List.set_cons_succ]
 refine wpAnyH_take (i:=7) (v:=.bool p.ess) rfl (by kernel_rfl) (by kernel_rfl) (by kernel_rfl) (fun _ _ _ h=>h) (Held.load1 rfl 4 (.tmp 9) rfl w.heap.size 8 rfl _ _ (fun u h=>h.at (i:=8) rfl) Tryz.underlying4 rfl) hS0 ?_
 simp only [Act.put,List.getElem_toArray,List.getElem_cons_zero,List.getElem_cons_succ,List.setIfInBounds_toArray,List.set_cons_zero,List.set_cons_succ]
 refine wpAnyH_take (i:=9) (v:=.pointer (some ⟨w.heap.size,2,none⟩)) rfl (by kernel_rfl) (by kernel_rfl) (by kernel_rfl) (fun _ _ _ h=>h) (.inl ⟨rfl,fun w _=>rfl⟩) hS0 ?_
 simp only [Act.put,List.getElem_toArray,List.getElem_cons_zero,List.getElem_cons_succ,List.setIfInBounds_toArray,List.set_cons_zero,List.set_cons_succ]
 refine wpAnyH_take (i:=10) (v:=u1) rfl (by kernel_rfl) (by kernel_rfl) (by kernel_rfl) (fun _ _ _ h=>h) (Held.load1 rfl 27 (.tmp 12) rfl w.heap.size 2 rfl _ _ (fun u h=>h.at (i:=2) rfl) Tryz.underlying27 rfl) hS0 ?_
 simp only [Act.put,List.getElem_toArray,List.getElem_cons_zero,List.getElem_cons_succ,List.setIfInBounds_toArray,List.set_cons_zero,List.set_cons_succ]
 refine wpAnyH_take (i:=12) (v:=.pointer (some ⟨w.heap.size,3,none⟩)) rfl (by kernel_rfl) (by kernel_rfl) (by kernel_rfl) (fun _ _ _ h=>h) (.inl ⟨rfl,fun w _=>rfl⟩) hS0 ?_
 simp only [Act.put,List.getElem_toArray,List.getElem_cons_zero,List.getElem_cons_succ,List.setIfInBounds_toArray,List.set_cons_zero,List.set_cons_succ]
 refine wpAnyH_take (i:=13) (v:=u2) rfl (by kernel_rfl) (by kernel_rfl) (by kernel_rfl) (fun _ _ _ h=>h) (Held.load1 rfl 27 (.tmp 15) rfl w.heap.size 3 rfl _ _ (fun u h=>h.at (i:=3) rfl) Tryz.underlying27 rfl) hS0 ?_
 simp only [Act.put,List.getElem_toArray,List.getElem_cons_zero,List.getElem_cons_succ,List.setIfInBounds_toArray,List.set_cons_zero,List.set_cons_succ]
 refine wpAnyH_take (i:=15) (v:=.pointer (some ⟨w.heap.size,4,none⟩)) rfl (by kernel_rfl) (by kernel_rfl) (by kernel_rfl) (fun _ _ _ h=>h) (.inl ⟨rfl,fun w _=>rfl⟩) hS0 ?_
 simp only [Act.put,List.getElem_toArray,List.getElem_cons_zero,List.getElem_cons_succ,List.setIfInBounds_toArray,List.set_cons_zero,List.set_cons_succ]
 refine wpAnyH_take (i:=16) (v:=u3) rfl (by kernel_rfl) (by kernel_rfl) (by kernel_rfl) (fun _ _ _ h=>h) (Held.load1 rfl 27 (.tmp 18) rfl w.heap.size 4 rfl _ _ (fun u h=>h.at (i:=4) rfl) Tryz.underlying27 rfl) hS0 ?_
 simp only [Act.put,List.getElem_toArray,List.getElem_cons_zero,List.getElem_cons_succ,List.setIfInBounds_toArray,List.set_cons_zero,List.set_cons_succ]
 refine wpAnyH_take (i:=18) (v:=.pointer (some ⟨w.heap.size,5,none⟩)) rfl (by kernel_rfl) (by kernel_rfl) (by kernel_rfl) (fun _ _ _ h=>h) (.inl ⟨rfl,fun w _=>rfl⟩) hS0 ?_
 simp only [Act.put,List.getElem_toArray,List.getElem_cons_zero,List.getElem_cons_succ,List.setIfInBounds_toArray,List.set_cons_zero,List.set_cons_succ]
 refine wpAnyH_take (i:=19) (v:=u4) rfl (by kernel_rfl) (by kernel_rfl) (by kernel_rfl) (fun _ _ _ h=>h) (Held.load1 rfl 28 (.tmp 21) rfl w.heap.size 5 rfl _ _ (fun u h=>h.at (i:=5) rfl) Tryz.underlying28 rfl) hS0 ?_
 simp only [Act.put,List.getElem_toArray,List.getElem_cons_zero,List.getElem_cons_succ,List.setIfInBounds_toArray,List.set_cons_zero,List.set_cons_succ]
 refine wpAnyH_take (i:=21) (v:=.pointer (some ⟨w.heap.size,6,none⟩)) rfl (by kernel_rfl) (by kernel_rfl) (by kernel_rfl) (fun _ _ _ h=>h) (.inl ⟨rfl,fun w _=>rfl⟩) hS0 ?_
 simp only [Act.put,List.getElem_toArray,List.getElem_cons_zero,List.getElem_cons_succ,List.setIfInBounds_toArray,List.set_cons_zero,List.set_cons_succ]
 refine wpAnyH_take (i:=22) (v:=u5) rfl (by kernel_rfl) (by kernel_rfl) (by kernel_rfl) (fun _ _ _ h=>h) (Held.load1 rfl 28 (.tmp 24) rfl w.heap.size 6 rfl _ _ (fun u h=>h.at (i:=6) rfl) Tryz.underlying28 rfl) hS0 ?_
 simp only [Act.put,List.getElem_toArray,List.getElem_cons_zero,List.getElem_cons_succ,List.setIfInBounds_toArray,List.set_cons_zero,List.set_cons_succ]
 refine wpAnyH_take (i:=24) (v:=.pointer (some ⟨w.heap.size,7,none⟩)) rfl (by kernel_rfl) (by kernel_rfl) (by kernel_rfl) (fun _ _ _ h=>h) (.inl ⟨rfl,fun w _=>rfl⟩) hS0 ?_
 simp only [Act.put,List.getElem_toArray,List.getElem_cons_zero,List.getElem_cons_succ,List.setIfInBounds_toArray,List.set_cons_zero,List.set_cons_succ]
 refine wpAnyH_take (i:=25) (v:=u6) rfl (by kernel_rfl) (by kernel_rfl) (by kernel_rfl) (fun _ _ _ h=>h) (Held.load1 rfl 29 (.tmp 27) rfl w.heap.size 7 rfl _ _ (fun u h=>h.at (i:=7) rfl) Tryz.underlying29 rfl) hS0 ?_
 simp only [Act.put,List.getElem_toArray,List.getElem_cons_zero,List.getElem_cons_succ,List.setIfInBounds_toArray,List.set_cons_zero,List.set_cons_succ]
 have cx:=Va.ofText_any (.string (S p.nm)) x0
 refine wpAnyH_all (rs:=[2]) (by kernel_rfl) (by simp) ?_
 intro i hi
 obtain rfl:=List.mem_singleton.1 hi
 refine Reg.wpOp_list rfl ?_
 go_wp2_with fail
 refine cx.mono ?_
 rintro e x1 ⟨rfl,k1⟩
 go_wp2_with fail
 change _ ∧ _
 have hS1:=Rl.is_on hS0 k1
 have hB1:=hB0.trans (k1.mono hB0.size)
 refine ⟨hS1,?_⟩
 clear cx k1
 have cx:=Va.ofText_any (.string (S p.vs)) x1
 refine wpAnyH_all (rs:=[5]) (by kernel_rfl) (by simp) ?_
 intro i hi
 obtain rfl:=List.mem_singleton.1 hi
 refine Reg.wpOp_list rfl ?_
 go_wp2_with fail
 refine cx.mono ?_
 rintro e x2 ⟨rfl,k2⟩
 go_wp2_with fail
 change _ ∧ _
 have hS2:=Rl.is_on hS1 k2
 have hB2:=hB1.trans (k2.mono hB1.size)
 refine ⟨hS2,?_⟩
 clear cx k2
 have cx:=ofYes_any p.ess x2
 refine wpAnyH_all (rs:=[8]) (by kernel_rfl) (by simp) ?_
 intro i hi
 obtain rfl:=List.mem_singleton.1 hi
 refine Reg.wpOp_list rfl ?_
 go_wp2_with fail
 refine cx.mono ?_
 rintro e x3 ⟨rfl,k3⟩
 go_wp2_with fail
 change _ ∧ _
 have hS3:=Rl.is_on hS2 k3
 have hB3:=hB2.trans (k3.mono hB2.size)
 refine ⟨hS3,?_⟩
 clear cx k3
 have cx:=Va.ofClauses_any _ p.pre x3 (HH.out.pre.below (HBW.out.trans (hB3.mono HBW.out.size))) (by omega) (fun c hc=>by have:=(LE.out.1.2 c hc); omega)
 refine wpAnyH_all (rs:=[11]) (by kernel_rfl) (by simp) ?_
 intro i hi
 obtain rfl:=List.mem_singleton.1 hi
 refine Reg.wpOp_list rfl ?_
 go_wp2_with fail
 refine cx.mono ?_
 rintro e x4 ⟨i4,rfl,s4,t4,k4⟩
 go_wp2_with fail
 change _ ∧ _
 have hS4:=Rl.is_on hS3 k4
 have hB4:=hB3.trans (k4.mono hB3.size)
 refine ⟨hS4,?_⟩
 have t4:=t4.mono hB3.size
 clear cx k4
 have cx:=Va.ofClauses_any _ p.dep x4 (HH.out.dep.below (HBW.out.trans (hB4.mono HBW.out.size))) (by omega) (fun c hc=>by have:=(LE.out.2.1.2 c hc); omega)
 refine wpAnyH_all (rs:=[14]) (by kernel_rfl) (by simp) ?_
 intro i hi
 obtain rfl:=List.mem_singleton.1 hi
 refine Reg.wpOp_list rfl ?_
 go_wp2_with fail
 refine cx.mono ?_
 rintro e x5 ⟨i5,rfl,s5,t5,k5⟩
 go_wp2_with fail
 change _ ∧ _
 have hS5:=Rl.is_on hS4 k5
 have hB5:=hB4.trans (k5.mono hB4.size)
 refine ⟨hS5,?_⟩
 have t5:=t5.mono hB4.size
 have t4:=t4.below k5
 clear cx k5
 have cx:=Va.ofClauses_any _ p.rcm x5 (HH.out.rcm.below (HBW.out.trans (hB5.mono HBW.out.size))) (by omega) (fun c hc=>by have:=(LE.out.2.2.2 c hc); omega)
 refine wpAnyH_all (rs:=[17]) (by kernel_rfl) (by simp) ?_
 intro i hi
 obtain rfl:=List.mem_singleton.1 hi
 refine Reg.wpOp_list rfl ?_
 go_wp2_with fail
 refine cx.mono ?_
 rintro e x6 ⟨i6,rfl,s6,t6,k6⟩
 go_wp2_with fail
 change _ ∧ _
 have hS6:=Rl.is_on hS5 k6
 have hB6:=hB5.trans (k6.mono hB5.size)
 refine ⟨hS6,?_⟩
 have t6:=t6.mono hB5.size
 have t4:=t4.below k6
 have t5:=t5.below k6
 clear cx k6
 have cx:=Va.ofAtoms_any _ p.con x6 (HH.out.con.below (HBW.out.trans (hB6.mono HBW.out.size))) (by omega)
 refine wpAnyH_all (rs:=[20]) (by kernel_rfl) (by simp) ?_
 intro i hi
 obtain rfl:=List.mem_singleton.1 hi
 refine Reg.wpOp_list rfl ?_
 go_wp2_with fail
 refine cx.mono ?_
 rintro e x7 ⟨i7,rfl,s7,t7,k7⟩
 go_wp2_with fail
 change _ ∧ _
 have hS7:=Rl.is_on hS6 k7
 have hB7:=hB6.trans (k7.mono hB6.size)
 refine ⟨hS7,?_⟩
 have t7:=t7.mono hB6.size
 have t4:=t4.below k7
 have t5:=t5.below k7
 have t6:=t6.below k7
 clear cx k7
 have cx:=Va.ofAtoms_any _ p.brk x7 (HH.out.brk.below (HBW.out.trans (hB7.mono HBW.out.size))) (by omega)
 refine wpAnyH_all (rs:=[23]) (by kernel_rfl) (by simp) ?_
 intro i hi
 obtain rfl:=List.mem_singleton.1 hi
 refine Reg.wpOp_list rfl ?_
 go_wp2_with fail
 refine cx.mono ?_
 rintro e x8 ⟨i8,rfl,s8,t8,k8⟩
 go_wp2_with fail
 change _ ∧ _
 have hS8:=Rl.is_on hS7 k8
 have hB8:=hB7.trans (k8.mono hB7.size)
 refine ⟨hS8,?_⟩
 have t8:=t8.mono hB7.size
 have t4:=t4.below k8
 have t5:=t5.below k8
 have t6:=t6.below k8
 have t7:=t7.below k8
 clear cx k8
 have cx:=Va.ofProvides_any _ p.prv x8 (HH.out.prv.below (HBW.out.trans (hB8.mono HBW.out.size))) (by omega)
 refine wpAnyH_all (rs:=[26]) (by kernel_rfl) (by simp) ?_
 intro i hi
 obtain rfl:=List.mem_singleton.1 hi
 refine Reg.wpOp_list rfl ?_
 go_wp2_with fail
 refine cx.mono ?_
 rintro e x9 ⟨i9,rfl,s9,t9,k9⟩
 go_wp2_with fail
 change _ ∧ _
 have hS9:=Rl.is_on hS8 k9
 have hB9:=hB8.trans (k9.mono hB8.size)
 refine ⟨hS9,?_⟩
 have t9:=t9.mono hB8.size
 have t4:=t4.below k9
 have t5:=t5.below k9
 have t6:=t6.below k9
 have t7:=t7.below k9
 have t8:=t8.below k9
 clear cx k9
 have hV:Vs W.heap.size x9 #[.iface 9 (.string (S p.nm)),.iface 9 (.string (S p.vs)),yesI p.ess,i4,i5,i6,i7,i8,i9,.nilIface,.nilIface] (valsP p):=⟨rfl,fun i hi=>by
  match i,hi with
  | 0,_=>exact ⟨_,rfl,rfl⟩
  | 1,_=>exact ⟨_,rfl,rfl⟩
  | 2,_=>exact ⟨_,rfl,yes_at _ _ _⟩
  | 3,_=>exact ⟨_,rfl,t4⟩
  | 4,_=>exact ⟨_,rfl,t5⟩
  | 5,_=>exact ⟨_,rfl,t6⟩
  | 6,_=>exact ⟨_,rfl,t7⟩
  | 7,_=>exact ⟨_,rfl,t8⟩
  | 8,_=>exact ⟨_,rfl,t9⟩
  | 9,_=>exact ⟨_,rfl,rfl⟩
  | 10,_=>exact ⟨_,rfl,rfl⟩⟩
 have hone:=one_all hV
 have V:=Lib.hid hV
 have iv:=Rl.is_on I1.out hB9
 refine wpAnyH_all (rs:=[27]) (by kernel_rfl) (by simp) ?_
 intro i hi
 obtain rfl:=List.mem_singleton.1 hi
 refine Reg.wpOp_list rfl ?_
 go_wp2_with fail
 change _ ∧ _
 refine ⟨hS9,?_⟩
 have hlt:w.heap.size + 1 < W.heap.size:=by omega
 have hSz:=hS9.rowOther (g:=w.heap.size + 1) #[.iface 9 (.string (S p.nm)),.iface 9 (.string (S p.vs)),yesI p.ess,i4,i5,i6,i7,i8,i9,.nilIface,.nilIface] (by omega)
 have hbz:Below w.heap.size w (x9.setRow (w.heap.size + 1) #[.iface 9 (.string (S p.nm)),.iface 9 (.string (S p.vs)),yesI p.ess,i4,i5,i6,i7,i8,i9,.nilIface,.nilIface]):=Va.below_row (HBW.out.trans (hB9.mono HBW.out.size)) (Nat.le_succ _) _
 have hvz:Vs w.heap.size (x9.setRow (w.heap.size + 1) #[.iface 9 (.string (S p.nm)),.iface 9 (.string (S p.vs)),yesI p.ess,i4,i5,i6,i7,i8,i9,.nilIface,.nilIface]) #[.iface 9 (.string (S p.nm)),.iface 9 (.string (S p.vs)),yesI p.ess,i4,i5,i6,i7,i8,i9,.nilIface,.nilIface] (valsP p):=(hV.on ((Blk.Chg.refl _ _).setRow (g:=w.heap.size + 1) hlt _)).mono HBW.out.size
 have hrz:=iv.row #[.iface 9 (.string (S p.nm)),.iface 9 (.string (S p.vs)),yesI p.ess,i4,i5,i6,i7,i8,i9,.nilIface,.nilIface]
 refine wpAnyH_all (rs:=[28]) (by kernel_rfl) (by simp) ?_
 intro i hi
 obtain rfl:=List.mem_singleton.1 hi
 refine Reg.wpOp_list rfl ?_
 refine wpList_store_row rfl 99 (.tmp 2) (.tmp 30) rfl (w.heap.size + 1) #[.iface 9 (.string (S p.nm)),.iface 9 (.string (S p.vs)),yesI p.ess,i4,i5,i6,i7,i8,i9,.nilIface,.nilIface] rfl rfl 99 nils iv hi2 (by rfl) hone ?_
 go_wp2_with fail
 change _ ∧ _
 refine ⟨hSz,?_⟩
 refine wpAnyH_done (by kernel_rfl) ?_ _
 generalize x9.setRow (w.heap.size + 1) #[.iface 9 (.string (S p.nm)),.iface 9 (.string (S p.vs)),yesI p.ess,i4,i5,i6,i7,i8,i9,.nilIface,.nilIface] = xz at *
 have r0:=hrz.at (i:=0) rfl
 have r1:=hrz.at (i:=1) rfl
 have r2:=hrz.at (i:=2) rfl
 have r3:=hrz.at (i:=3) rfl
 have r4:=hrz.at (i:=4) rfl
 have r5:=hrz.at (i:=5) rfl
 have r6:=hrz.at (i:=6) rfl
 have r7:=hrz.at (i:=7) rfl
 have r8:=hrz.at (i:=8) rfl
 have r9:=hrz.at (i:=9) rfl
 have r10:=hrz.at (i:=10) rfl
 have HVZ:=Lib.hid hvz
 have HBZ:=Lib.hid hbz
 generalize yesI p.ess = yi at *
 clear hrz hvz hbz hSz hlt iv hone hV V t4 t5 t6 t7 t8 t9 s4 s5 s6 s7 s8 s9 hS0 hS1 hS2 hS3 hS4 hS5 hS6 hS7 hS8 hS9 hB0 hB1 hB2 hB3 hB4 hB5 hB6 hB7 hB8 hB9
 go_wp2_with fail
 refine bodyPost_ret (v:=.agg #[.iface 9 (.string (S p.nm)),.iface 9 (.string (S p.vs)),yi,i4,i5,i6,i7,i8,i9,.nilIface,.nilIface]) (by simp [results,Tryz.results68,go_sem,r0,r1,r2,r3,r4,r5,r6,r7,r8,r9,r10]) rfl ?_
 exact ⟨_,rfl,HVZ.out,HBZ.out⟩
end Rc
end Go.Proofs.YthmpepnikmdjpaaGreatDoor
namespace Go.Proofs.YthmpepnikmdjpaaGreatDoor
open Go.RowKit
set_option linter.unusedSimpArgs false
set_option linter.unusedVariables false
namespace Rc
open Ver (Bs li li_len S S_self S_size S_li sameV)
open Va (Hi Vl VAt wrT)
open Stz (Fld Sz Flds Stzs)
open Rl (At Pv Ats Pvs Clss Slc LimA LimP LimC Vars nA nP mem_getD may nmB isV pvA aV pV tcells)
theorem in_text {w:World} {b:Nat} {t:ByteArray} {nm:Bs} (h:Blk.Is w b 9 #[.string t]):In b (b + 1) w fun u=>FldC u [.string (S nm),.slice (some ⟨b,0,none⟩) 1 1] (nm,[li t]):=fun u hu=>⟨_,rfl,by
 have h2:=hu.is h (by omega)
 refine ⟨by simp,some ⟨b,0,none⟩,1,rfl,Nat.le_refl _,fun _=>⟨b,0,rfl,fun i hi=>?_⟩⟩
 have hi0:i = 0:=by simpa using hi
 subst hi0
 rw [h2.at (i:=0) rfl]
 show some (Value.string t) = some (.string (S (li t)))
 rw [S_self]⟩
theorem two_set (v v':Value):(#[Value.int .i64 0,v]:Array Value).setIfInBounds 1 v' = #[.int .i64 0,v']:=rfl
theorem toList_S (t:ByteArray):t.toList.isEmpty = decide (li t = []):=by
 have h:=Rl.isEmpty_S (li t)
 rw [S_self] at h
 rw [h]
 cases li t <;> rfl
set_option maxRecDepth 100000 in
set_option maxHeartbeats 8000000 in
theorem stanzaM_any (B:Nat) (cs:Array Value) (xs:Vls) (w:World) (hV:Vs B w cs xs) (hX:Wr xs) (hG:Gl w) (hP:Va.Pow w) :
  Calls Tryz.prog 69 #[.agg cs] w fun e w'=>∃ v,e = .returned (.agg #[.int .i64 0,v]) ∧ Hi w.heap.size w' (fun u=>Flds u v (flds xs)) ∧ Below w.heap.size w w':=by
 obtain ⟨W,hW,hB,hsz,hI0,hI1,hI2⟩:=Va.three_new w 99 40 40 cs #[.int .i64 0,.slice none 0 0] #[.int .i64 0,.slice none 0 0]
 have hn:=hV.len
 have hrn:W.rangeAt 0 0 nmV.toList:=range_nms (hG.n.on hB)
 have HV:=Lib.hid hV
 have HX:=Lib.hid hX
 have HG:=Lib.hid hG
 have HP:=Lib.hid hP
 have HB:=Lib.hid hB
 have SZ:=Lib.hid hsz
 have I0:=Lib.hid hI0
 have I1:=Lib.hid hI1
 have I2:=Lib.hid hI2
 have HR:=Lib.hid hrn
 have hiS:(Tryz.prog.info? 40).map (·.size) = some 2:=by kernel_rfl
 clear hV hX hG hP hB hsz hI0 hI1 hI2 hrn
 go_enter Tryz.func69,Tryz.ntmps69
 go_wp2_with (refine wpList_load_mid rfl 163 (.global 0) rfl 0 0 rfl nmV.toList _ HR.out (by kernel_rfl:Tryz.prog.underlying 163 = some (.array 11 9)) rfl (by kernel_rfl) ?_)
 clear hW
 obtain ⟨b0,hb0⟩:∃ b0,w.heap.size = b0:=⟨_,rfl⟩
 rw [hb0] at I0 I1 I2 SZ
 have HB0:=Lib.hid hb0
 try rw [hb0]
 clear hb0 HR
 go_loopg [9] 11 (fun gf s9 wx=>∃ (k:Nat) (a:Option Addr) (c n:Nat) (fs:List Fld),s9 = .int .i64 k ∧ Hid (fs = fldN xs k ∧ fs.length = n) ∧ Hid (Acc FldC 2 43 W.heap.size W.heap.size wx (.slice a n c) fs) ∧ Hid (Blk.Is wx (b0 + 2) 40 #[.int .i64 0,.slice a n c]) ∧ Hid (Blk.Is wx (b0 + 1) 40 #[.int .i64 0,.slice none 0 0] ∧ Blk.Is wx b0 99 cs) ∧ Hid (Below w.heap.size w wx ∧ W.heap.size ≤ wx.heap.size) ∧ k ≤ 11 ∧ 11 ≤ k + gf)
 case atStart=>exact ⟨0,none,0,0,[],rfl,Lib.hid ⟨rfl,rfl⟩,Lib.hid (Acc.nil _ _ _ _ _ _),I2,Lib.hid ⟨I1.out,I0.out⟩,Lib.hid ⟨HB.out,Nat.le_refl _⟩,by omega,by omega⟩
 case round =>
  obtain ⟨k,a,c,n,fs,rfl,HFS,HA,J2,J01,HW,hk,hfu⟩:=hrel
  by_cases hlt:k < 11
  ·obtain ⟨g',rfl⟩:∃ g',gk = g' + 1:=⟨gk - 1,by omega⟩
   have hlt':(k:Int) < 11:=by omega
   have hk0:(0:Int) ≤ k:=by omega
   have hidx:=fun w=>index_nm k hlt w
   obtain ⟨vk,hck,hvk⟩:=HV.out.at_ k hlt
   have cv:wr.cell? ⟨b0,k,none⟩ = some vk:=J01.out.2.at hck
   have cw:=Va.write_any (hvk.below HW.out.1) (HX.out.lim k) (HG.out.on HW.out.1).v (HP.out.on HW.out.1)
   have he:=toList_S (wrT (xs k))
   have hfa:fldN xs (k + 1) = fldN xs k ++ fldAt xs k:=fldN_succ xs k
   have hln:=fldN_len xs k
   rw [← HFS.out.1] at hln hfa
   rw [HFS.out.2] at hln
   have hat:fldAt xs k = if li (wrT (xs k)) = [] then [] else [(nmAt k,[li (wrT (xs k))])]:=rfl
   rw [hat] at hfa
   generalize wrT (xs k) = T at *
   generalize Va.wrK (xs k) = KK at *
   have HFA:=Lib.hid hfa
   clear hat hfa hvk hck
   by_cases hT:li T = []
   ·have he1:T.toList.isEmpty = true:=by rw [he,decide_eq_true hT]
    have HFS2:Hid (fs = fldN xs (k + 1) ∧ fs.length = n):=Lib.hid ⟨by rw [HFA.out,if_pos hT,List.append_nil],HFS.out.2⟩
    clear he hT HFA HFS hln
    generalize S (nmAt k) = K at *
    go_wp2_with fail
    refine cw.mono ?_
    rintro e w1 ⟨rfl,k1⟩
    have J2:=Lib.hid (Rl.is_on J2.out k1)
    have J01:=Lib.hid (⟨Rl.is_on J01.out.1 k1,Rl.is_on J01.out.2 k1⟩:_ ∧ _)
    have HA:=Lib.hid (HA.out.on k1)
    have HW:=Lib.hid (⟨HW.out.1.trans (k1.mono HW.out.1.size),Nat.le_trans HW.out.2 k1.size⟩:_ ∧ _)
    clear cw cv k1
    go_wp2_with fail
    go_roundg g'
    case measure=>omega
    case rel=>exact ⟨k + 1,a,c,n,fs,by go_num,HFS2,HA,J2,J01,HW,by omega,by omega⟩
   ·have he1:T.toList.isEmpty = false:=by rw [he,decide_eq_false hT]
    rw [if_neg hT] at HFA
    generalize hK:nmAt k = nm at *
    clear he hT hK
    go_wp2_with fail
    refine cw.mono ?_
    rintro e w1 ⟨rfl,k1⟩
    have j2:=Rl.is_on J2.out k1
    have j1:=Rl.is_on J01.out.1 k1
    have j0:=Rl.is_on J01.out.2 k1
    have ha:=HA.out.on k1
    have hw1:=HW.out.1.trans (k1.mono HW.out.1.size)
    have hw2:=Nat.le_trans HW.out.2 k1.size
    obtain ⟨W2,hW2,hB2,hs2,hT0,hT1⟩:=two_new w1 9 43 #[.string T] #[.string (S nm),.slice (some ⟨w1.heap.size,0,none⟩) 1 1]
    have hin:=in_text (nm:=nm) hT0
    have ha2:=ha.on hB2
    have l2:=Rl.is_on j2 hB2
    have l1:=Rl.is_on j1 hB2
    have l0:=Rl.is_on j0 hB2
    have hw3:=hw1.trans (hB2.mono hw1.size)
    have hown:=ha2.own
    rw [HFS.out.2] at hown
    have hlow:∀ g,Value.ownBlock (.slice a n c) = some g → g < w1.heap.size ∨ w1.heap.size + 1 ≤ g:=fun g hg=>by
     obtain ⟨_,ho⟩:=ha.own
     exact .inl (Rl.own_lt ho hg).2
    have hown0:∀ g,Value.ownBlock (.slice a n c) = some g → W.heap.size ≤ g:=fun g hg=>by
     obtain ⟨_,ho⟩:=ha.own
     exact (Rl.own_lt ho hg).1
    have d1:w1.cell? ⟨b0 + 2,1,none⟩ = some (.slice a n c):=j2.at (i:=1) rfl
    have hle2:W.heap.size ≤ W2.heap.size:=Nat.le_trans hw2 hB2.size
    have hm2:w1.heap.size + 1 ≤ W2.heap.size:=by omega
    obtain ⟨bx,hbx⟩:∃ bx,w1.heap.size = bx:=⟨_,rfl⟩
    rw [hbx] at hT1 hin hlow hw2 hm2 hs2 hW2
    have HW2:=Lib.hid hW2
    have HT1:=Lib.hid hT1
    have HIN:=Lib.hid hin
    have AC2:=Lib.hid ha2
    have L2:=Lib.hid l2
    have L1:=Lib.hid l1
    have L0:=Lib.hid l0
    have HW3:=Lib.hid hw3
    have OWN:=Lib.hid hown
    have LOW:=Lib.hid hlow
    have OW0:=Lib.hid hown0
    have hn7:n + 1 ≤ 70000:=by omega
    clear j2 j1 j0 ha hw1 k1 hB2 hT0 hT1 hin ha2 l2 l1 l0 hw3 hown hlow hown0 cw cv HA J2 J01 HW hW2
    go_wp2_with (first | (at_builtin; (try rw [HW2.out]); refine append_at Tryz.underlying38 Stz.infoField rfl (by decide) rfl (.tmp 23) (.tmp 28) rfl W.heap.size (.slice a n c) n rfl OWN.out (bx + 1) 1 rfl [.string (S nm),.slice (some ⟨bx,0,none⟩) 1 1] rfl (fun j u hj=>HT1.out.at (by rw [← Array.getElem?_toList]; exact hj)) (fun u hu=>by simp only [List.mem_cons,List.not_mem_nil,or_false] at hu; rcases hu with rfl | rfl <;> rfl) hn7 hle2 ?_; intro v' w9 h2 h3 h4; have acc9:=AC2.out.more (cs:=[.string (S nm),.slice (some ⟨bx,0,none⟩) 1 1]) rfl HIN.out hm2 LOW.out hw2 (by rw [HFS.out.2]; exact h2) h3 h4; have hch:Blk.Chg (fun j=>W.heap.size ≤ j) W2 w9:=(Blk.Chg.refl _ _).grown h3 (fun g hg _=>OW0.out g hg); have hwz:=SZ.out; have m2:=hch.is L2.out (by omega); have m1:=hch.is L1.out (by omega); have m0:=hch.is L0.out (by omega); obtain ⟨a9,c9,e9⟩:=acc9.shape; rw [List.length_append,HFS.out.2] at e9; have hb9:Below w.heap.size w w9:=(Blk.Chg.ofBelow' (S:=fun j=>W.heap.size ≤ j) HW3.out).trans hch |>.below (fun j hj=>by have:=HB.out.size; omega) (Nat.le_refl _); have d9:w9.cell? ⟨b0 + 2,1,none⟩ = some (.slice a n c):=m2.at (i:=1) rfl; have f9:w9.frozen? ⟨b0 + 2,1,none⟩ = false:=m2.free 1; have s9:W.heap.size ≤ w9.heap.size:=Nat.le_trans hle2 hch.size; subst e9; have acc10:=acc9.low (Nat.le_refl _) ((Blk.Chg.refl (fun j=>j < W.heap.size) w9).setAt (b:=b0 + 2) (o:=1) (u:=.slice a9 (n + 1) c9) (by show b0 + 2 < W.heap.size; omega)); have AC9:=Lib.hid acc10; have M2:=Lib.hid (m2.set 1 (.slice a9 (n + 1) c9)); have M10:=Lib.hid (⟨m1.setOther (a:=⟨b0 + 2,1,none⟩) (.slice a9 (n + 1) c9) (by show b0 + 1 ≠ b0 + 2; omega),m0.setOther (a:=⟨b0 + 2,1,none⟩) (.slice a9 (n + 1) c9) (by show b0 ≠ b0 + 2; omega)⟩:_ ∧ _); have HB9:=Lib.hid (show Below w.heap.size w (w9.setCell ⟨b0 + 2,1,none⟩ (.slice a9 (n + 1) c9)) ∧ W.heap.size ≤ (w9.setCell ⟨b0 + 2,1,none⟩ (.slice a9 (n + 1) c9)).heap.size from ⟨(Blk.Chg.setCell' (S:=fun _=>False) (Blk.Chg.ofBelow' hb9) (p:=⟨b0 + 2,1,none⟩) (by show w.heap.size ≤ b0 + 2; rw [HB0.out]; omega) _).below (fun _ h=>h.elim) (Nat.le_refl _),by simp [World.setCell]; simpa using s9⟩); clear h2 h3 h4 acc9 acc10 hch m2 m1 m0 hb9 AC2 L2 L1 L0 HW3 OWN LOW OW0 HIN HT1 hwz s9) | fail)
    clear d1 HW2
    go_roundg g'
    case measure=>omega
    case rel=>exact ⟨k + 1,a9,c9,n + 1,fs ++ [(nm,[li T])],by go_num,Lib.hid ⟨HFA.out.symm,by rw [List.length_append,HFS.out.2]; rfl⟩,AC9,M2,M10,HB9,by omega,by omega⟩
  ·have hge:¬ (k:Int) < 11:=by omega
   obtain rfl:k = 11:=by omega
   have hfs:fs = flds xs:=HFS.out.1
   have hlen:fs.length ≤ 11:=by rw [HFS.out.1]; exact fldN_len xs 11
   have hfl:=HA.out.flds (Nat.le_refl _) (by omega)
   have hwz:=SZ.out
   have hh:=(hfl.on ((Blk.Chg.refl (fun j=>j < W.heap.size) wr).setRow (g:=b0 + 1) (by show b0 + 1 < W.heap.size; omega) #[.int .i64 0,.slice a n c])).mono HB.out.size
   have hb:=Va.below_row HW.out.1 (show w.heap.size ≤ b0 + 1 by rw [HB0.out]; omega) #[.int .i64 0,.slice a n c]
   have d0:wr.cell? ⟨b0 + 2,0,none⟩ = some (.int .i64 0):=J2.out.at (i:=0) rfl
   have d1:wr.cell? ⟨b0 + 2,1,none⟩ = some (.slice a n c):=J2.out.at (i:=1) rfl
   have hrz:=J01.out.1.row #[.int .i64 0,.slice a n c]
   rw [hfs] at hh
   have HH:=Lib.hid hh
   have HBB:=Lib.hid hb
   have HRZ:=Lib.hid hrz
   have J1:=Lib.hid J01.out.1
   clear hh hb hrz hfl HA J2 J01 HW HFS
   go_wp2_with (first | (refine wpList_store_row rfl 40 (.tmp 2) (.tmp 32) rfl (b0 + 1) #[.int .i64 0,.slice a n c] rfl rfl 40 #[.int .i64 0,.slice none 0 0] J1.out hiS (by rfl) (by simp [Value.oneCell']) ?_) | fail)
   generalize wr.setRow (b0 + 1) _ = wz at *
   have r0:=HRZ.out.at (i:=0) rfl
   have r1:=HRZ.out.at (i:=1) rfl
   refine bodyPost_ret (v:=.agg #[.int .i64 0,.slice a n c]) (by simp [results,Tryz.results69,go_sem,r0,r1]) rfl ?_
   exact ⟨_,rfl,HH.out,HBB.out⟩
end Rc
end Go.Proofs.YthmpepnikmdjpaaGreatDoor
namespace Go.Proofs.YthmpepnikmdjpaaGreatDoor
open Go.RowKit
set_option linter.unusedSimpArgs false
set_option linter.unusedVariables false
namespace Rc
open Ver (Bs li li_len S S_self S_size S_li sameV)
open Va (Hi Vl VAt wrT)
open Rl (At Pv Ats Pvs Clss Slc LimA LimP LimC Vars nA nP mem_getD may nmB isV pvA aV pV tcells)
def EnV (w:World) (v:Value) (x:En):Prop:=∃ u1 u2 u3 u4 u5 u6,v = .agg #[.string (S x.pk.nm),.string (S x.pk.vs),u1,u2,u3,u4,u5,u6,.bool x.pk.ess,.bool x.cfg,.bool x.hld] ∧ Has w x.pk u1 u2 u3 u4 u5 u6
theorem valsE_eq (x:En):∀ i,i < 11 → valsE x i = if i = 10 then yesV x.hld else if i = 9 then .text (if x.cfg = true then cfgT else unpT) else valsP x.pk i:=by
 intro i hi
 match i,hi with
 | 0,_=>rfl
 | 1,_=>rfl
 | 2,_=>rfl
 | 3,_=>rfl
 | 4,_=>rfl
 | 5,_=>rfl
 | 6,_=>rfl
 | 7,_=>rfl
 | 8,_=>rfl
 | 9,_=>rfl
 | 10,_=>rfl
set_option maxRecDepth 100000 in
set_option maxHeartbeats 8000000 in
theorem ofEntry_any (v:Value) (x:En) (w:World) (h:EnV w v x) (hok:Ok x.pk) :
  Calls Tryz.prog 80 #[v] w fun e w'=>∃ cs,e = .returned (.agg cs) ∧ Vs w.heap.size w' cs (valsE x) ∧ Below w.heap.size w w':=by
 obtain ⟨u1,u2,u3,u4,u5,u6,rfl,h1⟩:=h
 obtain ⟨W,hW,hBW,hsz,hI0,hI1⟩:=two_new w 68 99 #[.string (S x.pk.nm),.string (S x.pk.vs),u1,u2,u3,u4,u5,u6,.bool x.pk.ess,.bool x.cfg,.bool x.hld] nils
 unfold nils at hW
 have co:=ofPackage_any (.agg #[.string (S x.pk.nm),.string (S x.pk.vs),u1,u2,u3,u4,u5,u6,.bool x.pk.ess]) x.pk W ⟨_,_,_,_,_,_,rfl,h1.below hBW⟩ hok
 have rg:W.rangeAt w.heap.size 0 [.string (S x.pk.nm),.string (S x.pk.vs),u1,u2,u3,u4,u5,u6,.bool x.pk.ess]:=fun j u hj=>by
  rw [Nat.zero_add]
  refine hI0.at ?_
  have hjl:j < 9:=(List.getElem?_eq_some_iff.1 hj).1
  have hj2:([.string (S x.pk.nm),.string (S x.pk.vs),u1,u2,u3,u4,u5,u6,.bool x.pk.ess] ++ [.bool x.cfg,.bool x.hld])[j]? = some u:=by rw [List.getElem?_append_left hjl]; exact hj
  rw [← Array.getElem?_toList]; exact hj2
 have HBW:=Lib.hid hBW
 have SZ:=Lib.hid hsz
 have I0:=Lib.hid hI0
 have I1:=Lib.hid hI1
 have RG:=Lib.hid rg
 have hi2:(Tryz.prog.info? 99).map (·.size) = some 11:=by kernel_rfl
 clear h1 hBW hI0 hI1 hok rg hsz
 go_enter Tryz.func80,Tryz.ntmps80
 go_wp2_with (first | (refine wpList_load_mid rfl 31 (.tmp 4) rfl w.heap.size 0 rfl [.string (S x.pk.nm),.string (S x.pk.vs),u1,u2,u3,u4,u5,u6,.bool x.pk.ess] _ RG.out Tryz.underlying31 rfl (by kernel_rfl) ?_) | fail)
 refine co.mono ?_
 rintro e w1 ⟨cs,rfl,hV,k1⟩
 have hB1:=HBW.out.trans (k1.mono HBW.out.size)
 have hz1:w.heap.size + 2 ≤ w1.heap.size:=by rw [← SZ.out]; exact k1.size
 have hone:=one_all hV
 have hcl:=hV.len
 have hi2':(Tryz.prog.info? 99).map (·.size) = some cs.size:=by rw [hcl]; exact hi2
 obtain ⟨v9,x9,hv9⟩:=hV.at_ 9 (by omega)
 obtain ⟨v10,x10,hv10⟩:=hV.at_ 10 (by omega)
 obtain rfl:v9 = .nilIface:=hv9
 obtain rfl:v10 = .nilIface:=hv10
 obtain ⟨W2,hW2⟩:∃ W2,w1.alloc (.cells nils 99) = W2:=⟨_,rfl⟩
 have hb2:Below w1.heap.size w1 W2:=by rw [← hW2]; exact (Below.refl _ _).alloc (Nat.le_refl _) _
 have i2:=Blk.Is.new w1 99 nils
 rw [hW2] at i2
 unfold nils at hW2
 have i3:=i2.row cs
 have hc3:Blk.Chg (fun k=>k < W.heap.size) w1 (W2.setRow w1.heap.size cs):=Blk.Chg.setRow' (Blk.Chg.ofBelow' hb2) (Nat.le_refl _) cs
 have hb3:=Va.below_row (hB1.trans (hb2.mono hB1.size)) (show w.heap.size ≤ w1.heap.size by omega) cs
 have j0:=(Rl.is_on (Rl.is_on I0.out k1) hb2).rowOther (g:=w1.heap.size) cs (by omega)
 have j1:=(Rl.is_on (Rl.is_on I1.out k1) hb2).rowOther (g:=w1.heap.size) cs (by omega)
 have ct:=Va.ofText_any (.string unpT) (W2.setRow w1.heap.size cs)
 unfold unpT at ct
 have HV:=Lib.hid hV
 have I2:=Lib.hid i2
 have I3:=Lib.hid i3
 have C3:=Lib.hid hc3
 have B3:=Lib.hid hb3
 have J0:=Lib.hid j0
 have J1:=Lib.hid j1
 have X9:=Lib.hid x9
 have X10:=Lib.hid x10
 have LB:=Lib.hid (⟨Nat.le_refl _,(by omega:w.heap.size ≤ w1.heap.size),(by omega:w.heap.size + 2 ≤ w1.heap.size)⟩:w1.heap.size ≤ w1.heap.size ∧ w.heap.size ≤ w1.heap.size ∧ w.heap.size + 2 ≤ w1.heap.size)
 obtain ⟨b3,hb3'⟩:∃ b,w1.heap.size = b:=⟨_,rfl⟩
 rw [hb3'] at I2 I3 C3 B3 J0 J1 ct LB
 have LB:Hid (w1.heap.size ≤ b3 ∧ w.heap.size ≤ b3 ∧ w.heap.size + 2 ≤ b3):=Lib.hid ⟨by omega,LB.out.2⟩
 have LC:=Lib.hid hcl
 clear co k1 hB1 hz1 hV hb2 i2 i3 hc3 hb3 j0 j1 x9 x10 hcl I0 I1 RG
 obtain ⟨CFG,hcfg⟩:∃ b,x.cfg = b:=⟨_,rfl⟩
 obtain ⟨HLD,hhld⟩:∃ b,x.hld = b:=⟨_,rfl⟩
 have HC:=Lib.hid hcfg
 have HH9:=Lib.hid hhld
 rw [hcfg,hhld] at J0
 clear hcfg hhld
 go_wp2_with (first | (refine wpList_store_row rfl 99 (.tmp 3) (.tmp 6) rfl b3 cs rfl rfl 99 nils I2.out hi2' (by rw [LC.out]; rfl) hone ?_) | fail)
 clear hone hi2' I2 LC
 generalize W2.setRow b3 cs = W3 at *
 refine ct.mono ?_
 rintro e w4 ⟨rfl,k4⟩
 have i4:=Rl.is_on I3.out k4
 have c4:w4.cell? ⟨b3,9,none⟩ = some .nilIface:=i4.at X9.out
 have f4:=i4.free 9
 have hc5:=(C3.out.trans (Blk.Chg.ofBelow' k4)).setCell' (p:=⟨b3,9,none⟩) LB.out.1 (.iface 9 (.string unpT))
 have hb5:Below w.heap.size w (w4.setCell ⟨b3,9,none⟩ (.iface 9 (.string unpT))):=(Blk.Chg.setCell' (S:=fun _=>False) (Blk.Chg.ofBelow' (B3.out.trans (k4.mono B3.out.size))) (p:=⟨b3,9,none⟩) (LB.out.2.1) (.iface 9 (.string unpT))).below (fun _ h=>h.elim) (Nat.le_refl _)
 have i5:=i4.set 9 (.iface 9 (.string unpT))
 have j05:=(Rl.is_on J0.out k4).setOther (a:=⟨b3,9,none⟩) (.iface 9 (.string unpT)) (by show w.heap.size ≠ b3; have:=LB.out.2.2; omega)
 have j15:=(Rl.is_on J1.out k4).setOther (a:=⟨b3,9,none⟩) (.iface 9 (.string unpT)) (by show w.heap.size + 1 ≠ b3; have:=LB.out.2.2; omega)
 have d9:=j05.at (i:=9) rfl
 have I3:=Lib.hid i5
 have C3:=Lib.hid hc5
 have B3:=Lib.hid hb5
 have J0:=Lib.hid j05
 have J1:=Lib.hid j15
 unfold unpT at d9
 clear ct i4 hc5 hb5 i5 j05 j15 k4
 go_upto_region 3 with fail
 have eu:(⟨#[117,110,112,97,99,107,101,100]⟩:ByteArray) = unpT:=rfl
 rw [eu] at d9 ⊢
 generalize w4.setCell ⟨b3,9,none⟩ (.iface 9 (.string unpT)) = w5 at *
 clear c4 f4 eu
 cases CFG with
 | false =>
  have cy:=ofYes_any HLD w5
  have d10:w5.cell? ⟨w.heap.size,10,none⟩ = some (.bool HLD):=J0.out.at (i:=10) rfl
  go_wp2_with fail
  refine cy.mono ?_
  rintro e w7 ⟨rfl,k7⟩
  have i7:=Rl.is_on I3.out k7
  have j1:=Rl.is_on J1.out k7
  have c7:w7.cell? ⟨b3,10,none⟩ = some .nilIface:=i7.at (by rw [Array.getElem?_setIfInBounds_ne (by omega)]; exact X10.out)
  have f7:=i7.free 10
  have hc7:=(C3.out.trans (Blk.Chg.ofBelow' k7)).setCell' (p:=⟨b3,10,none⟩) (LB.out.1) (yesI HLD)
  have hb7:Below w.heap.size w (w7.setCell ⟨b3,10,none⟩ (yesI HLD)):=(Blk.Chg.setCell' (S:=fun _=>False) (Blk.Chg.ofBelow' (B3.out.trans (k7.mono B3.out.size))) (p:=⟨b3,10,none⟩) (LB.out.2.1) (yesI HLD)).below (fun _ h=>h.elim) (Nat.le_refl _)
  have i8:=i7.set 10 (yesI HLD)
  have j8:=j1.setOther (a:=⟨b3,10,none⟩) (yesI HLD) (by show w.heap.size + 1 ≠ b3; have:=LB.out.2.2; omega)
  have hvz:Vs W.heap.size (w7.setCell ⟨b3,10,none⟩ (yesI HLD)) ((cs.setIfInBounds 9 (.iface 9 (.string unpT))).setIfInBounds 10 (yesI HLD)) (valsE x):=by
   refine ((HV.out.on hc7).set (k:=9) (by omega) (v:=.iface 9 (.string unpT)) (x:=.text unpT) (ys:=fun i=>if i = 9 then .text unpT else valsP x.pk i) rfl (fun i _=>rfl)).set (k:=10) (by omega) (v:=yesI HLD) (x:=yesV HLD) (yes_at _ _ _) (fun i hi=>?_)
   rw [valsE_eq x i hi,HH9.out]
   simp only [HC.out]; rfl
  have hlen:=hvz.len
  have hone:=one_all hvz
  have hsz7:=valsSz hlen
  have hio:(Tryz.prog.info? 99).map (·.size) = some ((cs.setIfInBounds 9 (.iface 9 (.string unpT))).setIfInBounds 10 (yesI HLD)).size:=by rw [hlen]; exact hi2
  have RV:=Lib.hid (range_vals i8)
  have V:=Lib.hid hvz
  have HB7:=Lib.hid hb7
  have J8:=Lib.hid j8
  have LN:=Lib.hid hlen
  obtain ⟨yi,hyi⟩:∃ y,yesI HLD = y:=⟨_,rfl⟩
  rw [hyi] at V HB7 J8 RV hone hsz7 hio LN ⊢
  have YS:Hid (yi = .nilIface ∨ ∃ t x,yi = .iface t x):=Lib.hid (by rw [← hyi]; unfold yesI; split; exact .inr ⟨_,_,rfl⟩; exact .inl rfl)
  clear cy k7 i7 j1 hc7 hb7 i8 j8 hvz hlen hyi I3 J0 J1 C3 B3 d10
  rcases YS.out with rfl | ⟨ty,xy,rfl⟩
  all_goals
   go_upto_region 6 with fail
   clear YS c7 f7
   generalize (cs.setIfInBounds 9 _).setIfInBounds 10 _ = CS at *
   generalize w7.setCell _ _ = w8 at *
   obtain ⟨y0,y1,y2,y3,y4,y5,y6,y7,y8,y9,y10,rfl⟩:=eleven LN.out
   have hrz:=J8.out.row #[y0,y1,y2,y3,y4,y5,y6,y7,y8,y9,y10]
   have hbz:=Va.below_row HB7.out (Nat.le_succ w.heap.size) #[y0,y1,y2,y3,y4,y5,y6,y7,y8,y9,y10]
   have hvf:Vs w.heap.size (w8.setRow (w.heap.size + 1) #[y0,y1,y2,y3,y4,y5,y6,y7,y8,y9,y10]) #[y0,y1,y2,y3,y4,y5,y6,y7,y8,y9,y10] (valsE x):=(V.out.on ((Blk.Chg.refl (fun k=>k < W.heap.size) w8).setRow (g:=w.heap.size + 1) (by show w.heap.size + 1 < W.heap.size; have:=SZ.out; omega) _)).mono HBW.out.size
   have HVZ:=Lib.hid hvf
   have HBZ:=Lib.hid hbz
   have HRZ:=Lib.hid hrz
   clear hrz hbz hvf V HB7 LN
   go_wp2_with (first | (refine wpList_load_mid rfl 99 (.tmp 3) rfl b3 0 rfl [y0,y1,y2,y3,y4,y5,y6,y7,y8,y9,y10] _ RV.out valsD rfl hsz7 ?_) | (refine wpList_store_row rfl 99 (.tmp 2) (.tmp 17) rfl (w.heap.size + 1) #[y0,y1,y2,y3,y4,y5,y6,y7,y8,y9,y10] rfl rfl 99 nils J8.out hio (by rfl) hone ?_) | fail)
   generalize w8.setRow (w.heap.size + 1) _ = wz at *
   have r0:=HRZ.out.at (i:=0) rfl
   have r1:=HRZ.out.at (i:=1) rfl
   have r2:=HRZ.out.at (i:=2) rfl
   have r3:=HRZ.out.at (i:=3) rfl
   have r4:=HRZ.out.at (i:=4) rfl
   have r5:=HRZ.out.at (i:=5) rfl
   have r6:=HRZ.out.at (i:=6) rfl
   have r7:=HRZ.out.at (i:=7) rfl
   have r8:=HRZ.out.at (i:=8) rfl
   have r9:=HRZ.out.at (i:=9) rfl
   have r10:=HRZ.out.at (i:=10) rfl
   refine bodyPost_ret (v:=.agg #[y0,y1,y2,y3,y4,y5,y6,y7,y8,y9,y10]) (by simp [results,Tryz.results80,go_sem,r0,r1,r2,r3,r4,r5,r6,r7,r8,r9,r10]) rfl ?_
   exact ⟨_,rfl,HVZ.out,HBZ.out⟩
 | true =>
  have cu:=Va.ofText_any (.string cfgT) w5
  unfold cfgT at cu
  have hl9:9 < cs.size:=by have:=HV.out.len; omega
  go_wp2_with fail
  refine cu.mono ?_
  rintro e w6 ⟨rfl,k6⟩
  have i6:=Rl.is_on I3.out k6
  have c6:w6.cell? ⟨b3,9,none⟩ = some (.iface 9 (.string unpT)):=i6.at (Array.getElem?_setIfInBounds_self_of_lt hl9)
  have f6:=i6.free 9
  have hc6:=(C3.out.trans (Blk.Chg.ofBelow' k6)).setCell' (p:=⟨b3,9,none⟩) LB.out.1 (.iface 9 (.string cfgT))
  have hb6:Below w.heap.size w (w6.setCell ⟨b3,9,none⟩ (.iface 9 (.string cfgT))):=(Blk.Chg.setCell' (S:=fun _=>False) (Blk.Chg.ofBelow' (B3.out.trans (k6.mono B3.out.size))) (p:=⟨b3,9,none⟩) (LB.out.2.1) (.iface 9 (.string cfgT))).below (fun _ h=>h.elim) (Nat.le_refl _)
  have i7:=i6.set 9 (.iface 9 (.string cfgT))
  rw [Array.setIfInBounds_setIfInBounds] at i7
  have j06:=(Rl.is_on J0.out k6).setOther (a:=⟨b3,9,none⟩) (.iface 9 (.string cfgT)) (by show w.heap.size ≠ b3; have:=LB.out.2.2; omega)
  have j16:=(Rl.is_on J1.out k6).setOther (a:=⟨b3,9,none⟩) (.iface 9 (.string cfgT)) (by show w.heap.size + 1 ≠ b3; have:=LB.out.2.2; omega)
  have I3:=Lib.hid i7
  have C3:=Lib.hid hc6
  have B3:=Lib.hid hb6
  have J0:=Lib.hid j06
  have J1:=Lib.hid j16
  clear cu i6 hc6 hb6 i7 j06 j16 k6 d9
  go_upto_region 5 with fail
  have eu:(⟨#[99,111,110,102,105,103,117,114,101,100]⟩:ByteArray) = cfgT:=rfl
  rw [eu]
  generalize w6.setCell ⟨b3,9,none⟩ (.iface 9 (.string cfgT)) = w6' at *
  clear c6 f6 eu
  have cy:=ofYes_any HLD w6'
  have d10:w6'.cell? ⟨w.heap.size,10,none⟩ = some (.bool HLD):=J0.out.at (i:=10) rfl
  go_wp2_with fail
  refine cy.mono ?_
  rintro e w7 ⟨rfl,k7⟩
  have i7:=Rl.is_on I3.out k7
  have j1:=Rl.is_on J1.out k7
  have c7:w7.cell? ⟨b3,10,none⟩ = some .nilIface:=i7.at (by rw [Array.getElem?_setIfInBounds_ne (by omega)]; exact X10.out)
  have f7:=i7.free 10
  have hc7:=(C3.out.trans (Blk.Chg.ofBelow' k7)).setCell' (p:=⟨b3,10,none⟩) (LB.out.1) (yesI HLD)
  have hb7:Below w.heap.size w (w7.setCell ⟨b3,10,none⟩ (yesI HLD)):=(Blk.Chg.setCell' (S:=fun _=>False) (Blk.Chg.ofBelow' (B3.out.trans (k7.mono B3.out.size))) (p:=⟨b3,10,none⟩) (LB.out.2.1) (yesI HLD)).below (fun _ h=>h.elim) (Nat.le_refl _)
  have i8:=i7.set 10 (yesI HLD)
  have j8:=j1.setOther (a:=⟨b3,10,none⟩) (yesI HLD) (by show w.heap.size + 1 ≠ b3; have:=LB.out.2.2; omega)
  have hvz:Vs W.heap.size (w7.setCell ⟨b3,10,none⟩ (yesI HLD)) ((cs.setIfInBounds 9 (.iface 9 (.string cfgT))).setIfInBounds 10 (yesI HLD)) (valsE x):=by
   refine ((HV.out.on hc7).set (k:=9) (by omega) (v:=.iface 9 (.string cfgT)) (x:=.text cfgT) (ys:=fun i=>if i = 9 then .text cfgT else valsP x.pk i) rfl (fun i _=>rfl)).set (k:=10) (by omega) (v:=yesI HLD) (x:=yesV HLD) (yes_at _ _ _) (fun i hi=>?_)
   rw [valsE_eq x i hi,HH9.out]
   simp only [HC.out]; rfl
  have hlen:=hvz.len
  have hone:=one_all hvz
  have hsz7:=valsSz hlen
  have hio:(Tryz.prog.info? 99).map (·.size) = some ((cs.setIfInBounds 9 (.iface 9 (.string cfgT))).setIfInBounds 10 (yesI HLD)).size:=by rw [hlen]; exact hi2
  have RV:=Lib.hid (range_vals i8)
  have V:=Lib.hid hvz
  have HB7:=Lib.hid hb7
  have J8:=Lib.hid j8
  have LN:=Lib.hid hlen
  obtain ⟨yi,hyi⟩:∃ y,yesI HLD = y:=⟨_,rfl⟩
  rw [hyi] at V HB7 J8 RV hone hsz7 hio LN ⊢
  have YS:Hid (yi = .nilIface ∨ ∃ t x,yi = .iface t x):=Lib.hid (by rw [← hyi]; unfold yesI; split; exact .inr ⟨_,_,rfl⟩; exact .inl rfl)
  clear cy k7 i7 j1 hc7 hb7 i8 j8 hvz hlen hyi I3 J0 J1 C3 B3 d10
  rcases YS.out with rfl | ⟨ty,xy,rfl⟩
  all_goals
   go_upto_region 6 with fail
   clear YS c7 f7
   generalize (cs.setIfInBounds 9 _).setIfInBounds 10 _ = CS at *
   generalize w7.setCell _ _ = w8 at *
   obtain ⟨y0,y1,y2,y3,y4,y5,y6,y7,y8,y9,y10,rfl⟩:=eleven LN.out
   have hrz:=J8.out.row #[y0,y1,y2,y3,y4,y5,y6,y7,y8,y9,y10]
   have hbz:=Va.below_row HB7.out (Nat.le_succ w.heap.size) #[y0,y1,y2,y3,y4,y5,y6,y7,y8,y9,y10]
   have hvf:Vs w.heap.size (w8.setRow (w.heap.size + 1) #[y0,y1,y2,y3,y4,y5,y6,y7,y8,y9,y10]) #[y0,y1,y2,y3,y4,y5,y6,y7,y8,y9,y10] (valsE x):=(V.out.on ((Blk.Chg.refl (fun k=>k < W.heap.size) w8).setRow (g:=w.heap.size + 1) (by show w.heap.size + 1 < W.heap.size; have:=SZ.out; omega) _)).mono HBW.out.size
   have HVZ:=Lib.hid hvf
   have HBZ:=Lib.hid hbz
   have HRZ:=Lib.hid hrz
   clear hrz hbz hvf V HB7 LN
   go_wp2_with (first | (refine wpList_load_mid rfl 99 (.tmp 3) rfl b3 0 rfl [y0,y1,y2,y3,y4,y5,y6,y7,y8,y9,y10] _ RV.out valsD rfl hsz7 ?_) | (refine wpList_store_row rfl 99 (.tmp 2) (.tmp 17) rfl (w.heap.size + 1) #[y0,y1,y2,y3,y4,y5,y6,y7,y8,y9,y10] rfl rfl 99 nils J8.out hio (by rfl) hone ?_) | fail)
   generalize w8.setRow (w.heap.size + 1) _ = wz at *
   have r0:=HRZ.out.at (i:=0) rfl
   have r1:=HRZ.out.at (i:=1) rfl
   have r2:=HRZ.out.at (i:=2) rfl
   have r3:=HRZ.out.at (i:=3) rfl
   have r4:=HRZ.out.at (i:=4) rfl
   have r5:=HRZ.out.at (i:=5) rfl
   have r6:=HRZ.out.at (i:=6) rfl
   have r7:=HRZ.out.at (i:=7) rfl
   have r8:=HRZ.out.at (i:=8) rfl
   have r9:=HRZ.out.at (i:=9) rfl
   have r10:=HRZ.out.at (i:=10) rfl
   refine bodyPost_ret (v:=.agg #[y0,y1,y2,y3,y4,y5,y6,y7,y8,y9,y10]) (by simp [results,Tryz.results80,go_sem,r0,r1,r2,r3,r4,r5,r6,r7,r8,r9,r10]) rfl ?_
   exact ⟨_,rfl,HVZ.out,HBZ.out⟩
end Rc
end Go.Proofs.YthmpepnikmdjpaaGreatDoor

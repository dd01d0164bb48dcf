/-
May: a whole package: may it be? What the fields of a package, of an entry have: ofYes, ofPackage, ofEntry.
-/
import Derived.Test.YthmpepnikmdjpaaGreatDoorCRecMay2
import Derived.Test.YthmpepnikmdjpaaGreatDoorCRecFld
import Derived.Test.YthmpepnikmdjpaaGreatDoorCRecOut
namespace Go.Proofs.YthmpepnikmdjpaaGreatDoor
open Go.RowKit
set_option linter.unusedSimpArgs false
set_option linter.unusedVariables false
namespace Rc
open Ver (Bs li li_len S S_self S_size S_li)
open Rl (At Pv Ats Pvs Clss Slc LimA LimP LimC Vars nA nP mem_getD may nmB isV pvA aV pV)
def orM (p:Pk):Int:=orI [mayC p.pre,mayC p.dep,mayC p.rcm,mayA p.con,mayA p.brk,mayP p.prv]
theorem mayK_eq (p:Pk):mayK p = if (nmB p.nm && isV p.vs) = true then orM p else 3:=rfl
def PkV (w:World) (v:Value) (p:Pk):Prop:=∃ u1 u2 u3 u4 u5 u6,v = .agg #[.string (S p.nm),.string (S p.vs),u1,u2,u3,u4,u5,u6,.bool p.ess] ∧ Has w p u1 u2 u3 u4 u5 u6
theorem PkV.below {w w':World} {v:Value} {p:Pk} (h:PkV w v p) (hb:Below w.heap.size w w'):PkV w' v p:=by
 obtain ⟨u1,u2,u3,u4,u5,u6,e,h1⟩:=h
 exact ⟨u1,u2,u3,u4,u5,u6,e,h1.below hb⟩
theorem PkC.val {w:World} {cs:List Value} {p:Pk} (h:PkC w cs p):PkV w (.agg cs.toArray) p:=by
 obtain ⟨u1,u2,u3,u4,u5,u6,e,h1⟩:=h
 exact ⟨u1,u2,u3,u4,u5,u6,by rw [e],h1⟩
set_option maxRecDepth 100000 in
set_option maxHeartbeats 16000000 in
theorem may_any (v:Value) (p:Pk) (w:World) (h:PkV w v p) (hL:p.Lim) (hv:Vars w) :
  Calls Tryz.prog 15 #[v] w fun e w'=>e = .returned (.int .i64 (mayK p)) ∧ Below w.heap.size w w':=by
 obtain ⟨u1,u2,u3,u4,u5,u6,rfl,h1⟩:=h
 rw [mayK_eq]
 obtain ⟨M,hM⟩:∃ M,orM p = M:=⟨_,rfl⟩
 have HM:=Lib.hid hM
 rw [hM]
 have cn:=fun w=>Rl.name_any p.nm w (by have:=hL.nm; omega)
 have cv:=fun w hm=>isVersion_any p.vs w (by have:=hL.vs; omega) hm
 have hb0:=(Below.refl w.heap.size w).alloc (Nat.le_refl _) (.cells #[.string (S p.nm),.string (S p.vs),u1,u2,u3,u4,u5,u6,.bool p.ess] 31)
 have i0:=Blk.Is.new w 31 #[.string (S p.nm),.string (S p.vs),u1,u2,u3,u4,u5,u6,.bool p.ess]
 obtain ⟨W,hW⟩:∃ W,w.alloc (.cells #[.string (S p.nm),.string (S p.vs),u1,u2,u3,u4,u5,u6,.bool p.ess] 31) = W:=⟨_,rfl⟩
 rw [hW] at hb0 i0
 have H:=Lib.hid (h1.below hb0)
 have HL:=Lib.hid hL
 have HV:=Lib.hid (hv.on hb0)
 have HB:=Lib.hid hb0
 have HI:=Lib.hid i0
 have c0:=i0.at (i:=0) rfl
 have c1:=i0.at (i:=1) rfl
 have HCV:=Lib.hid cv
 clear hM h1 hL hv hb0 i0 cv
 generalize S p.nm = N at *
 generalize hvv:S p.vs = V at *
 generalize p.ess = E at *
 clear hvv
 cases hn:nmB p.nm with
 | false =>
  rw [hn] at cn
  simp only [Bool.false_and,Bool.false_eq_true,if_false]
  clear hn HM HL HCV H
  go_enter Tryz.func15,Tryz.ntmps15
  go_wp2_with fail
  refine (cn _).mono ?_
  rintro e w1 ⟨rfl,k1⟩
  have hb1:=HB.out.trans (k1.mono HB.out.size)
  clear cn k1
  go_wp2_with fail
  go_ret
  exact ⟨rfl,hb1⟩
 | true =>
  rw [hn] at cn
  simp only [Bool.true_and]
  cases hq:isV p.vs with
  | false =>
   rw [hq] at HCV
   simp only [Bool.false_eq_true,if_false]
   clear hn hq HM HL H
   go_enter Tryz.func15,Tryz.ntmps15
   go_wp2_with fail
   refine (cn _).mono ?_
   rintro e w1 ⟨rfl,k1⟩
   have hb1:=HB.out.trans (k1.mono HB.out.size)
   have c1':=Rl.cell_on c1 k1
   have ca:=HCV.out _ (HV.out.maxLen.on k1)
   clear cn k1
   go_wp2_with fail
   refine ca.mono ?_
   rintro e w2 ⟨rfl,k2⟩
   have hb2:=hb1.trans (k2.mono hb1.size)
   clear ca k2
   go_wp2_with fail
   go_ret
   exact ⟨rfl,hb2⟩
  | true =>
   rw [hq] at HCV
   simp only [if_true]
   clear hn hq
   go_enter Tryz.func15,Tryz.ntmps15
   go_wp2_with fail
   refine (cn _).mono ?_
   rintro e w1 ⟨rfl,k1⟩
   have hb1:=HB.out.trans (k1.mono HB.out.size)
   have c1':=Rl.cell_on c1 k1
   have ca:=HCV.out _ (HV.out.maxLen.on k1)
   have K1:=Lib.hid k1
   clear cn k1
   go_wp2_with fail
   refine ca.mono ?_
   rintro e w2 ⟨rfl,k2⟩
   have hb2:=hb1.trans (k2.mono hb1.size)
   have k12:=K1.out.trans (k2.mono K1.out.size)
   have HV2:=Lib.hid (HV.out.on k12)
   have H2:=Lib.hid (H.out.below k12)
   have i2:=Rl.is_on HI.out k12
   have HB2:=Lib.hid hb2
   clear ca k2 c0 c1 c1' hb1 hb2 k12 K1 HCV
   have L2:∀ u,Below w2.heap.size w2 u → u.cell? ⟨w.heap.size,2,none⟩ = some u1:=fun u hu=>Rl.cell_on (i2.at (i:=2) rfl) hu
   have L3:∀ u,Below w2.heap.size w2 u → u.cell? ⟨w.heap.size,3,none⟩ = some u2:=fun u hu=>Rl.cell_on (i2.at (i:=3) rfl) hu
   have L4:∀ u,Below w2.heap.size w2 u → u.cell? ⟨w.heap.size,4,none⟩ = some u3:=fun u hu=>Rl.cell_on (i2.at (i:=4) rfl) hu
   have L5:∀ u,Below w2.heap.size w2 u → u.cell? ⟨w.heap.size,5,none⟩ = some u4:=fun u hu=>Rl.cell_on (i2.at (i:=5) rfl) hu
   have L6:∀ u,Below w2.heap.size w2 u → u.cell? ⟨w.heap.size,6,none⟩ = some u5:=fun u hu=>Rl.cell_on (i2.at (i:=6) rfl) hu
   have L7:∀ u,Below w2.heap.size w2 u → u.cell? ⟨w.heap.size,7,none⟩ = some u6:=fun u hu=>Rl.cell_on (i2.at (i:=7) rfl) hu
   clear i2
   have HL2:=Lib.hid L2
   have HL3:=Lib.hid L3
   have HL4:=Lib.hid L4
   have HL5:=Lib.hid L5
   have HL6:=Lib.hid L6
   have HL7:=Lib.hid L7
   clear L2 L3 L4 L5 L6 L7
   go_wp2_with fail
   refine wp_region_held (S:=fun u=>Below w2.heap.size w2 u) (by kernel_rfl) ?_
   have hS0:Below w2.heap.size w2 w2.drew:=(Below.refl _ _).drew
   change wpAnyH _ _ _ _ _ 21 _ _ w2.drew
   generalize w2.drew = u0 at *
   refine wpAnyH_take (i:=0) (v:=.pointer (some ⟨w.heap.size,2,none⟩)) rfl (by kernel_rfl) (by kernel_rfl) (by kernel_rfl) (fun _ _ _ h=>h) (.inl ⟨rfl,fun w _=>rfl⟩) hS0 ?_
   simp only [Act.put,List.getElem_toArray,List.getElem_cons_zero,List.getElem_cons_succ,List.setIfInBounds_toArray,List.set_cons_zero,List.set_cons_succ]
   refine wpAnyH_take (i:=1) (v:=u1) rfl (by kernel_rfl) (by kernel_rfl) (by kernel_rfl) (fun _ _ _ h=>h) (Held.load1 rfl 27 (.tmp 13) rfl w.heap.size 2 rfl _ _ HL2.out Tryz.underlying27 rfl) hS0 ?_
   simp only [Act.put,List.getElem_toArray,List.getElem_cons_zero,List.getElem_cons_succ,List.setIfInBounds_toArray,List.set_cons_zero,List.set_cons_succ]
   refine wpAnyH_take (i:=3) (v:=.pointer (some ⟨w.heap.size,3,none⟩)) rfl (by kernel_rfl) (by kernel_rfl) (by kernel_rfl) (fun _ _ _ h=>h) (.inl ⟨rfl,fun w _=>rfl⟩) hS0 ?_
   simp only [Act.put,List.getElem_toArray,List.getElem_cons_zero,List.getElem_cons_succ,List.setIfInBounds_toArray,List.set_cons_zero,List.set_cons_succ]
   refine wpAnyH_take (i:=4) (v:=u2) rfl (by kernel_rfl) (by kernel_rfl) (by kernel_rfl) (fun _ _ _ h=>h) (Held.load1 rfl 27 (.tmp 16) rfl w.heap.size 3 rfl _ _ HL3.out Tryz.underlying27 rfl) hS0 ?_
   simp only [Act.put,List.getElem_toArray,List.getElem_cons_zero,List.getElem_cons_succ,List.setIfInBounds_toArray,List.set_cons_zero,List.set_cons_succ]
   refine wpAnyH_take (i:=6) (v:=.pointer (some ⟨w.heap.size,4,none⟩)) rfl (by kernel_rfl) (by kernel_rfl) (by kernel_rfl) (fun _ _ _ h=>h) (.inl ⟨rfl,fun w _=>rfl⟩) hS0 ?_
   simp only [Act.put,List.getElem_toArray,List.getElem_cons_zero,List.getElem_cons_succ,List.setIfInBounds_toArray,List.set_cons_zero,List.set_cons_succ]
   refine wpAnyH_take (i:=7) (v:=u3) rfl (by kernel_rfl) (by kernel_rfl) (by kernel_rfl) (fun _ _ _ h=>h) (Held.load1 rfl 27 (.tmp 19) rfl w.heap.size 4 rfl _ _ HL4.out Tryz.underlying27 rfl) hS0 ?_
   simp only [Act.put,List.getElem_toArray,List.getElem_cons_zero,List.getElem_cons_succ,List.setIfInBounds_toArray,List.set_cons_zero,List.set_cons_succ]
   refine wpAnyH_take (i:=9) (v:=.pointer (some ⟨w.heap.size,5,none⟩)) rfl (by kernel_rfl) (by kernel_rfl) (by kernel_rfl) (fun _ _ _ h=>h) (.inl ⟨rfl,fun w _=>rfl⟩) hS0 ?_
   simp only [Act.put,List.getElem_toArray,List.getElem_cons_zero,List.getElem_cons_succ,List.setIfInBounds_toArray,List.set_cons_zero,List.set_cons_succ]
   refine wpAnyH_take (i:=10) (v:=u4) rfl (by kernel_rfl) (by kernel_rfl) (by kernel_rfl) (fun _ _ _ h=>h) (Held.load1 rfl 28 (.tmp 22) rfl w.heap.size 5 rfl _ _ HL5.out Tryz.underlying28 rfl) hS0 ?_
   simp only [Act.put,List.getElem_toArray,List.getElem_cons_zero,List.getElem_cons_succ,List.setIfInBounds_toArray,List.set_cons_zero,List.set_cons_succ]
   refine wpAnyH_take (i:=12) (v:=.pointer (some ⟨w.heap.size,6,none⟩)) rfl (by kernel_rfl) (by kernel_rfl) (by kernel_rfl) (fun _ _ _ h=>h) (.inl ⟨rfl,fun w _=>rfl⟩) hS0 ?_
   simp only [Act.put,List.getElem_toArray,List.getElem_cons_zero,List.getElem_cons_succ,List.setIfInBounds_toArray,List.set_cons_zero,List.set_cons_succ]
   refine wpAnyH_take (i:=13) (v:=u5) rfl (by kernel_rfl) (by kernel_rfl) (by kernel_rfl) (fun _ _ _ h=>h) (Held.load1 rfl 28 (.tmp 25) rfl w.heap.size 6 rfl _ _ HL6.out Tryz.underlying28 rfl) hS0 ?_
   simp only [Act.put,List.getElem_toArray,List.getElem_cons_zero,List.getElem_cons_succ,List.setIfInBounds_toArray,List.set_cons_zero,List.set_cons_succ]
   refine wpAnyH_take (i:=15) (v:=.pointer (some ⟨w.heap.size,7,none⟩)) rfl (by kernel_rfl) (by kernel_rfl) (by kernel_rfl) (fun _ _ _ h=>h) (.inl ⟨rfl,fun w _=>rfl⟩) hS0 ?_
   simp only [Act.put,List.getElem_toArray,List.getElem_cons_zero,List.getElem_cons_succ,List.setIfInBounds_toArray,List.set_cons_zero,List.set_cons_succ]
   refine wpAnyH_take (i:=16) (v:=u6) rfl (by kernel_rfl) (by kernel_rfl) (by kernel_rfl) (fun _ _ _ h=>h) (Held.load1 rfl 29 (.tmp 28) rfl w.heap.size 7 rfl _ _ HL7.out Tryz.underlying29 rfl) hS0 ?_
   simp only [Act.put,List.getElem_toArray,List.getElem_cons_zero,List.getElem_cons_succ,List.setIfInBounds_toArray,List.set_cons_zero,List.set_cons_succ]
   have cx:=mayClauses_any _ p.pre u0 (H2.out.pre.below hS0) HL.out.pre (HV2.out.on hS0)
   refine wpAnyH_all (rs:=[2]) (by kernel_rfl) (by simp) ?_
   intro i hi
   obtain rfl:=List.mem_singleton.1 hi
   refine Reg.wpOp_list rfl ?_
   go_wp2_with fail
   refine cx.mono ?_
   rintro e u1 ⟨rfl,k1⟩
   go_wp2_with fail
   change _ ∧ _
   have hS1:Below w2.heap.size w2 u1:=hS0.trans (k1.mono hS0.size)
   refine ⟨hS1,?_⟩
   clear cx
   have cx:=mayClauses_any _ p.dep u1 (H2.out.dep.below hS1) HL.out.dep (HV2.out.on hS1)
   refine wpAnyH_all (rs:=[5]) (by kernel_rfl) (by simp) ?_
   intro i hi
   obtain rfl:=List.mem_singleton.1 hi
   refine Reg.wpOp_list rfl ?_
   go_wp2_with fail
   refine cx.mono ?_
   rintro e u2 ⟨rfl,k2⟩
   go_wp2_with fail
   change _ ∧ _
   have hS2:Below w2.heap.size w2 u2:=hS1.trans (k2.mono hS1.size)
   refine ⟨hS2,?_⟩
   clear cx
   have cx:=mayClauses_any _ p.rcm u2 (H2.out.rcm.below hS2) HL.out.rcm (HV2.out.on hS2)
   refine wpAnyH_all (rs:=[8]) (by kernel_rfl) (by simp) ?_
   intro i hi
   obtain rfl:=List.mem_singleton.1 hi
   refine Reg.wpOp_list rfl ?_
   go_wp2_with fail
   refine cx.mono ?_
   rintro e u3 ⟨rfl,k3⟩
   go_wp2_with fail
   change _ ∧ _
   have hS3:Below w2.heap.size w2 u3:=hS2.trans (k3.mono hS2.size)
   refine ⟨hS3,?_⟩
   clear cx
   have cx:=mayItemsA_any _ p.con u3 (H2.out.con.below hS3) HL.out.con (HV2.out.on hS3)
   refine wpAnyH_all (rs:=[11]) (by kernel_rfl) (by simp) ?_
   intro i hi
   obtain rfl:=List.mem_singleton.1 hi
   refine Reg.wpOp_list rfl ?_
   go_wp2_with fail
   refine cx.mono ?_
   rintro e u4 ⟨rfl,k4⟩
   go_wp2_with fail
   change _ ∧ _
   have hS4:Below w2.heap.size w2 u4:=hS3.trans (k4.mono hS3.size)
   refine ⟨hS4,?_⟩
   clear cx
   have cx:=mayItemsA_any _ p.brk u4 (H2.out.brk.below hS4) HL.out.brk (HV2.out.on hS4)
   refine wpAnyH_all (rs:=[14]) (by kernel_rfl) (by simp) ?_
   intro i hi
   obtain rfl:=List.mem_singleton.1 hi
   refine Reg.wpOp_list rfl ?_
   go_wp2_with fail
   refine cx.mono ?_
   rintro e u5 ⟨rfl,k5⟩
   go_wp2_with fail
   change _ ∧ _
   have hS5:Below w2.heap.size w2 u5:=hS4.trans (k5.mono hS4.size)
   refine ⟨hS5,?_⟩
   clear cx
   have cx:=mayItemsP_any _ p.prv u5 (H2.out.prv.below hS5) HL.out.prv (HV2.out.on hS5)
   refine wpAnyH_all (rs:=[17]) (by kernel_rfl) (by simp) ?_
   intro i hi
   obtain rfl:=List.mem_singleton.1 hi
   refine Reg.wpOp_list rfl ?_
   go_wp2_with fail
   refine cx.mono ?_
   rintro e u6 ⟨rfl,k6⟩
   go_wp2_with fail
   change _ ∧ _
   have hS6:Below w2.heap.size w2 u6:=hS5.trans (k6.mono hS5.size)
   refine ⟨hS6,?_⟩
   clear cx
   have HO:Hid (orI [mayC p.pre,mayC p.dep,mayC p.rcm,mayA p.con,mayA p.brk,mayP p.prv] = M):=HM.out
   generalize mayC p.pre = m1 at *
   generalize mayC p.dep = m2 at *
   generalize mayC p.rcm = m3 at *
   generalize mayA p.con = m4 at *
   generalize mayA p.brk = m5 at *
   generalize mayP p.prv = m6 at *
   have hSL:Below u6.heap.size u6 (u6.alloc (.cells #[.int .i64 m1,.int .i64 m2,.int .i64 m3,.int .i64 m4,.int .i64 m5,.int .i64 m6] 32)):=(Below.refl _ _).alloc (Nat.le_refl _) _
   have iSL:=Blk.Is.new u6 32 #[.int .i64 m1,.int .i64 m2,.int .i64 m3,.int .i64 m4,.int .i64 m5,.int .i64 m6]
   have hS7:=hS6.trans (hSL.mono hS6.size)
   refine wpAnyH_all (rs:=[18]) (by kernel_rfl) (by simp) ?_
   intro i hi
   obtain rfl:=List.mem_singleton.1 hi
   refine Reg.wpOp_list rfl ?_
   go_wp2_with fail
   change _ ∧ _
   refine ⟨hS7,?_⟩
   have cx:=cmpOrE_any [m1,m2,m3,m4,m5,m6] u6.heap.size _ (by simp) (fun i hi=>by
    match i,hi with
    | 0,_=>exact iSL.at (i:=0) rfl
    | 1,_=>exact iSL.at (i:=1) rfl
    | 2,_=>exact iSL.at (i:=2) rfl
    | 3,_=>exact iSL.at (i:=3) rfl
    | 4,_=>exact iSL.at (i:=4) rfl
    | 5,_=>exact iSL.at (i:=5) rfl)
   rw [orl_orI,HO.out] at cx
   clear iSL hSL
   generalize (u6.alloc (.cells #[.int .i64 m1,.int .i64 m2,.int .i64 m3,.int .i64 m4,.int .i64 m5,.int .i64 m6] 32)) = u7 at *
   refine wpAnyH_all (rs:=[19]) (by kernel_rfl) (by simp) ?_
   intro i hi
   obtain rfl:=List.mem_singleton.1 hi
   refine Reg.wpOp_list rfl ?_
   go_wp2_with fail
   refine cx.mono ?_
   rintro e u8 ⟨rfl,rfl⟩
   go_wp2_with fail
   change _ ∧ _
   refine ⟨hS7,?_⟩
   clear cx
   refine wpAnyH_all (rs:=[20]) (by kernel_rfl) (by simp) ?_
   intro i hi
   obtain rfl:=List.mem_singleton.1 hi
   refine Reg.wpOp_list rfl ?_
   go_wp2_with fail
   change _ ∧ _
   refine ⟨hS7,?_⟩
   refine wpAnyH_done (by kernel_rfl) ?_ _
   have hK:=HB2.out.trans (hS7.mono HB2.out.size)
   go_wp2_with fail
   go_ret
   exact ⟨rfl,hK⟩
end Rc
end Go.Proofs.YthmpepnikmdjpaaGreatDoor
namespace Go.Proofs.YthmpepnikmdjpaaGreatDoor
open Go.RowKit
set_option linter.unusedSimpArgs false
set_option linter.unusedVariables false
namespace Rc
open Ver (Bs li li_len S S_self S_size S_li sameV)
open Va (Hi Vl VAt wrT)
open Rl (At Pv Ats Pvs Clss Slc LimA LimP LimC Vars nA nP mem_getD may nmB isV pvA aV pV tcells)
def yesI (b:Bool):Value:=if b = true then .iface 4 (.bool true) else .nilIface
theorem yes_at (b:Bool) (B:Nat) (w:World):VAt B w (yesI b) (yesV b):=by cases b <;> rfl
set_option maxRecDepth 100000 in
set_option maxHeartbeats 2000000 in
theorem ofYes_any (b:Bool) (w:World):Calls Tryz.prog 122 #[.bool b] w fun e w'=>e = .returned (.agg #[yesI b]) ∧ Below w.heap.size w w':=by
 have hb0:Below w.heap.size w (w.alloc (.cells #[.nilIface] 97)):=(Below.refl _ _).alloc (Nat.le_refl _) _
 have i0:=Blk.Is.new w 97 #[.nilIface]
 cases b with
 | false =>
  go_enter Tryz.func122,Tryz.ntmps122
  go_wp2_with fail
  go_returns
  exact ⟨rfl,hb0⟩
 | true =>
  have c:=Va.ofYes_any (.bool true) (w.alloc (.cells #[.nilIface] 97))
  go_enter Tryz.func122,Tryz.ntmps122
  go_wp2_with fail
  refine c.mono ?_
  rintro e w1 ⟨rfl,k1⟩
  have hb1:=hb0.trans (k1.mono hb0.size)
  have i1:=Rl.is_on i0 k1
  have c1:w1.cell? ⟨w.heap.size,0,none⟩ = some .nilIface:=i1.at (i:=0) rfl
  have f1:=i1.free 0
  have hb2:=Va.below_row hb1 (Nat.le_refl _) #[.iface 4 (.bool true)]
  have hset:w1.setCell ⟨w.heap.size,0,none⟩ (.iface 4 (.bool true)) = w1.setRow w.heap.size #[.iface 4 (.bool true)]:=setCell_eq_setRow w1 w.heap.size 0 #[.nilIface] 97 (0,0) _ i1
  have rz:=(i1.row #[.iface 4 (.bool true)]).at (i:=0) rfl
  have HS:=Lib.hid hset
  have HB:=Lib.hid hb2
  clear hb0 i0 c k1 hb1 i1 hb2 hset
  go_wp2_with fail
  rw [HS.out]
  refine bodyPost_ret (v:=.agg #[.iface 4 (.bool true)]) (by simp [results,Tryz.results122,go_sem,rz]) rfl ?_
  exact ⟨rfl,HB.out⟩
set_option maxRecDepth 100000 in
set_option maxHeartbeats 8000000 in
theorem ofPackage_any (v:Value) (p:Pk) (w:World) (h:PkV w v p) (hok:Ok p) :
  Calls Tryz.prog 68 #[v] w fun e w'=>∃ cs,e = .returned (.agg cs) ∧ Vs w.heap.size w' cs (valsP p) ∧ Below w.heap.size w w':=by
 obtain ⟨u1,u2,u3,u4,u5,u6,rfl,h1⟩:=h
 obtain ⟨W,hW,hBW,hsz,hI0,hI1⟩:=two_new w 31 99 #[.string (S p.nm),.string (S p.vs),u1,u2,u3,u4,u5,u6,.bool p.ess] nils
 unfold nils at hW
 have l3:=mayC_ok hok.pre
 have l4:=mayC_ok hok.dep
 have l5:=mayC_ok hok.rcm
 have m1:=l3.1
 have m2:=l4.1
 have m3:=l5.1
 have m4:=(mayA_ok hok.con).1
 have m5:=(mayA_ok hok.brk).1
 have m6:=(mayP_ok hok.prv).1
 have LE:=Lib.hid (⟨l3,l4,l5⟩:_ ∧ _ ∧ _)
 have HH:=Lib.hid h1
 have HBW:=Lib.hid hBW
 have I0:=Lib.hid hI0
 have I1:=Lib.hid hI1
 have hi2:(Tryz.prog.info? 99).map (·.size) = some 11:=by kernel_rfl
 clear l3 l4 l5 h1 hBW hI0 hI1 hok
 go_enter Tryz.func68,Tryz.ntmps68
 go_wp2_with fail
 refine wp_region_held (S:=fun u=>Blk.Is u w.heap.size 31 #[.string (S p.nm),.string (S p.vs),u1,u2,u3,u4,u5,u6,.bool p.ess]) (by kernel_rfl) ?_
 have hS0:=I0.out.drew
 have hB0:Below W.heap.size W W.drew:=(Below.refl _ _).drew
 change wpAnyH _ _ _ _ _ 29 _ _ W.drew
 clear I0
 generalize W.drew = x0 at *
 refine wpAnyH_take (i:=0) (v:=.pointer (some ⟨w.heap.size,0,none⟩)) rfl (by kernel_rfl) (by kernel_rfl) (by kernel_rfl) (fun _ _ _ h=>h) (.inl ⟨rfl,fun w _=>rfl⟩) hS0 ?_
 simp only [Act.put,List.getElem_toArray,List.getElem_cons_zero,List.getElem_cons_succ,List.setIfInBounds_toArray,List.set_cons_zero,List.set_cons_succ]
 refine wpAnyH_take (i:=1) (v:=.string (S p.nm)) rfl (by kernel_rfl) (by kernel_rfl) (by kernel_rfl) (fun _ _ _ h=>h) (Held.load1 rfl 9 (.tmp 3) rfl w.heap.size 0 rfl _ _ (fun u h=>h.at (i:=0) rfl) Tryz.underlying9 rfl) hS0 ?_
 simp only [Act.put,List.getElem_toArray,List.getElem_cons_zero,List.getElem_cons_succ,List.setIfInBounds_toArray,List.set_cons_zero,List.set_cons_succ]
 refine wpAnyH_take (i:=3) (v:=.pointer (some ⟨w.heap.size,1,none⟩)) rfl (by kernel_rfl) (by kernel_rfl) (by kernel_rfl) (fun _ _ _ h=>h) (.inl ⟨rfl,fun w _=>rfl⟩) hS0 ?_
 simp only [Act.put,List.getElem_toArray,List.getElem_cons_zero,List.getElem_cons_succ,List.setIfInBounds_toArray,List.set_cons_zero,List.set_cons_succ]
 refine wpAnyH_take (i:=4) (v:=.string (S p.vs)) rfl (by kernel_rfl) (by kernel_rfl) (by kernel_rfl) (fun _ _ _ h=>h) (Held.load1 rfl 9 (.tmp 6) rfl w.heap.size 1 rfl _ _ (fun u h=>h.at (i:=1) rfl) Tryz.underlying9 rfl) hS0 ?_
 simp only [Act.put,List.getElem_toArray,List.getElem_cons_zero,List.getElem_cons_succ,List.setIfInBounds_toArray,List.set_cons_zero,List.set_cons_succ]
 refine wpAnyH_take (i:=6) (v:=.pointer (some ⟨w.heap.size,8,none⟩)) rfl (by kernel_rfl) (by kernel_rfl) (by kernel_rfl) (fun _ _ _ h=>h) (.inl ⟨rfl,fun w _=>rfl⟩) hS0 ?_
 simp only [Act.put,List.getElem_toArray,List.getElem_cons_zero,List.getElem_cons_succ,List.setIfInBounds_toArray,List.set_cons_zero,List.set_cons_succ]
 refine wpAnyH_take (i:=7) (v:=.bool p.ess) rfl (by kernel_rfl) (by kernel_rfl) (by kernel_rfl) (fun _ _ _ h=>h) (Held.load1 rfl 4 (.tmp 9) rfl w.heap.size 8 rfl _ _ (fun u h=>h.at (i:=8) rfl) Tryz.underlying4 rfl) hS0 ?_
 simp only [Act.put,List.getElem_toArray,List.getElem_cons_zero,List.getElem_cons_succ,List.setIfInBounds_toArray,List.set_cons_zero,List.set_cons_succ]
 refine wpAnyH_take (i:=9) (v:=.pointer (some ⟨w.heap.size,2,none⟩)) rfl (by kernel_rfl) (by kernel_rfl) (by kernel_rfl) (fun _ _ _ h=>h) (.inl ⟨rfl,fun w _=>rfl⟩) hS0 ?_
 simp only [Act.put,List.getElem_toArray,List.getElem_cons_zero,List.getElem_cons_succ,List.setIfInBounds_toArray,List.set_cons_zero,List.set_cons_succ]
 refine wpAnyH_take (i:=10) (v:=u1) rfl (by kernel_rfl) (by kernel_rfl) (by kernel_rfl) (fun _ _ _ h=>h) (Held.load1 rfl 27 (.tmp 12) rfl w.heap.size 2 rfl _ _ (fun u h=>h.at (i:=2) rfl) Tryz.underlying27 rfl) hS0 ?_
 simp only [Act.put,List.getElem_toArray,List.getElem_cons_zero,List.getElem_cons_succ,List.setIfInBounds_toArray,List.set_cons_zero,List.set_cons_succ]
 refine wpAnyH_take (i:=12) (v:=.pointer (some ⟨w.heap.size,3,none⟩)) rfl (by kernel_rfl) (by kernel_rfl) (by kernel_rfl) (fun _ _ _ h=>h) (.inl ⟨rfl,fun w _=>rfl⟩) hS0 ?_
 simp only [Act.put,List.getElem_toArray,List.getElem_cons_zero,List.getElem_cons_succ,List.setIfInBounds_toArray,List.set_cons_zero,List.set_cons_succ]
 refine wpAnyH_take (i:=13) (v:=u2) rfl (by kernel_rfl) (by kernel_rfl) (by kernel_rfl) (fun _ _ _ h=>h) (Held.load1 rfl 27 (.tmp 15) rfl w.heap.size 3 rfl _ _ (fun u h=>h.at (i:=3) rfl) Tryz.underlying27 rfl) hS0 ?_
 simp only [Act.put,List.getElem_toArray,List.getElem_cons_zero,List.getElem_cons_succ,List.setIfInBounds_toArray,List.set_cons_zero,List.set_cons_succ]
 refine wpAnyH_take (i:=15) (v:=.pointer (some ⟨w.heap.size,4,none⟩)) rfl (by kernel_rfl) (by kernel_rfl) (by kernel_rfl) (fun _ _ _ h=>h) (.inl ⟨rfl,fun w _=>rfl⟩) hS0 ?_
 simp only [Act.put,List.getElem_toArray,List.getElem_cons_zero,List.getElem_cons_succ,List.setIfInBounds_toArray,List.set_cons_zero,List.set_cons_succ]
 refine wpAnyH_take (i:=16) (v:=u3) rfl (by kernel_rfl) (by kernel_rfl) (by kernel_rfl) (fun _ _ _ h=>h) (Held.load1 rfl 27 (.tmp 18) rfl w.heap.size 4 rfl _ _ (fun u h=>h.at (i:=4) rfl) Tryz.underlying27 rfl) hS0 ?_
 simp only [Act.put,List.getElem_toArray,List.getElem_cons_zero,List.getElem_cons_succ,List.setIfInBounds_toArray,List.set_cons_zero,List.set_cons_succ]
 refine wpAnyH_take (i:=18) (v:=.pointer (some ⟨w.heap.size,5,none⟩)) rfl (by kernel_rfl) (by kernel_rfl) (by kernel_rfl) (fun _ _ _ h=>h) (.inl ⟨rfl,fun w _=>rfl⟩) hS0 ?_
 simp only [Act.put,List.getElem_toArray,List.getElem_cons_zero,List.getElem_cons_succ,List.setIfInBounds_toArray,List.set_cons_zero,List.set_cons_succ]
 refine wpAnyH_take (i:=19) (v:=u4) rfl (by kernel_rfl) (by kernel_rfl) (by kernel_rfl) (fun _ _ _ h=>h) (Held.load1 rfl 28 (.tmp 21) rfl w.heap.size 5 rfl _ _ (fun u h=>h.at (i:=5) rfl) Tryz.underlying28 rfl) hS0 ?_
 simp only [Act.put,List.getElem_toArray,List.getElem_cons_zero,List.getElem_cons_succ,List.setIfInBounds_toArray,List.set_cons_zero,List.set_cons_succ]
 refine wpAnyH_take (i:=21) (v:=.pointer (some ⟨w.heap.size,6,none⟩)) rfl (by kernel_rfl) (by kernel_rfl) (by kernel_rfl) (fun _ _ _ h=>h) (.inl ⟨rfl,fun w _=>rfl⟩) hS0 ?_
 simp only [Act.put,List.getElem_toArray,List.getElem_cons_zero,List.getElem_cons_succ,List.setIfInBounds_toArray,List.set_cons_zero,List.set_cons_succ]
 refine wpAnyH_take (i:=22) (v:=u5) rfl (by kernel_rfl) (by kernel_rfl) (by kernel_rfl) (fun _ _ _ h=>h) (Held.load1 rfl 28 (.tmp 24) rfl w.heap.size 6 rfl _ _ (fun u h=>h.at (i:=6) rfl) Tryz.underlying28 rfl) hS0 ?_
 simp only [Act.put,List.getElem_toArray,List.getElem_cons_zero,List.getElem_cons_succ,List.setIfInBounds_toArray,List.set_cons_zero,List.set_cons_succ]
 refine wpAnyH_take (i:=24) (v:=.pointer (some ⟨w.heap.size,7,none⟩)) rfl (by kernel_rfl) (by kernel_rfl) (by kernel_rfl) (fun _ _ _ h=>h) (.inl ⟨rfl,fun w _=>rfl⟩) hS0 ?_
 simp only [Act.put,List.getElem_toArray,List.getElem_cons_zero,List.getElem_cons_succ,List.setIfInBounds_toArray,List.set_cons_zero,List.set_cons_succ]
 refine wpAnyH_take (i:=25) (v:=u6) rfl (by kernel_rfl) (by kernel_rfl) (by kernel_rfl) (fun _ _ _ h=>h) (Held.load1 rfl 29 (.tmp 27) rfl w.heap.size 7 rfl _ _ (fun u h=>h.at (i:=7) rfl) Tryz.underlying29 rfl) hS0 ?_
 simp only [Act.put,List.getElem_toArray,List.getElem_cons_zero,List.getElem_cons_succ,List.setIfInBounds_toArray,List.set_cons_zero,List.set_cons_succ]
 have cx:=Va.ofText_any (.string (S p.nm)) x0
 refine wpAnyH_all (rs:=[2]) (by kernel_rfl) (by simp) ?_
 intro i hi
 obtain rfl:=List.mem_singleton.1 hi
 refine Reg.wpOp_list rfl ?_
 go_wp2_with fail
 refine cx.mono ?_
 rintro e x1 ⟨rfl,k1⟩
 go_wp2_with fail
 change _ ∧ _
 have hS1:=Rl.is_on hS0 k1
 have hB1:=hB0.trans (k1.mono hB0.size)
 refine ⟨hS1,?_⟩
 clear cx k1
 have cx:=Va.ofText_any (.string (S p.vs)) x1
 refine wpAnyH_all (rs:=[5]) (by kernel_rfl) (by simp) ?_
 intro i hi
 obtain rfl:=List.mem_singleton.1 hi
 refine Reg.wpOp_list rfl ?_
 go_wp2_with fail
 refine cx.mono ?_
 rintro e x2 ⟨rfl,k2⟩
 go_wp2_with fail
 change _ ∧ _
 have hS2:=Rl.is_on hS1 k2
 have hB2:=hB1.trans (k2.mono hB1.size)
 refine ⟨hS2,?_⟩
 clear cx k2
 have cx:=ofYes_any p.ess x2
 refine wpAnyH_all (rs:=[8]) (by kernel_rfl) (by simp) ?_
 intro i hi
 obtain rfl:=List.mem_singleton.1 hi
 refine Reg.wpOp_list rfl ?_
 go_wp2_with fail
 refine cx.mono ?_
 rintro e x3 ⟨rfl,k3⟩
 go_wp2_with fail
 change _ ∧ _
 have hS3:=Rl.is_on hS2 k3
 have hB3:=hB2.trans (k3.mono hB2.size)
 refine ⟨hS3,?_⟩
 clear cx k3
 have cx:=Va.ofClauses_any _ p.pre x3 (HH.out.pre.below (HBW.out.trans (hB3.mono HBW.out.size))) (by omega) (fun c hc=>by have:=(LE.out.1.2 c hc); omega)
 refine wpAnyH_all (rs:=[11]) (by kernel_rfl) (by simp) ?_
 intro i hi
 obtain rfl:=List.mem_singleton.1 hi
 refine Reg.wpOp_list rfl ?_
 go_wp2_with fail
 refine cx.mono ?_
 rintro e x4 ⟨i4,rfl,s4,t4,k4⟩
 go_wp2_with fail
 change _ ∧ _
 have hS4:=Rl.is_on hS3 k4
 have hB4:=hB3.trans (k4.mono hB3.size)
 refine ⟨hS4,?_⟩
 have t4:=t4.mono hB3.size
 clear cx k4
 have cx:=Va.ofClauses_any _ p.dep x4 (HH.out.dep.below (HBW.out.trans (hB4.mono HBW.out.size))) (by omega) (fun c hc=>by have:=(LE.out.2.1.2 c hc); omega)
 refine wpAnyH_all (rs:=[14]) (by kernel_rfl) (by simp) ?_
 intro i hi
 obtain rfl:=List.mem_singleton.1 hi
 refine Reg.wpOp_list rfl ?_
 go_wp2_with fail
 refine cx.mono ?_
 rintro e x5 ⟨i5,rfl,s5,t5,k5⟩
 go_wp2_with fail
 change _ ∧ _
 have hS5:=Rl.is_on hS4 k5
 have hB5:=hB4.trans (k5.mono hB4.size)
 refine ⟨hS5,?_⟩
 have t5:=t5.mono hB4.size
 have t4:=t4.below k5
 clear cx k5
 have cx:=Va.ofClauses_any _ p.rcm x5 (HH.out.rcm.below (HBW.out.trans (hB5.mono HBW.out.size))) (by omega) (fun c hc=>by have:=(LE.out.2.2.2 c hc); omega)
 refine wpAnyH_all (rs:=[17]) (by kernel_rfl) (by simp) ?_
 intro i hi
 obtain rfl:=List.mem_singleton.1 hi
 refine Reg.wpOp_list rfl ?_
 go_wp2_with fail
 refine cx.mono ?_
 rintro e x6 ⟨i6,rfl,s6,t6,k6⟩
 go_wp2_with fail
 change _ ∧ _
 have hS6:=Rl.is_on hS5 k6
 have hB6:=hB5.trans (k6.mono hB5.size)
 refine ⟨hS6,?_⟩
 have t6:=t6.mono hB5.size
 have t4:=t4.below k6
 have t5:=t5.below k6
 clear cx k6
 have cx:=Va.ofAtoms_any _ p.con x6 (HH.out.con.below (HBW.out.trans (hB6.mono HBW.out.size))) (by omega)
 refine wpAnyH_all (rs:=[20]) (by kernel_rfl) (by simp) ?_
 intro i hi
 obtain rfl:=List.mem_singleton.1 hi
 refine Reg.wpOp_list rfl ?_
 go_wp2_with fail
 refine cx.mono ?_
 rintro e x7 ⟨i7,rfl,s7,t7,k7⟩
 go_wp2_with fail
 change _ ∧ _
 have hS7:=Rl.is_on hS6 k7
 have hB7:=hB6.trans (k7.mono hB6.size)
 refine ⟨hS7,?_⟩
 have t7:=t7.mono hB6.size
 have t4:=t4.below k7
 have t5:=t5.below k7
 have t6:=t6.below k7
 clear cx k7
 have cx:=Va.ofAtoms_any _ p.brk x7 (HH.out.brk.below (HBW.out.trans (hB7.mono HBW.out.size))) (by omega)
 refine wpAnyH_all (rs:=[23]) (by kernel_rfl) (by simp) ?_
 intro i hi
 obtain rfl:=List.mem_singleton.1 hi
 refine Reg.wpOp_list rfl ?_
 go_wp2_with fail
 refine cx.mono ?_
 rintro e x8 ⟨i8,rfl,s8,t8,k8⟩
 go_wp2_with fail
 change _ ∧ _
 have hS8:=Rl.is_on hS7 k8
 have hB8:=hB7.trans (k8.mono hB7.size)
 refine ⟨hS8,?_⟩
 have t8:=t8.mono hB7.size
 have t4:=t4.below k8
 have t5:=t5.below k8
 have t6:=t6.below k8
 have t7:=t7.below k8
 clear cx k8
 have cx:=Va.ofProvides_any _ p.prv x8 (HH.out.prv.below (HBW.out.trans (hB8.mono HBW.out.size))) (by omega)
 refine wpAnyH_all (rs:=[26]) (by kernel_rfl) (by simp) ?_
 intro i hi
 obtain rfl:=List.mem_singleton.1 hi
 refine Reg.wpOp_list rfl ?_
 go_wp2_with fail
 refine cx.mono ?_
 rintro e x9 ⟨i9,rfl,s9,t9,k9⟩
 go_wp2_with fail
 change _ ∧ _
 have hS9:=Rl.is_on hS8 k9
 have hB9:=hB8.trans (k9.mono hB8.size)
 refine ⟨hS9,?_⟩
 have t9:=t9.mono hB8.size
 have t4:=t4.below k9
 have t5:=t5.below k9
 have t6:=t6.below k9
 have t7:=t7.below k9
 have t8:=t8.below k9
 clear cx k9
 have hV:Vs W.heap.size x9 #[.iface 9 (.string (S p.nm)),.iface 9 (.string (S p.vs)),yesI p.ess,i4,i5,i6,i7,i8,i9,.nilIface,.nilIface] (valsP p):=⟨rfl,fun i hi=>by
  match i,hi with
  | 0,_=>exact ⟨_,rfl,rfl⟩
  | 1,_=>exact ⟨_,rfl,rfl⟩
  | 2,_=>exact ⟨_,rfl,yes_at _ _ _⟩
  | 3,_=>exact ⟨_,rfl,t4⟩
  | 4,_=>exact ⟨_,rfl,t5⟩
  | 5,_=>exact ⟨_,rfl,t6⟩
  | 6,_=>exact ⟨_,rfl,t7⟩
  | 7,_=>exact ⟨_,rfl,t8⟩
  | 8,_=>exact ⟨_,rfl,t9⟩
  | 9,_=>exact ⟨_,rfl,rfl⟩
  | 10,_=>exact ⟨_,rfl,rfl⟩⟩
 have hone:=one_all hV
 have V:=Lib.hid hV
 have iv:=Rl.is_on I1.out hB9
 refine wpAnyH_all (rs:=[27]) (by kernel_rfl) (by simp) ?_
 intro i hi
 obtain rfl:=List.mem_singleton.1 hi
 refine Reg.wpOp_list rfl ?_
 go_wp2_with fail
 change _ ∧ _
 refine ⟨hS9,?_⟩
 have hlt:w.heap.size + 1 < W.heap.size:=by omega
 have hSz:=hS9.rowOther (g:=w.heap.size + 1) #[.iface 9 (.string (S p.nm)),.iface 9 (.string (S p.vs)),yesI p.ess,i4,i5,i6,i7,i8,i9,.nilIface,.nilIface] (by omega)
 have hbz:Below w.heap.size w (x9.setRow (w.heap.size + 1) #[.iface 9 (.string (S p.nm)),.iface 9 (.string (S p.vs)),yesI p.ess,i4,i5,i6,i7,i8,i9,.nilIface,.nilIface]):=Va.below_row (HBW.out.trans (hB9.mono HBW.out.size)) (Nat.le_succ _) _
 have hvz:Vs w.heap.size (x9.setRow (w.heap.size + 1) #[.iface 9 (.string (S p.nm)),.iface 9 (.string (S p.vs)),yesI p.ess,i4,i5,i6,i7,i8,i9,.nilIface,.nilIface]) #[.iface 9 (.string (S p.nm)),.iface 9 (.string (S p.vs)),yesI p.ess,i4,i5,i6,i7,i8,i9,.nilIface,.nilIface] (valsP p):=(hV.on ((Blk.Chg.refl _ _).setRow (g:=w.heap.size + 1) hlt _)).mono HBW.out.size
 have hrz:=iv.row #[.iface 9 (.string (S p.nm)),.iface 9 (.string (S p.vs)),yesI p.ess,i4,i5,i6,i7,i8,i9,.nilIface,.nilIface]
 refine wpAnyH_all (rs:=[28]) (by kernel_rfl) (by simp) ?_
 intro i hi
 obtain rfl:=List.mem_singleton.1 hi
 refine Reg.wpOp_list rfl ?_
 refine wpList_store_row rfl 99 (.tmp 2) (.tmp 30) rfl (w.heap.size + 1) #[.iface 9 (.string (S p.nm)),.iface 9 (.string (S p.vs)),yesI p.ess,i4,i5,i6,i7,i8,i9,.nilIface,.nilIface] rfl rfl 99 nils iv hi2 (by rfl) hone ?_
 go_wp2_with fail
 change _ ∧ _
 refine ⟨hSz,?_⟩
 refine wpAnyH_done (by kernel_rfl) ?_ _
 generalize x9.setRow (w.heap.size + 1) #[.iface 9 (.string (S p.nm)),.iface 9 (.string (S p.vs)),yesI p.ess,i4,i5,i6,i7,i8,i9,.nilIface,.nilIface] = xz at *
 have r0:=hrz.at (i:=0) rfl
 have r1:=hrz.at (i:=1) rfl
 have r2:=hrz.at (i:=2) rfl
 have r3:=hrz.at (i:=3) rfl
 have r4:=hrz.at (i:=4) rfl
 have r5:=hrz.at (i:=5) rfl
 have r6:=hrz.at (i:=6) rfl
 have r7:=hrz.at (i:=7) rfl
 have r8:=hrz.at (i:=8) rfl
 have r9:=hrz.at (i:=9) rfl
 have r10:=hrz.at (i:=10) rfl
 have HVZ:=Lib.hid hvz
 have HBZ:=Lib.hid hbz
 generalize yesI p.ess = yi at *
 clear hrz hvz hbz hSz hlt iv hone hV V t4 t5 t6 t7 t8 t9 s4 s5 s6 s7 s8 s9 hS0 hS1 hS2 hS3 hS4 hS5 hS6 hS7 hS8 hS9 hB0 hB1 hB2 hB3 hB4 hB5 hB6 hB7 hB8 hB9
 go_wp2_with fail
 refine bodyPost_ret (v:=.agg #[.iface 9 (.string (S p.nm)),.iface 9 (.string (S p.vs)),yi,i4,i5,i6,i7,i8,i9,.nilIface,.nilIface]) (by simp [results,Tryz.results68,go_sem,r0,r1,r2,r3,r4,r5,r6,r7,r8,r9,r10]) rfl ?_
 exact ⟨_,rfl,HVZ.out,HBZ.out⟩
end Rc
end Go.Proofs.YthmpepnikmdjpaaGreatDoor

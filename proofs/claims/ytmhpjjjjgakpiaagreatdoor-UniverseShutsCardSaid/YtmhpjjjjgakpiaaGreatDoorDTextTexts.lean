/-
Regions that draw their order: a load of one cell may be taken first where every world of the class has that cell; and what never looks at the world. May: a whole package: may it be? Rows of bytes: what a slice of bytes reads as; rows of the call's own; what an append of them leaves. Written packages and entries are read back as they were; their texts may be printed. Slices of strings that are read alone; the contract of the reference's SameTexts; append of one string.
-/
import Derived.OrdersHeld
import Derived.Deep.MidRow
import Derived.WalkKit
import Derived.Test.YtmhpjjjjgakpiaaGreatDoorDRecMay2
import Derived.Test.YtmhpjjjjgakpiaaGreatDoorDTextUtf
import Derived.Test.YtmhpjjjjgakpiaaGreatDoorProg
import Derived.IntWalk
import Derived.OpenShut
import Derived.Test.YtmhpjjjjgakpiaaGreatDoorDRecMay
import Derived.Test.YtmhpjjjjgakpiaaGreatDoorShelf
import Derived.Test.YtmhpjjjjgakpiaaGreatDoorDRelSingles
import Derived.Test.YtmhpjjjjgakpiaaGreatDoorDReg
import Derived.Lib.AppendIntMem
import Derived.Deep.QuietTactic
import Derived.Test.YtmhpjjjjgakpiaaGreatDoorDRelDef
import Derived.Test.YtmhpjjjjgakpiaaGreatDoorDVerParse2
import Derived.Laws.Concat
import Derived.StillTailTactics
import Derived.Lib.SlBytesConst
import Derived.Deep.RegionHeld3
import Derived.BigQuiet
namespace Go.Proofs.YtmhpjjjjgakpiaaGreatDoor
open Go.RowKit
namespace Held
theorem run_load_one {P:Program} {w:World} {b o:Nat} {v:Value} {ty:TypeId} {d:TypeDesc} (hc:w.cell? ⟨b,o,none⟩ = some v) (hu:P.underlying ty = some d) (hd:d.isRow = false):(Instr.loadAt ty (.pointer (some ⟨b,o,none⟩))).run P w = .ok v w:=by
 have hagg:(isAgg ty).run P w = .ok false w:=by
  unfold isAgg
  rw [Sem.run_bind,run_underlying hu w]
  cases d <;> simp_all
 simp only [Instr.loadAt,Instr.sureAddr,Sem.run_bind,Sem.run_pure,Result.andThen_ok,loadVar,hagg]
 simp [hc]
theorem load1 {P:Program} {ops:Array Oper} {S:World → Prop} {op:Oper} {a:Act} (hw:Region.wanted op (yielded ops a.tmps) = true) (ty:TypeId) (x:Operand) (ho:op.op = .load ty x)
  (b o:Nat) (hx:a.eval x = .pointer (some ⟨b,o,none⟩)) (v:Value) (d:TypeDesc) (hS:∀ w,S w → w.cell? ⟨b,o,none⟩ = some v)
  (hu:P.underlying ty = some d) (hd:d.isRow = false):YieldsIf P ops S op v a :=
 .inl ⟨hw,fun w hw'=>by
  unfold execOp
  simp only [ho,hx]
  rw [Sem.run_bind,run_load_one (hS w hw') hu hd]
  rfl⟩
theorem run_index_one {P:Program} {T e:TypeId} {n:Nat} {d:TypeDesc} (hu:P.underlying T = some (.array n e)) (he:P.underlying e = some d) (hd:d.isRow = false) (hsz:(P.info? e).map (·.size) = some 1) {cs:Array Value} {j:Nat} (hj:j < n) {v:Value} (hv:cs[j]? = some v) (w:World) :
  (Instr.index T (.agg cs) (.int .i64 j)).run P w = .ok v w:=by
 have hs:∀ w,(sizeOf e).run P w = .ok 1 w:=fun w=>by
  cases hq:P.info? e with
  | none=>simp [hq] at hsz
  | some i =>
   have:i.size = 1:=by simpa [hq] using hsz
   simp [sizeOf,typeInfo,hq,this]
 have hj':(0:Int) ≤ j ∧ (j:Int) < (n:Nat):=by omega
 have ha:∀ w,(isAgg e).run P w = .ok false w:=fun w=>by
  unfold isAgg
  simp only [Sem.run_bind,run_underlying he,Result.andThen_ok]
  cases d <;> simp_all
 simp only [Instr.index,asIntOf,Sem.run_bind,Sem.run_pure,Result.andThen_ok,run_underlying hu,hj',and_self,if_true,hs,Int.toNat_natCast,Go.part,ha]
 simp [hv]
end Held
end Go.Proofs.YtmhpjjjjgakpiaaGreatDoor
namespace Go.Proofs.YtmhpjjjjgakpiaaGreatDoor
open Go.RowKit
set_option linter.unusedSimpArgs false
set_option linter.unusedVariables false
namespace Rc
open Ver (S)
open Rl (Vars may nmB isV)
def orM (p:Pk):Int:=orI [mayC p.pre,mayC p.dep,mayC p.rcm,mayA p.con,mayA p.brk,mayP p.prv]
theorem mayK_eq (p:Pk):mayK p = if (nmB p.nm && isV p.vs) = true then orM p else 3:=rfl
def PkV (w:World) (v:Value) (p:Pk):Prop:=∃ u1 u2 u3 u4 u5 u6,v = .agg #[.string (S p.nm),.string (S p.vs),u1,u2,u3,u4,u5,u6,.bool p.ess] ∧ Has w p u1 u2 u3 u4 u5 u6
theorem PkV.below {w w':World} {v:Value} {p:Pk} (h:PkV w v p) (hb:Below w.heap.size w w'):PkV w' v p:=by
 obtain ⟨u1,u2,u3,u4,u5,u6,e,h1⟩:=h
 exact ⟨u1,u2,u3,u4,u5,u6,e,h1.below hb⟩
theorem PkC.val {w:World} {cs:List Value} {p:Pk} (h:PkC w cs p):PkV w (.agg cs.toArray) p:=by
 obtain ⟨u1,u2,u3,u4,u5,u6,e,h1⟩:=h
 exact ⟨u1,u2,u3,u4,u5,u6,by rw [e],h1⟩
set_option maxRecDepth 100000 in
set_option maxHeartbeats 16000000 in
theorem may_any (v:Value) (p:Pk) (w:World) (h:PkV w v p) (hL:p.Lim) (hv:Vars w) :
  Calls Tryz.prog 59 #[v] w fun e w'=>e = .returned (.int .i64 (mayK p)) ∧ Below w.heap.size w w':=by
 obtain ⟨u1,u2,u3,u4,u5,u6,rfl,h1⟩:=h
 rw [mayK_eq]
 obtain ⟨M,hM⟩:∃ M,orM p = M:=⟨_,rfl⟩
 have HM:=Lib.hid hM
 rw [hM]
 have cn:=fun w=>Rl.name_any p.nm w (by have:=hL.nm; omega)
 have cv:=fun w hm=>isVersion_any p.vs w (by have:=hL.vs; omega) hm
 have hb0:=(Below.refl w.heap.size w).alloc (Nat.le_refl _) (.cells #[.string (S p.nm),.string (S p.vs),u1,u2,u3,u4,u5,u6,.bool p.ess] 40)
 have i0:=Blk.Is.new w 40 #[.string (S p.nm),.string (S p.vs),u1,u2,u3,u4,u5,u6,.bool p.ess]
 obtain ⟨W,hW⟩:∃ W,w.alloc (.cells #[.string (S p.nm),.string (S p.vs),u1,u2,u3,u4,u5,u6,.bool p.ess] 40) = W:=⟨_,rfl⟩
 rw [hW] at hb0 i0
 have H:=Lib.hid (h1.below hb0)
 have HL:=Lib.hid hL
 have HV:=Lib.hid (hv.on hb0)
 have HB:=Lib.hid hb0
 have HI:=Lib.hid i0
 have c0:=i0.at (i:=0) rfl
 have c1:=i0.at (i:=1) rfl
 have HCV:=Lib.hid cv
 clear hM h1 hL hv hb0 i0 cv
 generalize S p.nm = N at *
 generalize hvv:S p.vs = V at *
 generalize p.ess = E at *
 clear hvv
 cases hn:nmB p.nm with
 | false =>
  rw [hn] at cn
  simp only [Bool.false_and,Bool.false_eq_true,if_false]
  clear hn HM HL HCV H
  go_enter Tryz.func59,Tryz.ntmps59
  go_wp2_with fail
  refine (cn _).mono ?_
  rintro e w1 ⟨rfl,k1⟩
  have hb1:=HB.out.trans (k1.mono HB.out.size)
  clear cn k1
  go_wp2_with fail
  go_ret
  exact ⟨rfl,hb1⟩
 | true =>
  rw [hn] at cn
  simp only [Bool.true_and]
  cases hq:isV p.vs with
  | false =>
   rw [hq] at HCV
   simp only [Bool.false_eq_true,if_false]
   clear hn hq HM HL H
   go_enter Tryz.func59,Tryz.ntmps59
   go_wp2_with fail
   refine (cn _).mono ?_
   rintro e w1 ⟨rfl,k1⟩
   have hb1:=HB.out.trans (k1.mono HB.out.size)
   have c1':=Rl.cell_on c1 k1
   have ca:=HCV.out _ (HV.out.maxLen.on k1)
   clear cn k1
   go_wp2_with fail
   refine ca.mono ?_
   rintro e w2 ⟨rfl,k2⟩
   have hb2:=hb1.trans (k2.mono hb1.size)
   clear ca k2
   go_wp2_with fail
   go_ret
   exact ⟨rfl,hb2⟩
  | true =>
   rw [hq] at HCV
   simp only [if_true]
   clear hn hq
   go_enter Tryz.func59,Tryz.ntmps59
   go_wp2_with fail
   refine (cn _).mono ?_
   rintro e w1 ⟨rfl,k1⟩
   have hb1:=HB.out.trans (k1.mono HB.out.size)
   have c1':=Rl.cell_on c1 k1
   have ca:=HCV.out _ (HV.out.maxLen.on k1)
   have K1:=Lib.hid k1
   clear cn k1
   go_wp2_with fail
   refine ca.mono ?_
   rintro e w2 ⟨rfl,k2⟩
   have hb2:=hb1.trans (k2.mono hb1.size)
   have k12:=K1.out.trans (k2.mono K1.out.size)
   have HV2:=Lib.hid (HV.out.on k12)
   have H2:=Lib.hid (H.out.below k12)
   have i2:=Rl.is_on HI.out k12
   have HB2:=Lib.hid hb2
   clear ca k2 c0 c1 c1' hb1 hb2 k12 K1 HCV
   have L2:∀ u,Below w2.heap.size w2 u → u.cell? ⟨w.heap.size,2,none⟩ = some u1:=fun u hu=>Rl.cell_on (i2.at (i:=2) rfl) hu
   have L3:∀ u,Below w2.heap.size w2 u → u.cell? ⟨w.heap.size,3,none⟩ = some u2:=fun u hu=>Rl.cell_on (i2.at (i:=3) rfl) hu
   have L4:∀ u,Below w2.heap.size w2 u → u.cell? ⟨w.heap.size,4,none⟩ = some u3:=fun u hu=>Rl.cell_on (i2.at (i:=4) rfl) hu
   have L5:∀ u,Below w2.heap.size w2 u → u.cell? ⟨w.heap.size,5,none⟩ = some u4:=fun u hu=>Rl.cell_on (i2.at (i:=5) rfl) hu
   have L6:∀ u,Below w2.heap.size w2 u → u.cell? ⟨w.heap.size,6,none⟩ = some u5:=fun u hu=>Rl.cell_on (i2.at (i:=6) rfl) hu
   have L7:∀ u,Below w2.heap.size w2 u → u.cell? ⟨w.heap.size,7,none⟩ = some u6:=fun u hu=>Rl.cell_on (i2.at (i:=7) rfl) hu
   clear i2
   have HL2:=Lib.hid L2
   have HL3:=Lib.hid L3
   have HL4:=Lib.hid L4
   have HL5:=Lib.hid L5
   have HL6:=Lib.hid L6
   have HL7:=Lib.hid L7
   clear L2 L3 L4 L5 L6 L7
   go_wp2_with fail
   refine wp_region_held (S:=fun u=>Below w2.heap.size w2 u) (by kernel_rfl) ?_
   have hS0:Below w2.heap.size w2 w2.drew:=(Below.refl _ _).drew
   change wpAnyH _ _ _ _ _ 21 _ _ w2.drew
   generalize w2.drew = u0 at *
   refine wpAnyH_take (i:=0) (v:=.pointer (some ⟨w.heap.size,2,none⟩)) rfl (by kernel_rfl) (by kernel_rfl) (by kernel_rfl) (fun _ _ _ h=>h) (.inl ⟨rfl,fun w _=>rfl⟩) hS0 ?_
   simp only [Act.put,List.getElem_toArray,List.getElem_cons_zero,List.getElem_cons_succ,List.setIfInBounds_toArray,List.set_cons_zero,List.set_cons_succ]
   refine wpAnyH_take (i:=1) (v:=u1) rfl (by kernel_rfl) (by kernel_rfl) (by kernel_rfl) (fun _ _ _ h=>h) (Held.load1 rfl 36 (.tmp 13) rfl w.heap.size 2 rfl _ _ HL2.out Tryz.underlying36 rfl) hS0 ?_
   simp only [Act.put,List.getElem_toArray,List.getElem_cons_zero,List.getElem_cons_succ,List.setIfInBounds_toArray,List.set_cons_zero,List.set_cons_succ]
   refine wpAnyH_take (i:=3) (v:=.pointer (some ⟨w.heap.size,3,none⟩)) rfl (by kernel_rfl) (by kernel_rfl) (by kernel_rfl) (fun _ _ _ h=>h) (.inl ⟨rfl,fun w _=>rfl⟩) hS0 ?_
   simp only [Act.put,List.getElem_toArray,List.getElem_cons_zero,List.getElem_cons_succ,List.setIfInBounds_toArray,List.set_cons_zero,List.set_cons_succ]
   refine wpAnyH_take (i:=4) (v:=u2) rfl (by kernel_rfl) (by kernel_rfl) (by kernel_rfl) (fun _ _ _ h=>h) (Held.load1 rfl 36 (.tmp 16) rfl w.heap.size 3 rfl _ _ HL3.out Tryz.underlying36 rfl) hS0 ?_
   simp only [Act.put,List.getElem_toArray,List.getElem_cons_zero,List.getElem_cons_succ,List.setIfInBounds_toArray,List.set_cons_zero,List.set_cons_succ]
   refine wpAnyH_take (i:=6) (v:=.pointer (some ⟨w.heap.size,4,none⟩)) rfl (by kernel_rfl) (by kernel_rfl) (by kernel_rfl) (fun _ _ _ h=>h) (.inl ⟨rfl,fun w _=>rfl⟩) hS0 ?_
   simp only [Act.put,List.getElem_toArray,List.getElem_cons_zero,List.getElem_cons_succ,List.setIfInBounds_toArray,List.set_cons_zero,List.set_cons_succ]
   refine wpAnyH_take (i:=7) (v:=u3) rfl (by kernel_rfl) (by kernel_rfl) (by kernel_rfl) (fun _ _ _ h=>h) (Held.load1 rfl 36 (.tmp 19) rfl w.heap.size 4 rfl _ _ HL4.out Tryz.underlying36 rfl) hS0 ?_
   simp only [Act.put,List.getElem_toArray,List.getElem_cons_zero,List.getElem_cons_succ,List.setIfInBounds_toArray,List.set_cons_zero,List.set_cons_succ]
   refine wpAnyH_take (i:=9) (v:=.pointer (some ⟨w.heap.size,5,none⟩)) rfl (by kernel_rfl) (by kernel_rfl) (by kernel_rfl) (fun _ _ _ h=>h) (.inl ⟨rfl,fun w _=>rfl⟩) hS0 ?_
   simp only [Act.put,List.getElem_toArray,List.getElem_cons_zero,List.getElem_cons_succ,List.setIfInBounds_toArray,List.set_cons_zero,List.set_cons_succ]
   refine wpAnyH_take (i:=10) (v:=u4) rfl (by kernel_rfl) (by kernel_rfl) (by kernel_rfl) (fun _ _ _ h=>h) (Held.load1 rfl 37 (.tmp 22) rfl w.heap.size 5 rfl _ _ HL5.out Tryz.underlying37 rfl) hS0 ?_
   simp only [Act.put,List.getElem_toArray,List.getElem_cons_zero,List.getElem_cons_succ,List.setIfInBounds_toArray,List.set_cons_zero,List.set_cons_succ]
   refine wpAnyH_take (i:=12) (v:=.pointer (some ⟨w.heap.size,6,none⟩)) rfl (by kernel_rfl) (by kernel_rfl) (by kernel_rfl) (fun _ _ _ h=>h) (.inl ⟨rfl,fun w _=>rfl⟩) hS0 ?_
   simp only [Act.put,List.getElem_toArray,List.getElem_cons_zero,List.getElem_cons_succ,List.setIfInBounds_toArray,List.set_cons_zero,List.set_cons_succ]
   refine wpAnyH_take (i:=13) (v:=u5) rfl (by kernel_rfl) (by kernel_rfl) (by kernel_rfl) (fun _ _ _ h=>h) (Held.load1 rfl 37 (.tmp 25) rfl w.heap.size 6 rfl _ _ HL6.out Tryz.underlying37 rfl) hS0 ?_
   simp only [Act.put,List.getElem_toArray,List.getElem_cons_zero,List.getElem_cons_succ,List.setIfInBounds_toArray,List.set_cons_zero,List.set_cons_succ]
   refine wpAnyH_take (i:=15) (v:=.pointer (some ⟨w.heap.size,7,none⟩)) rfl (by kernel_rfl) (by kernel_rfl) (by kernel_rfl) (fun _ _ _ h=>h) (.inl ⟨rfl,fun w _=>rfl⟩) hS0 ?_
   simp only [Act.put,List.getElem_toArray,List.getElem_cons_zero,List.getElem_cons_succ,List.setIfInBounds_toArray,List.set_cons_zero,List.set_cons_succ]
   refine wpAnyH_take (i:=16) (v:=u6) rfl (by kernel_rfl) (by kernel_rfl) (by kernel_rfl) (fun _ _ _ h=>h) (Held.load1 rfl 38 (.tmp 28) rfl w.heap.size 7 rfl _ _ HL7.out Tryz.underlying38 rfl) hS0 ?_
   simp only [Act.put,List.getElem_toArray,List.getElem_cons_zero,List.getElem_cons_succ,List.setIfInBounds_toArray,List.set_cons_zero,List.set_cons_succ]
   have cx:=mayClauses_any _ p.pre u0 (H2.out.pre.below hS0) HL.out.pre (HV2.out.on hS0)
   refine wpAnyH_all (rs:=[2]) (by kernel_rfl) (by simp) ?_
   intro i hi
   obtain rfl:=List.mem_singleton.1 hi
   refine Reg.wpOp_list rfl ?_
   go_wp2_with fail
   refine cx.mono ?_
   rintro e u1 ⟨rfl,k1⟩
   go_wp2_with fail
   change _ ∧ _
   have hS1:Below w2.heap.size w2 u1:=hS0.trans (k1.mono hS0.size)
   refine ⟨hS1,?_⟩
   clear cx
   have cx:=mayClauses_any _ p.dep u1 (H2.out.dep.below hS1) HL.out.dep (HV2.out.on hS1)
   refine wpAnyH_all (rs:=[5]) (by kernel_rfl) (by simp) ?_
   intro i hi
   obtain rfl:=List.mem_singleton.1 hi
   refine Reg.wpOp_list rfl ?_
   go_wp2_with fail
   refine cx.mono ?_
   rintro e u2 ⟨rfl,k2⟩
   go_wp2_with fail
   change _ ∧ _
   have hS2:Below w2.heap.size w2 u2:=hS1.trans (k2.mono hS1.size)
   refine ⟨hS2,?_⟩
   clear cx
   have cx:=mayClauses_any _ p.rcm u2 (H2.out.rcm.below hS2) HL.out.rcm (HV2.out.on hS2)
   refine wpAnyH_all (rs:=[8]) (by kernel_rfl) (by simp) ?_
   intro i hi
   obtain rfl:=List.mem_singleton.1 hi
   refine Reg.wpOp_list rfl ?_
   go_wp2_with fail
   refine cx.mono ?_
   rintro e u3 ⟨rfl,k3⟩
   go_wp2_with fail
   change _ ∧ _
   have hS3:Below w2.heap.size w2 u3:=hS2.trans (k3.mono hS2.size)
   refine ⟨hS3,?_⟩
   clear cx
   have cx:=mayItemsA_any _ p.con u3 (H2.out.con.below hS3) HL.out.con (HV2.out.on hS3)
   refine wpAnyH_all (rs:=[11]) (by kernel_rfl) (by simp) ?_
   intro i hi
   obtain rfl:=List.mem_singleton.1 hi
   refine Reg.wpOp_list rfl ?_
   go_wp2_with fail
   refine cx.mono ?_
   rintro e u4 ⟨rfl,k4⟩
   go_wp2_with fail
   change _ ∧ _
   have hS4:Below w2.heap.size w2 u4:=hS3.trans (k4.mono hS3.size)
   refine ⟨hS4,?_⟩
   clear cx
   have cx:=mayItemsA_any _ p.brk u4 (H2.out.brk.below hS4) HL.out.brk (HV2.out.on hS4)
   refine wpAnyH_all (rs:=[14]) (by kernel_rfl) (by simp) ?_
   intro i hi
   obtain rfl:=List.mem_singleton.1 hi
   refine Reg.wpOp_list rfl ?_
   go_wp2_with fail
   refine cx.mono ?_
   rintro e u5 ⟨rfl,k5⟩
   go_wp2_with fail
   change _ ∧ _
   have hS5:Below w2.heap.size w2 u5:=hS4.trans (k5.mono hS4.size)
   refine ⟨hS5,?_⟩
   clear cx
   have cx:=mayItemsP_any _ p.prv u5 (H2.out.prv.below hS5) HL.out.prv (HV2.out.on hS5)
   refine wpAnyH_all (rs:=[17]) (by kernel_rfl) (by simp) ?_
   intro i hi
   obtain rfl:=List.mem_singleton.1 hi
   refine Reg.wpOp_list rfl ?_
   go_wp2_with fail
   refine cx.mono ?_
   rintro e u6 ⟨rfl,k6⟩
   go_wp2_with fail
   change _ ∧ _
   have hS6:Below w2.heap.size w2 u6:=hS5.trans (k6.mono hS5.size)
   refine ⟨hS6,?_⟩
   clear cx
   have HO:Hid (orI [mayC p.pre,mayC p.dep,mayC p.rcm,mayA p.con,mayA p.brk,mayP p.prv] = M):=HM.out
   generalize mayC p.pre = m1 at *
   generalize mayC p.dep = m2 at *
   generalize mayC p.rcm = m3 at *
   generalize mayA p.con = m4 at *
   generalize mayA p.brk = m5 at *
   generalize mayP p.prv = m6 at *
   have hSL:Below u6.heap.size u6 (u6.alloc (.cells #[.int .i64 m1,.int .i64 m2,.int .i64 m3,.int .i64 m4,.int .i64 m5,.int .i64 m6] 27)):=(Below.refl _ _).alloc (Nat.le_refl _) _
   have iSL:=Blk.Is.new u6 27 #[.int .i64 m1,.int .i64 m2,.int .i64 m3,.int .i64 m4,.int .i64 m5,.int .i64 m6]
   have hS7:=hS6.trans (hSL.mono hS6.size)
   refine wpAnyH_all (rs:=[18]) (by kernel_rfl) (by simp) ?_
   intro i hi
   obtain rfl:=List.mem_singleton.1 hi
   refine Reg.wpOp_list rfl ?_
   go_wp2_with fail
   change _ ∧ _
   refine ⟨hS7,?_⟩
   have cx:=cmpOrE_any [m1,m2,m3,m4,m5,m6] u6.heap.size _ (by simp) (fun i hi=>by
    match i,hi with
    | 0,_=>exact iSL.at (i:=0) rfl
    | 1,_=>exact iSL.at (i:=1) rfl
    | 2,_=>exact iSL.at (i:=2) rfl
    | 3,_=>exact iSL.at (i:=3) rfl
    | 4,_=>exact iSL.at (i:=4) rfl
    | 5,_=>exact iSL.at (i:=5) rfl)
   rw [orl_orI,HO.out] at cx
   clear iSL hSL
   generalize (u6.alloc (.cells #[.int .i64 m1,.int .i64 m2,.int .i64 m3,.int .i64 m4,.int .i64 m5,.int .i64 m6] 27)) = u7 at *
   refine wpAnyH_all (rs:=[19]) (by kernel_rfl) (by simp) ?_
   intro i hi
   obtain rfl:=List.mem_singleton.1 hi
   refine Reg.wpOp_list rfl ?_
   go_wp2_with fail
   refine cx.mono ?_
   rintro e u8 ⟨rfl,rfl⟩
   go_wp2_with fail
   change _ ∧ _
   refine ⟨hS7,?_⟩
   clear cx
   refine wpAnyH_all (rs:=[20]) (by kernel_rfl) (by simp) ?_
   intro i hi
   obtain rfl:=List.mem_singleton.1 hi
   refine Reg.wpOp_list rfl ?_
   go_wp2_with fail
   change _ ∧ _
   refine ⟨hS7,?_⟩
   refine wpAnyH_done (by kernel_rfl) ?_ _
   have hK:=HB2.out.trans (hS7.mono HB2.out.size)
   go_wp2_with fail
   go_ret
   exact ⟨rfl,hK⟩
end Rc
end Go.Proofs.YtmhpjjjjgakpiaaGreatDoor
namespace Go.Proofs.YtmhpjjjjgakpiaaGreatDoor
open Go.RowKit
set_option linter.unusedVariables false

def bcells (zs:List Int):List Value:=zs.map (Value.int .u8)
@[simp] theorem bcells_length (zs:List Int):(bcells zs).length = zs.length:=by simp [bcells]
def Byte (zs:List Int):Prop:=∀ z ∈ zs,0 ≤ z ∧ z < 256
theorem Byte.getD {zs:List Int} (h:Byte zs) (i:Nat):0 ≤ zs.getD i 0 ∧ zs.getD i 0 < 256:=by
 by_cases hi:i < zs.length
 ·exact h _ (by simp [hi])
 ·simp [List.getD,List.getElem?_eq_none (show zs.length ≤ i by omega)]
theorem Byte.take {zs:List Int} (h:Byte zs) (k:Nat):Byte (zs.take k):=fun z hz=>h z (List.mem_of_mem_take hz)
theorem Byte.drop {zs:List Int} (h:Byte zs) (k:Nat):Byte (zs.drop k):=fun z hz=>h z (List.mem_of_mem_drop hz)
theorem Byte.append {xs zs:List Int} (h:Byte xs) (k:Byte zs):Byte (xs ++ zs):=fun z hz=>(List.mem_append.1 hz).elim (h z) (k z)
theorem Byte.nil:Byte []:=by simp [Byte]

structure Row (w:World) (a:Option Addr) (len:Nat) (zs:List Int):Prop where
 count:zs.length = len
 short:len ≤ 9223372036854775807
 byt:Byte zs
 cells:0 < len → ∃ b off,a = some ⟨b,off,none⟩ ∧ b < w.heap.size ∧ ∀ j,j < len → w.cell? ⟨b,off + j,none⟩ = some (.int .u8 (zs.getD j 0))

theorem Row.keep {w w':World} {a len zs} (h:Row w a len zs) {S:Nat → Prop} (hb:Blk.Chg S w w') (hn:0 < len → ∀ b off,a = some ⟨b,off,none⟩ → ¬ S b):Row w' a len zs :=
 ⟨h.count,h.short,h.byt,fun hl=>by
  obtain ⟨b,off,ha,hlt,hc⟩:=h.cells hl
  exact ⟨b,off,ha,Nat.lt_of_lt_of_le hlt hb.size,fun j hj=>by rw [World.cell?_of_block (hb.block b hlt (hn hl b off ha))]; exact hc j hj⟩⟩
theorem Row.below {w w':World} {a len zs} (h:Row w a len zs) (hb:Below w.heap.size w w'):Row w' a len zs :=
 h.keep (S:=fun _=>False) (Blk.Chg.ofBelow' hb) (by simp)
theorem Row.nil (w:World):Row w none 0 []:=⟨rfl,by omega,by simp [Byte],by omega⟩
theorem Row.empty (w:World) (a:Option Addr):Row w a 0 []:=⟨rfl,by omega,by simp [Byte],by omega⟩
theorem Row.take {w:World} {a len zs} (h:Row w a len zs) (k:Nat) (hk:k ≤ len):Row w a k (zs.take k):=by
 have:=h.count
 refine ⟨by rw [List.length_take]; omega,by have:=h.short; omega,h.byt.take k,fun h0=>?_⟩
 obtain ⟨b,off,ha,hb,hc⟩:=h.cells (by omega)
 refine ⟨b,off,ha,hb,fun j hj=>?_⟩
 rw [hc j (by omega)]
 simp [hj]
end Go.Proofs.YtmhpjjjjgakpiaaGreatDoor
namespace Go.Proofs.YtmhpjjjjgakpiaaGreatDoor
open Go.RowKit
set_option linter.unusedSimpArgs false
set_option linter.unusedVariables false
namespace Rc
open Rl (may nmB isV)
/-! ### what is written -/
theorem orI_zero:∀ {l:List Int},orI l = 0 → ∀ x ∈ l,x = 0
 | [],_,x,hx=>by cases hx
 | y :: l,h,x,hx=>by
  unfold orI at h
  by_cases hy:y = 0
  ·rw [if_neg (by simpa using hy)] at h
   rcases List.mem_cons.1 hx with rfl | hx
   ·exact hy
   ·exact orI_zero h x hx
  ·rw [if_pos hy] at h
   exact absurd h hy
theorem orI_all:∀ {l:List Int},(∀ x ∈ l,x = 0) → orI l = 0
 | [],_=>rfl
 | y :: l,h=>by
  unfold orI
  rw [if_neg (by simpa using h y (by simp))]
  exact orI_all fun x hx=>h x (List.mem_cons_of_mem _ hx)
structure Ok (p:Pk):Prop where
 nm:nmB p.nm = true
 vs:isV p.vs = true
 pre:mayC p.pre = 0
 dep:mayC p.dep = 0
 rcm:mayC p.rcm = 0
 con:mayA p.con = 0
 brk:mayA p.brk = 0
 prv:mayP p.prv = 0
end Rc
end Go.Proofs.YtmhpjjjjgakpiaaGreatDoor
namespace Go.Proofs.YtmhpjjjjgakpiaaGreatDoor
open Go.RowKit
set_option linter.unusedVariables false
set_option linter.unusedSimpArgs false
namespace Txt
def Texts (w:World) (v:Value) (ls:List ByteArray):Prop :=
 ls.length ≤ 4611686018427387904 ∧ ∃ a cap,v = .slice a ls.length cap ∧ ls.length ≤ cap ∧ (0 < ls.length → ∃ b off,a = some ⟨b,off,none⟩ ∧ ∀ i,i < ls.length → w.cell? ⟨b,off + i,none⟩ = some (.string (ls.getD i ByteArray.empty)))
theorem Texts.below {w w':World} {v ls} (h:Texts w v ls) (hb:Below w.heap.size w w'):Texts w' v ls:=by
 obtain ⟨h0,a,cap,h1,hc,h2⟩:=h
 exact ⟨h0,a,cap,h1,hc,fun hl=>by
  obtain ⟨b,off,h3,h4⟩:=h2 hl
  exact ⟨b,off,h3,fun i hi=>by rw [hb.cell (lt_cell (h4 i hi))]; exact h4 i hi⟩⟩
theorem Texts.none (w:World):Texts w (.slice none 0 0) []:=⟨by simp,_,_,rfl,Nat.le_refl _,fun h=>absurd h (by simp)⟩
theorem Texts.empty (w:World) (a:Option Addr) (c:Nat):Texts w (.slice a 0 c) []:=⟨by simp,_,_,rfl,by simp,fun h=>absurd h (by simp)⟩
theorem Texts.owned {w:World} {B:Nat} {v:Value} {ls:List ByteArray} (h:w.ownsRow B 9 1 v ls.length (ls.map Value.string)) (hl:ls.length ≤ 4611686018427387904):Texts w v ls:=by
 refine ⟨hl,?_⟩
 rcases id h.2 with ⟨rfl,h0⟩ | ⟨g,cap,cur,rfl,_,hh,hle,hcap,hsz,htake⟩
 ·have:ls = []:=List.length_eq_zero_iff.1 h0
  subst this
  exact ⟨Option.none,0,rfl,Nat.le_refl _,fun h=>absurd h (by simp)⟩
 ·refine ⟨_,_,rfl,hle,fun _=>⟨g,0,rfl,fun i hi=>?_⟩⟩
  have:=h.cells (g:=g) rfl i (.string (ls.getD i ByteArray.empty)) (by simp [hi])
  rw [Nat.zero_add]
  have e:(⟨g,0,Option.none⟩:Addr).add i = ⟨g,i,Option.none⟩:=by cases i <;> simp [Addr.add]
  rw [e] at this
  exact this
theorem infoText:(Tryz.prog.info? 9).map (fun i=>(i.zero,i.size,i.bytes)) = some (some (.string ByteArray.empty),1,16):=by kernel_rfl
end Txt
end Go.Proofs.YtmhpjjjjgakpiaaGreatDoor

/-
The package, the entry that a stanza tells. What is read of small fields is small. A row of the call's own of things whose lists lie in memory of their own: what appends leave of it. Fields and stanzas that a call makes, as rows of its own; how long what values of packages are written as may be.
-/
import Derived.Test.YthmpepnikmdjpaaGreatDoorCRecRead
import Derived.Test.YthmpepnikmdjpaaGreatDoorCRecPkg
import Derived.Test.YthmpepnikmdjpaaGreatDoorCValRead
import Derived.Test.YthmpepnikmdjpaaGreatDoorCRecMath
import Derived.Test.YthmpepnikmdjpaaGreatDoorCStzAwake
namespace Go.Proofs.YthmpepnikmdjpaaGreatDoor
open Go.RowKit
set_option linter.unusedSimpArgs false
set_option linter.unusedVariables false
namespace Rc
open Ver (Bs li li_len S S_self S_size S_li)
open Rl (At Pv Ats Pvs Clss Slc LimA LimP LimC Vars whole rdC rdA rdP)
open Va (Hi Vl VAt wrT rd knd Rdr)
open Stz (Fld Sz sameB sameS foldL Flds FldAt)
theorem rd_ne {k:Nat} {s:ByteArray} {e:Int} (h:rd k s = .error e):e ≠ 0:=by
 unfold rd at h
 repeat' split at h
 all_goals first
  | (cases h; done)
  | (cases h; decide)
  | skip
 ·cases hq:whole rdC (li s) with
  | ok xs=>rw [hq] at h; cases h
  | error e'=>rw [hq] at h; cases h; exact Va.er_ne (fun l e h=>Rl.rdC_err h) hq
 ·cases hq:whole rdA (li s) with
  | ok xs=>rw [hq] at h; cases h
  | error e'=>rw [hq] at h; cases h; exact Va.er_ne (fun l e h=>Rl.rdA_er l e h) hq
 ·cases hq:whole rdP (li s) with
  | ok xs=>rw [hq] at h; cases h
  | error e'=>rw [hq] at h; cases h; exact Va.er_ne (fun l e h=>Va.rdP_er l e h) hq
theorem rd_small {k:Nat} {s:ByteArray} {x:Vl} (h:rd k s = .ok x):x.Small:=by
 have triv:∀ {y:Vl},y.cls = [] → y.ats = [] → y.pvs = [] → y.Small:=fun h1 h2 h3=>⟨⟨by rw [h1]; simp,by rw [h1]; simp⟩,by rw [h2]; simp,by rw [h3]; simp⟩
 unfold rd at h
 repeat' split at h
 all_goals first
  | (cases h; exact triv rfl rfl rfl)
  | (cases h; done)
  | skip
 ·cases hq:whole rdC (li s) with
  | ok xs =>
   rw [hq] at h; cases h
   have h1:=Rl.whole_len hq
   have h2:=Rl.whole_clen hq
   exact ⟨⟨show xs.length ≤ 60000 by omega,fun c hc=>by have:=h2 c hc; omega⟩,Nat.zero_le _,Nat.zero_le _⟩
  | error e'=>rw [hq] at h; cases h
 ·cases hq:whole rdA (li s) with
  | ok xs =>
   rw [hq] at h; cases h
   have h1:=Rl.whole_len hq
   exact ⟨⟨Nat.zero_le _,fun c hc=>by cases hc⟩,show xs.length ≤ 60000 by omega,Nat.zero_le _⟩
  | error e'=>rw [hq] at h; cases h
 ·cases hq:whole rdP (li s) with
  | ok xs =>
   rw [hq] at h; cases h
   have h1:=Rl.whole_len hq
   exact ⟨⟨Nat.zero_le _,fun c hc=>by cases hc⟩,Nat.zero_le _,show xs.length ≤ 60000 by omega⟩
  | error e'=>rw [hq] at h; cases h
theorem fieldV:Field 65 rdV where
 call:=enters_of Tryz.func65 (by kernel_rfl) rfl
 con:=fun nm t w _ ht hG=>Va.read_any nm t (by omega) w hG.v
 small:=fun nm t x h=>rd_small h
 ne:=fun nm t e h=>rd_ne h
theorem rdf_ne {f:FuncId} {rf:ByteArray → ByteArray → Except Int Vl} (hF:Field f rf):∀ (fs:List Fld) (line:Int) (xs:Vls) (p:Int × Int),rdF rf line xs fs = .error p → p.1 ≠ 0
 | [],_,_,_,h=>by cases h
 | f :: r,line,xs,p,h=>by
  rw [rdF_cons] at h
  cases hq:rf (S f.1) (S (foldL f.2)) with
  | error e =>
   rw [hq] at h
   simp only [Except.error.injEq] at h
   subst h
   exact hF.ne _ _ _ hq
  | ok x =>
   rw [hq] at h
   exact rdf_ne hF r _ _ _ h
theorem rds_ne {f:FuncId} {rf:ByteArray → ByteArray → Except Int Vl} (hF:Field f rf) (must:List Nat) (s:Sz) (p:Int × Int) (h:rdS rf must s = .error p):p.1 ≠ 0:=by
 unfold rdS at h
 cases hq:rdF rf s.1 no s.2 with
 | error e =>
  rw [hq] at h
  simp only [Except.error.injEq] at h
  subst h
  exact rdf_ne hF _ _ _ _ hq
 | ok x =>
  rw [hq] at h
  simp only at h
  split at h
  ·cases h; simp
  ·cases h
theorem two_new (w:World) (T1 T2:TypeId) (C1 C2:Array Value):∃ W,(w.alloc (.cells C1 T1)).alloc (.cells C2 T2) = W ∧ Below w.heap.size w W ∧ W.heap.size = w.heap.size + 2 ∧ Blk.Is W w.heap.size T1 C1 ∧ Blk.Is W (w.heap.size + 1) T2 C2:=by
 have s1:(w.alloc (.cells C1 T1)).heap.size = w.heap.size + 1:=by simp
 have i1:=Blk.Is.new w T1 C1
 have i2:=Blk.Is.new (w.alloc (.cells C1 T1)) T2 C2
 rw [s1] at i2
 exact ⟨_,rfl,((Below.refl _ _).alloc (Nat.le_refl _) _).alloc (by omega) _,by simp,i1.alloc _,i2⟩
theorem clss_one {w:World} {v:Value} {l:List (List At)} (h:Clss w v l):v.oneCell' = true:=by obtain ⟨a,c,rfl⟩:=h.shape; rfl
theorem ats_one {w:World} {v:Value} {l:List At} (h:Ats w v l):v.oneCell' = true:=by obtain ⟨a,c,rfl⟩:=h.shape; rfl
theorem pvs_one {w:World} {v:Value} {l:List Pv} (h:Pvs w v l):v.oneCell' = true:=by obtain ⟨a,c,rfl⟩:=h.shape; rfl
def OfP {β:Type} (C:World → List Value → β → Prop) (o:Except (Int × Int) β) (w:World) (e:Ending) (w':World):Prop:=∃ cs x er ln,e = .returned (.tuple #[.agg cs,.agg #[.int .i64 er,.int .i64 ln]]) ∧ Hi w.heap.size w' (fun z=>C z cs.toList x) ∧ Below w.heap.size w w' ∧ match o with
 | .error p=>er = p.1 ∧ ln = p.2 ∧ er ≠ 0
 | .ok y=>er = 0 ∧ ln = 0 ∧ x = y
set_option maxRecDepth 100000 in
set_option maxHeartbeats 4000000 in
theorem of_any (line:Int) (fv:Value) (fs:List Fld) (w:World) (hG:Gl w) (hl:LineOK line) (hFl:Flds w fv fs) (hok:∀ f ∈ fs,FOk f) :
  Calls Tryz.prog 23 #[.agg #[.int .i64 line,fv]] w fun e w'=>OfP PkC (ofS (line,fs)) w e w':=by
 have hof:ofS (line,fs) = onOk pkOf (rdS rdV [0,1] (line,fs)):=rfl
 have cr:=fun (mb:Nat) (W:World) (hb:Below w.heap.size w W) (hM:∀ j,j < 2 → W.cell? ⟨mb,j,none⟩ = some (.int .i64 (([0,1]:List Nat).getD j 0:Nat)))=>read_any _ rdV fieldV [0,1] (by decide) (by decide) mb line fv fs W (hG.on hb) hl (hFl.below hb) hok hM
 have hne:=rds_ne fieldV [0,1] (line,fs)
 rw [hof]
 obtain ⟨RR,hRR⟩:∃ RR,rdS rdV [0,1] (line,fs) = RR:=⟨_,rfl⟩
 rw [hRR] at cr hne ⊢
 clear hRR
 obtain ⟨_,fa,fc,rfl,_,_⟩:=id hFl
 obtain ⟨W,hW,hB,hsz,hI0,hI1,hI2⟩:=Va.three_new w 40 31 45 #[.int .i64 line,.slice fa fs.length fc] #[.string ⟨#[]⟩,.string ⟨#[]⟩,.slice none 0 0,.slice none 0 0,.slice none 0 0,.slice none 0 0,.slice none 0 0,.slice none 0 0,.bool false] #[.int .i64 0,.int .i64 0]
 have CR:=Lib.hid cr
 have HNE:=Lib.hid hne
 have c0:=hI0.at (i:=0) rfl
 have c1:=hI0.at (i:=1) rfl
 have HB:=Lib.hid hB
 have HSZ:=Lib.hid hsz
 have I0:=Lib.hid hI0
 have I1:=Lib.hid hI1
 have I2:=Lib.hid hI2
 have hi0:(Tryz.prog.info? 31).map (·.size) = some 9:=by kernel_rfl
 have hi1:(Tryz.prog.info? 45).map (·.size) = some 2:=by kernel_rfl
 have hi2:(Tryz.prog.info? 99).map (·.size) = some 11:=by kernel_rfl
 clear cr hne hG hl hFl hok hof hB hsz hI0 hI1 hI2
 go_enter Tryz.func23,Tryz.ntmps23
 go_wp2_with fail
 have hb5:=((Below.refl W.heap.size W).alloc (Nat.le_refl _) (.cells #[.int .i64 0,.int .i64 1] 3))
 have ii:=Blk.Is.new W 3 #[.int .i64 0,.int .i64 1]
 refine (CR.out W.heap.size _ (HB.out.trans (hb5.mono HB.out.size)) (by intro j hj; match j,hj with
  | 0,_=>exact ii.at (i:=0) rfl
  | 1,_=>exact ii.at (i:=1) rfl)).mono ?_
 rintro e w1 ⟨cs,xs,er,ln,rfl,hV,hsm,k1,hR⟩
 have hB1:=HB.out.trans ((hb5.trans (k1.mono hb5.size)).mono HB.out.size)
 have i0:=Rl.is_on (Rl.is_on I0.out hb5) k1
 have i1:=Rl.is_on (Rl.is_on I1.out hb5) k1
 have i2:=Rl.is_on (Rl.is_on I2.out hb5) k1
 have hz1:w.heap.size + 3 ≤ w1.heap.size:=Nat.le_trans (Nat.le_of_eq HSZ.out.symm) (Nat.le_trans hb5.size k1.size)
 obtain ⟨W2,hW2,hB2,hs2,j0,j1⟩:=two_new w1 99 45 nils #[.int .i64 0,.int .i64 0]
 unfold nils at hW2
 have hB3:=hB1.trans (hB2.mono hB1.size)
 have i1:=Rl.is_on i1 hB2
 have i2:=Rl.is_on i2 hB2
 have R:=Lib.hid hR
 have hV3:=((hV.mono (Nat.le_trans HB.out.size hb5.size)).on (((Blk.Chg.ofBelow' hB2).setRow' (Nat.le_refl _) cs).setRow' (Nat.le_succ _) #[.int .i64 er,.int .i64 ln])).below (Below.refl _ _).drew
 have hB4:=(Va.below_row (Va.below_row hB3 (show w.heap.size ≤ w1.heap.size by omega) cs) (show w.heap.size ≤ w1.heap.size + 1 by omega) #[.int .i64 er,.int .i64 ln]).drew
 have hS0:Blk.Is ((W2.setRow w1.heap.size cs).setRow (w1.heap.size + 1) #[.int .i64 er,.int .i64 ln]).drew w1.heap.size 99 cs ∧ Blk.Is ((W2.setRow w1.heap.size cs).setRow (w1.heap.size + 1) #[.int .i64 er,.int .i64 ln]).drew (w1.heap.size + 1) 45 #[.int .i64 er,.int .i64 ln]:=⟨((j0.row cs).rowOther (g:=w1.heap.size + 1) _ (by omega)).drew,((j1.rowOther (g:=w1.heap.size) cs (by omega)).row _).drew⟩
 have i1:=((i1.rowOther (g:=w1.heap.size) cs (by omega)).rowOther (g:=w1.heap.size + 1) #[.int .i64 er,.int .i64 ln] (by omega)).drew
 have i2:=((i2.rowOther (g:=w1.heap.size) cs (by omega)).rowOther (g:=w1.heap.size + 1) #[.int .i64 er,.int .i64 ln] (by omega)).drew
 have hz3:w.heap.size + 3 ≤ ((W2.setRow w1.heap.size cs).setRow (w1.heap.size + 1) #[.int .i64 er,.int .i64 ln]).drew.heap.size:=by show _ ≤ ((W2.setRow w1.heap.size cs).setRow (w1.heap.size + 1) #[.int .i64 er,.int .i64 ln]).heap.size; simp; omega
 have V:=Lib.hid hV3
 have B4:=Lib.hid hB4
 have SS:=Lib.hid hS0
 have Z3:=Lib.hid hz3
 have SM:=Lib.hid hsm
 have I1:=Lib.hid i1
 have I2:=Lib.hid i2
 have J0:=Lib.hid j0
 have J1:=Lib.hid (j1.rowOther (g:=w1.heap.size) cs (by omega))
 have hone:=one_all hV
 have hi2':(Tryz.prog.info? 99).map (·.size) = some cs.size:=by rw [hV.len]; exact hi2
 obtain ⟨b0,hb0⟩:∃ b0,w1.heap.size = b0:=⟨_,rfl⟩
 rw [hb0] at J0 J1 SS V B4 I1 I2 Z3
 have LC:=Lib.hid hV.len
 have BN:=Lib.hid (show w.heap.size + 3 ≤ b0 by omega)
 have hc2:=valsSz hV.len
 clear hb5 ii k1 hB1 i0 i1 i2 hz1 hB2 hs2 j0 j1 hB3 hV hV3 hS0 hz3 hB4 hsm hR I0 HB HSZ CR
 go_upto_region 2 with (first | (refine wpList_store_row rfl 99 (.tmp 4) (.tmp 10) rfl b0 cs rfl rfl 99 nils J0.out hi2' (by rw [LC.out]; rfl) hone ?_) | (refine wpList_store_row rfl 45 (.tmp 5) (.tmp 11) rfl (b0 + 1) #[.int .i64 er,.int .i64 ln] rfl rfl 45 #[.int .i64 0,.int .i64 0] J1.out hi1 (by rfl) (by simp [Value.oneCell']) ?_))
 simp only [Act.put]
 have hv3:=V.out
 have hS0:=SS.out
 have hb4:=B4.out
 have hi1':=I1.out
 have hi2'':=I2.out
 have hz3:=Z3.out
 refine wp_region_held (S:=fun u=>Blk.Is u b0 99 cs ∧ Blk.Is u (b0 + 1) 45 #[.int .i64 er,.int .i64 ln]) (by kernel_rfl) ?_
 change wpAnyH _ _ _ _ _ 5 _ _ ((W2.setRow b0 cs).setRow (b0 + 1) #[.int .i64 er,.int .i64 ln]).drew
 clear SS V B4 I1 I2 Z3 J0 J1
 generalize ((W2.setRow b0 cs).setRow (b0 + 1) #[.int .i64 er,.int .i64 ln]).drew = u0 at *
 refine wpAnyH_take (i:=0) (v:=.agg cs) rfl (by kernel_rfl) (by kernel_rfl) (by kernel_rfl) (fun _ _ _ h=>h) (yieldsIf_load_mid rfl 99 (.tmp 4) rfl b0 0 rfl cs.toList _ (fun w h=>range_vals h.1) valsD rfl hc2) hS0 ?_
 simp only [Act.put,List.getElem_toArray,List.getElem_cons_zero,List.getElem_cons_succ,List.setIfInBounds_toArray,List.set_cons_zero,List.set_cons_succ]
 refine wpAnyH_take (i:=2) (v:=.agg #[.int .i64 er,.int .i64 ln]) rfl (by kernel_rfl) (by kernel_rfl) (by kernel_rfl) (fun _ _ _ h=>h) (yieldsIf_load_mid rfl 45 (.tmp 5) rfl (b0 + 1) 0 rfl [.int .i64 er,.int .i64 ln] _ (fun w h=>range_vals h.2) Tryz.underlying45 rfl (by kernel_rfl)) hS0 ?_
 simp only [Act.put,List.getElem_toArray,List.getElem_cons_zero,List.getElem_cons_succ,List.setIfInBounds_toArray,List.set_cons_zero,List.set_cons_succ]
 have cx:=pkg_any cs xs _ u0 hv3 SM.out
 refine wpAnyH_all (rs:=[1]) (by kernel_rfl) (by simp) ?_
 intro i hi
 obtain rfl:=List.mem_singleton.1 hi
 refine Reg.wpOp_list rfl ?_
 go_wp2_with fail
 refine cx.mono ?_
 rintro e u1 ⟨v1,v2,v3,v4,v5,v6,rfl,hH,kb⟩
 go_wp2_with fail
 change _ ∧ _
 have hS1:Blk.Is u1 b0 99 cs ∧ Blk.Is u1 (b0 + 1) 45 #[.int .i64 er,.int .i64 ln]:=⟨Rl.is_on hS0.1 kb,Rl.is_on hS0.2 kb⟩
 refine ⟨hS1,?_⟩
 have g1:=Rl.is_on hi1' kb
 have g2:=Rl.is_on hi2'' kb
 have hb5:=hb4.trans (kb.mono hb4.size)
 have hz5:=Nat.le_trans hz3 kb.size
 have hbn:w.heap.size + 3 ≤ b0:=BN.out
 have g3:=g2.rowOther (g:=w.heap.size + 1) #[.string (xs 0).txt,.string (xs 1).txt,v1,v2,v3,v4,v5,v6,.bool (xs 2).ye] (by omega)
 have hS2:Blk.Is (u1.setRow (w.heap.size + 1) #[.string (xs 0).txt,.string (xs 1).txt,v1,v2,v3,v4,v5,v6,.bool (xs 2).ye]) b0 99 cs ∧ Blk.Is (u1.setRow (w.heap.size + 1) #[.string (xs 0).txt,.string (xs 1).txt,v1,v2,v3,v4,v5,v6,.bool (xs 2).ye]) (b0 + 1) 45 #[.int .i64 er,.int .i64 ln]:=⟨hS1.1.rowOther _ (by omega),hS1.2.rowOther _ (by omega)⟩
 have hS3:Blk.Is ((u1.setRow (w.heap.size + 1) #[.string (xs 0).txt,.string (xs 1).txt,v1,v2,v3,v4,v5,v6,.bool (xs 2).ye]).setRow (w.heap.size + 1 + 1) #[.int .i64 er,.int .i64 ln]) b0 99 cs ∧ Blk.Is ((u1.setRow (w.heap.size + 1) #[.string (xs 0).txt,.string (xs 1).txt,v1,v2,v3,v4,v5,v6,.bool (xs 2).ye]).setRow (w.heap.size + 1 + 1) #[.int .i64 er,.int .i64 ln]) (b0 + 1) 45 #[.int .i64 er,.int .i64 ln]:=⟨hS2.1.rowOther _ (by omega),hS2.2.rowOther _ (by omega)⟩
 have hr1:=(g1.row #[.string (xs 0).txt,.string (xs 1).txt,v1,v2,v3,v4,v5,v6,.bool (xs 2).ye]).rowOther (g:=w.heap.size + 1 + 1) #[.int .i64 er,.int .i64 ln] (by omega)
 have hr2:=g3.row #[.int .i64 er,.int .i64 ln]
 have hbz:Below w.heap.size w ((u1.setRow (w.heap.size + 1) #[.string (xs 0).txt,.string (xs 1).txt,v1,v2,v3,v4,v5,v6,.bool (xs 2).ye]).setRow (w.heap.size + 1 + 1) #[.int .i64 er,.int .i64 ln]):=Va.below_row (Va.below_row hb5 (by omega) _) (by omega) _
 have hHz:HasH u0.heap.size ((u1.setRow (w.heap.size + 1) #[.string (xs 0).txt,.string (xs 1).txt,v1,v2,v3,v4,v5,v6,.bool (xs 2).ye]).setRow (w.heap.size + 1 + 1) #[.int .i64 er,.int .i64 ln]) (pkOf xs) v1 v2 v3 v4 v5 v6:=hH.on (((Blk.Chg.refl (fun k=>k < u0.heap.size) u1).setRow (g:=w.heap.size + 1) (by show w.heap.size + 1 < u0.heap.size; omega) _).setRow (g:=w.heap.size + 1 + 1) (by show w.heap.size + 1 + 1 < u0.heap.size; omega) _)
 have hle:w.heap.size ≤ u0.heap.size:=by omega
 have o1:=clss_one hH.here.pre
 have o2:=clss_one hH.here.dep
 have o3:=clss_one hH.here.rcm
 have o4:=ats_one hH.here.con
 have o5:=ats_one hH.here.brk
 have o6:=pvs_one hH.here.prv
 refine wpAnyH_all (rs:=[3]) (by kernel_rfl) (by simp) ?_
 intro i hi
 obtain rfl:=List.mem_singleton.1 hi
 refine Reg.wpOp_list rfl ?_
 refine wpList_store_row rfl 31 (.tmp 2) (.tmp 13) rfl (w.heap.size + 1) #[.string (xs 0).txt,.string (xs 1).txt,v1,v2,v3,v4,v5,v6,.bool (xs 2).ye] rfl rfl 31 #[.string ⟨#[]⟩,.string ⟨#[]⟩,.slice none 0 0,.slice none 0 0,.slice none 0 0,.slice none 0 0,.slice none 0 0,.slice none 0 0,.bool false] g1 hi0 (by rfl) (by simp [Value.oneCell']; exact ⟨o1,o2,o3,o4,o5,o6⟩) ?_
 go_wp2_with fail
 change _ ∧ _
 refine ⟨hS2,?_⟩
 refine wpAnyH_all (rs:=[4]) (by kernel_rfl) (by simp) ?_
 intro i hi
 obtain rfl:=List.mem_singleton.1 hi
 refine Reg.wpOp_list rfl ?_
 refine wpList_store_row rfl 45 (.tmp 3) (.tmp 14) rfl (w.heap.size + 1 + 1) #[.int .i64 er,.int .i64 ln] rfl rfl 45 #[.int .i64 0,.int .i64 0] g3 hi1 (by rfl) (by simp [Value.oneCell']) ?_
 go_wp2_with fail
 change _ ∧ _
 refine ⟨hS3,?_⟩
 refine wpAnyH_done (by kernel_rfl) ?_ _
 generalize ((u1.setRow (w.heap.size + 1) #[.string (xs 0).txt,.string (xs 1).txt,v1,v2,v3,v4,v5,v6,.bool (xs 2).ye]).setRow (w.heap.size + 1 + 1) #[.int .i64 er,.int .i64 ln]) = wz at *
 have r0:=hr1.at (i:=0) rfl
 have r1:=hr1.at (i:=1) rfl
 have r2:=hr1.at (i:=2) rfl
 have r3:=hr1.at (i:=3) rfl
 have r4:=hr1.at (i:=4) rfl
 have r5:=hr1.at (i:=5) rfl
 have r6:=hr1.at (i:=6) rfl
 have r7:=hr1.at (i:=7) rfl
 have r8:=hr1.at (i:=8) rfl
 have a0:=hr2.at (i:=0) rfl
 have a1:=hr2.at (i:=1) rfl
 clear hr1 hr2 hS0 hS1 hS2 hS3 g1 g2 g3 cx kb hH hb5 hb4 hv3 hi1' hi2'' hz3 hz5
 go_wp2_with fail
 refine bodyPost_ret (v:=.tuple #[.agg #[.string (xs 0).txt,.string (xs 1).txt,v1,v2,v3,v4,v5,v6,.bool (xs 2).ye],.agg #[.int .i64 er,.int .i64 ln]]) ?_ rfl ?_
 ·simp [results,Tryz.results23,go_sem,r0,r1,r2,r3,r4,r5,r6,r7,r8,a0,a1]
 ·refine ⟨_,pkOf xs,_,_,rfl,fun z hz=>?_,hbz,?_⟩
  ·exact ⟨v1,v2,v3,v4,v5,v6,by simp [pkOf,pkOf]; exact ⟨(S_self _).symm,(S_self _).symm⟩,(hHz.mono hle) z hz⟩
  ·have hr:=R.out
   have hn:=HNE.out
   revert hr hn
   generalize RR = Z
   intro hr hn
   cases Z with
   | error p=>exact ⟨hr.1,hr.2.1,by rw [hr.1]; exact hn p rfl⟩
   | ok y =>
    obtain ⟨h1,h2,rfl⟩:=hr
    exact ⟨h1,h2,rfl⟩
end Rc
end Go.Proofs.YthmpepnikmdjpaaGreatDoor
namespace Go.Proofs.YthmpepnikmdjpaaGreatDoor
open Go.RowKit
set_option linter.unusedSimpArgs false
set_option linter.unusedVariables false
namespace Rc
open Ver (Bs li li_len S S_self S_size S_li)
open Rl (At Pv LimA LimP LimC)
open Va (Vl rd knd)
open Stz (Fld Sz foldL)
def GoodV (x:Vl):Prop:=x.Lim ∧ x.txt.size ≤ 140737488351232
theorem good_none:GoodV .none:=⟨⟨Va.nil_lim.1,Va.nil_lim.2.1,Va.nil_lim.2.2,by decide⟩,by show (0:Nat) ≤ _; omega⟩
theorem rd_txt {k:Nat} {s:ByteArray} {x:Vl} (h:rd k s = .ok x):x.txt.size ≤ s.size:=by
 have nt:∀ y:Vl,y.txt = ⟨#[]⟩ → y.txt.size ≤ s.size:=fun y hy=>by rw [hy]; exact Nat.zero_le _
 unfold rd at h
 repeat' split at h
 all_goals first
  | (cases h; exact Nat.le_refl _)
  | (cases h; exact nt _ rfl)
  | (cases h; done)
  | skip
 ·cases hq:Rl.whole Rl.rdC (li s) with
  | ok xs=>rw [hq] at h; cases h; exact nt _ rfl
  | error e'=>rw [hq] at h; cases h
 ·cases hq:Rl.whole Rl.rdA (li s) with
  | ok xs=>rw [hq] at h; cases h; exact nt _ rfl
  | error e'=>rw [hq] at h; cases h
 ·cases hq:Rl.whole Rl.rdP (li s) with
  | ok xs=>rw [hq] at h; cases h; exact nt _ rfl
  | error e'=>rw [hq] at h; cases h
theorem fold_size {f:Fld} (h:FSmall f):(S (foldL f.2)).size ≤ 140737488351232:=by
 rw [S_size]
 have h1:=Stz.fold_len f.2 h.len f.2.length (Nat.le_refl _)
 rw [List.take_of_length_le (Nat.le_refl _)] at h1
 have h2:(1048576 + 1) * f.2.length ≤ 1048577 * 100000:=Nat.mul_le_mul_left _ h.cnt
 omega
theorem rdV_good (nm s:ByteArray) (x:Vl) (hs:s.size ≤ 140737488351232) (h:rdV nm s = .ok x):GoodV x:=⟨(Va.back h).2.2,Nat.le_trans (rd_txt h) hs⟩
theorem rdf_good {rf:ByteArray → ByteArray → Except Int Vl} (hrf:∀ nm s x,s.size ≤ 140737488351232 → rf nm s = .ok x → GoodV x):∀ (fs:List Fld) (line:Int) (xs ys:Vls),(∀ f ∈ fs,FSmall f) → (∀ i,GoodV (xs i)) → rdF rf line xs fs = .ok ys → ∀ i,GoodV (ys i)
 | [],line,xs,ys,_,hx,h,i=>by
  have:xs = ys:=by simpa [rdF] using h
  rw [← this]; exact hx i
 | f :: r,line,xs,ys,hf,hx,h,i=>by
  rw [rdF_cons] at h
  cases hq:rf (S f.1) (S (foldL f.2)) with
  | error e=>rw [hq] at h; cases h
  | ok x =>
   rw [hq] at h
   refine rdf_good hrf r _ _ _ (fun g hg=>hf g (List.mem_cons_of_mem _ hg)) (fun j=>?_) h i
   unfold keep keepN
   split
   ·exact hrf _ _ _ (fold_size (hf f List.mem_cons_self)) hq
   ·exact hx j
theorem rds_good {rf:ByteArray → ByteArray → Except Int Vl} (hrf:∀ nm s x,s.size ≤ 140737488351232 → rf nm s = .ok x → GoodV x) (must:List Nat) (s:Sz) (ys:Vls) (hf:∀ f ∈ s.2,FSmall f) (h:rdS rf must s = .ok ys):∀ i,GoodV (ys i):=by
 unfold rdS at h
 cases hq:rdF rf s.1 no s.2 with
 | error e=>rw [hq] at h; cases h
 | ok xs =>
  rw [hq] at h
  simp only at h
  split at h
  ·cases h
  ·cases h
   exact rdf_good hrf _ _ _ _ hf (fun _=>good_none) hq
theorem pk_lim {xs:Vls} (h:∀ i,GoodV (xs i)):(pkOf xs).Lim:=by
 refine ⟨?_,?_,(h 3).1.1,(h 4).1.1,(h 5).1.1,(h 6).1.2.1,(h 7).1.2.1,(h 8).1.2.2.1⟩
 ·show (li (xs 0).txt).length ≤ _
  rw [li_len]; exact (h 0).2
 ·show (li (xs 1).txt).length ≤ _
  rw [li_len]; exact (h 1).2
theorem of_lim {s:Sz} {p:Pk} (hf:∀ f ∈ s.2,FSmall f) (h:ofS s = .ok p):p.Lim:=by
 unfold ofS at h
 cases hq:rdS rdV [0,1] s with
 | error e=>rw [hq] at h; cases h
 | ok xs =>
  rw [hq] at h
  cases h
  exact pk_lim (rds_good rdV_good _ _ _ hf hq)
theorem each_cons {α β ε:Type} (f:α → Except ε β) (x:α) (r:List α):each f (x :: r) = (match f x with
  | .error e=>.error e
  | .ok y=>match each f r with
   | .error e=>.error e
   | .ok ys=>.ok (y :: ys)):=rfl
theorem each_snoc {α β ε:Type} {f:α → Except ε β}:∀ (l:List α) (ys:List β) (x:α) (y:β),each f l = .ok ys → f x = .ok y → each f (l ++ [x]) = .ok (ys ++ [y])
 | [],ys,x,y,h,hx=>by
  cases h
  show each f [x] = _
  rw [each_cons,hx]; rfl
 | a :: r,ys,x,y,h,hx=>by
  rw [each_cons] at h
  rw [List.cons_append,each_cons]
  cases ha:f a with
  | error e=>rw [ha] at h; cases h
  | ok b =>
   rw [ha] at h
   simp only at h ⊢
   cases hr:each f r with
   | error e=>rw [hr] at h; cases h
   | ok zs =>
    rw [hr] at h
    cases h
    rw [each_snoc r zs x y hr hx]
    rfl
theorem each_fail {α β ε:Type} {f:α → Except ε β}:∀ (l:List α) (ys:List β) (x:α) (r:List α) (e:ε),each f l = .ok ys → f x = .error e → each f (l ++ x :: r) = .error e
 | [],ys,x,r,e,h,hx=>by
  rw [List.nil_append,each_cons,hx]
 | a :: l,ys,x,r,e,h,hx=>by
  rw [each_cons] at h
  rw [List.cons_append,each_cons]
  cases ha:f a with
  | error e=>rw [ha] at h; cases h
  | ok b =>
   rw [ha] at h
   simp only at h ⊢
   cases hr:each f l with
   | error e=>rw [hr] at h; cases h
   | ok zs=>rw [each_fail l zs x r e hr hx]
end Rc
end Go.Proofs.YthmpepnikmdjpaaGreatDoor
namespace Go.Proofs.YthmpepnikmdjpaaGreatDoor
open Go.RowKit
set_option linter.unusedSimpArgs false
set_option linter.unusedVariables false
namespace Rc
open Rl (Slc)
open Va (Hi)
def In (b m:Nat) (w:World) (Q:World → Prop):Prop:=∀ u,Blk.Chg (fun k=>k < b ∨ m ≤ k) w u → Q u
theorem In.of {b:Nat} {w:World} {Q:World → Prop} (h:Hi b w Q):In b w.heap.size w Q:=fun u hu=>h u (hu.mono fun k hk hs=>by
 rcases hs with h1 | h1
 ·exact h1
 ·omega)
theorem In.on {b m:Nat} {w w':World} {Q:World → Prop} (h:In b m w Q) (hc:Blk.Chg (fun k=>k < b ∨ m ≤ k) w w'):In b m w' Q:=fun u hu=>h u (hc.trans hu)
theorem In.here {b m:Nat} {w:World} {Q:World → Prop} (h:In b m w Q):Q w:=h w (Blk.Chg.refl _ _)
theorem flat_row (m:Nat):∀ (l:List (List Value)) (i j:Nat) (x:List Value),(∀ r ∈ l,r.length = m) → l[i]? = some x → j < m → l.flatten[m * i + j]? = x[j]?
 | [],i,j,x,_,h,_=>by simp at h
 | y :: l,0,j,x,hf,h,hj=>by
  simp at h
  subst h
  rw [List.flatten_cons,Nat.mul_zero,Nat.zero_add,List.getElem?_append_left (by rw [hf _ List.mem_cons_self]; exact hj)]
 | y :: l,i + 1,j,x,hf,h,hj=>by
  simp at h
  have hy:=hf y List.mem_cons_self
  rw [List.flatten_cons,List.getElem?_append_right (by rw [hy,Nat.mul_add]; omega),hy,show m * (i + 1) + j - m = m * i + j by rw [Nat.mul_add]; omega]
  exact flat_row m l i j x (fun r hr=>hf r (List.mem_cons_of_mem _ hr)) h hj
structure It {β:Type} (C:World → List Value → β → Prop) (sz L:Nat) (w:World) (v:Value) (p:List Value × β):Prop where
 len:p.1.length = sz
 has:∃ b m,L ≤ b ∧ In b m w (fun u=>C u p.1 p.2) ∧ m ≤ w.heap.size ∧ ∀ g,v.ownBlock = some g → g < b ∨ m ≤ g
def Acc {β:Type} (C:World → List Value → β → Prop) (sz:Nat) (e:TypeId) (B L:Nat) (w:World) (v:Value) (xs:List β):Prop :=
 ∃ l:List (List Value × β),l.map (·.2) = xs ∧ w.ownsRow B e sz v xs.length (l.map (·.1)).flatten ∧ ∀ p ∈ l,It C sz L w v p
theorem Acc.nil {β:Type} (C:World → List Value → β → Prop) (sz:Nat) (e:TypeId) (B L:Nat) (w:World):Acc C sz e B L w (.slice none 0 0) [] :=
 ⟨[],rfl,World.ownsRow_nil w B e sz,fun p hp=>by cases hp⟩
theorem Acc.on {β:Type} {C:World → List Value → β → Prop} {sz:Nat} {e:TypeId} {B L:Nat} {w w':World} {v:Value} {xs:List β} (h:Acc C sz e B L w v xs) (hb:Below w.heap.size w w'):Acc C sz e B L w' v xs:=by
 obtain ⟨l,h1,h2,h3⟩:=h
 refine ⟨l,h1,Own.owns_below h2 hb,fun p hp=>⟨(h3 p hp).len,?_⟩⟩
 obtain ⟨b,m,hB,hi,hm,hg⟩:=(h3 p hp).has
 exact ⟨b,m,hB,hi.on (Blk.Chg.ofBelow' hb),Nat.le_trans hm hb.size,hg⟩
theorem Acc.low {β:Type} {C:World → List Value → β → Prop} {sz:Nat} {e:TypeId} {B L:Nat} {w w':World} {v:Value} {xs:List β} (h:Acc C sz e B L w v xs) (hLB:L ≤ B) (hc:Blk.Chg (fun j=>j < L) w w'):Acc C sz e B L w' v xs:=by
 obtain ⟨l,h1,h2,h3⟩:=h
 refine ⟨l,h1,hc.owns h2 fun g hg hs=>?_,fun p hp=>⟨(h3 p hp).len,?_⟩⟩
 ·have:=(Rl.own_lt h2 hg).1
  omega
 ·obtain ⟨b,m,hB,hi,hm,hg⟩:=(h3 p hp).has
  exact ⟨b,m,hB,hi.on (hc.mono fun k _ hk=>.inl (Nat.lt_of_lt_of_le hk hB)),Nat.le_trans hm hc.size,hg⟩
theorem Acc.own {β:Type} {C:World → List Value → β → Prop} {sz:Nat} {e:TypeId} {B L:Nat} {w:World} {v:Value} {xs:List β} (h:Acc C sz e B L w v xs):∃ cs,w.ownsRow B e sz v xs.length cs:=by
 obtain ⟨l,_,h2,_⟩:=h
 exact ⟨_,h2⟩
theorem Acc.shape {β:Type} {C:World → List Value → β → Prop} {sz:Nat} {e:TypeId} {B L:Nat} {w:World} {v:Value} {xs:List β} (h:Acc C sz e B L w v xs):∃ a cap,v = .slice a xs.length cap:=by
 obtain ⟨cs,h2⟩:=h.own
 obtain ⟨a,cap,e1,_⟩:=Rl.own_shape h2
 exact ⟨a,cap,e1⟩
theorem Acc.more {β:Type} {C:World → List Value → β → Prop} {sz:Nat} {e:TypeId} {B L:Nat} {w w':World} {v v':Value} {xs:List β} (h:Acc C sz e B L w v xs) {cs:List Value} {x:β} {b m:Nat} (hlen:cs.length = sz) (hx:In b m w (fun u=>C u cs x)) (hm:m ≤ w.heap.size) (hb:∀ g,v.ownBlock = some g → g < b ∨ m ≤ g) (hBb:L ≤ b)
  (hown:∀ ys,w.ownsRow B e sz v xs.length ys → w'.ownsRow B e sz v' (xs.length + 1) (ys ++ cs)) (hg:w.grownBy w' v.ownBlock) (hw:∀ k,v'.ownBlock = some k → v.ownBlock = some k ∨ w.heap.size ≤ k):Acc C sz e B L w' v' (xs ++ [x]):=by
 obtain ⟨l,h1,h2,h3⟩:=h
 refine ⟨l ++ [(cs,x)],by simp [h1],?_,fun p hp=>?_⟩
 ·have:=hown _ h2
  simpa using this
 ·have key:∀ (q:List Value × β) (b m:Nat),L ≤ b → In b m w (fun u=>C u q.1 q.2) → m ≤ w.heap.size → (∀ g,v.ownBlock = some g → g < b ∨ m ≤ g) → ∃ b m,L ≤ b ∧ In b m w' (fun u=>C u q.1 q.2) ∧ m ≤ w'.heap.size ∧ ∀ g,v'.ownBlock = some g → g < b ∨ m ≤ g:=fun q b m hB hi hm hb=>by
   refine ⟨b,m,hB,hi.on ((Blk.Chg.refl _ w).grown hg fun k hk _=>hb k hk),Nat.le_trans hm hg.size,fun g hgv=>?_⟩
   rcases hw g hgv with h4 | h4
   ·exact hb g h4
   ·exact .inr (by omega)
  rcases List.mem_append.1 hp with hp | hp
  ·obtain ⟨b,m,hB,hi,hm,hg'⟩:=(h3 p hp).has
   exact ⟨(h3 p hp).len,key p b m hB hi hm hg'⟩
  ·rw [List.mem_singleton.1 hp]
   exact ⟨hlen,key (cs,x) b m hBb hx hm hb⟩
theorem Acc.slc {β:Type} {C:World → List Value → β → Prop} {sz:Nat} {e:TypeId} {B L:Nat} {w:World} {v:Value} {xs:List β} (z:β) (h:Acc C sz e B L w v xs) (hn:xs.length ≤ 1152921504606846976):Slc sz z (CAt C) w v xs:=by
 obtain ⟨l,h1,h2,h3⟩:=h
 obtain ⟨a,cap,rfl,hc⟩:=Rl.own_shape h2
 refine ⟨hn,a,cap,rfl,hc,fun h0=>?_⟩
 obtain ⟨g,cap',e1,_⟩:=Rl.own_slice h2 h0
 simp only [Value.slice.injEq,true_and] at e1
 obtain ⟨rfl,rfl⟩:=e1
 refine ⟨g,0,rfl,fun i hi=>?_⟩
 have hl:l.length = xs.length:=by rw [← h1,List.length_map]
 have hil:i < l.length:=by omega
 obtain ⟨p,hp⟩:∃ p,l[i]? = some p:=⟨l[i],List.getElem?_eq_getElem hil⟩
 have hmem:p ∈ l:=List.mem_iff_getElem?.2 ⟨i,hp⟩
 have hx:xs.getD i z = p.2:=by
  rw [List.getD_eq_getElem?_getD,← h1,List.getElem?_map,hp]; rfl
 obtain ⟨b,m,_,hi',_,_⟩:=(h3 p hmem).has
 refine ⟨p.1,by rw [hx]; exact hi'.here,fun j u hj=>?_⟩
 have hlp:=(h3 p hmem).len
 have hjs:j < sz:=by rw [← hlp]; exact (List.getElem?_eq_some_iff.1 hj).1
 rw [Nat.zero_add]
 refine Rl.own_cell h2 ?_
 rw [flat_row sz (l.map (·.1)) i j p.1 (fun r hr=>by
  obtain ⟨q,hq,rfl⟩:=List.mem_map.1 hr
  exact (h3 q hq).len) (by rw [List.getElem?_map,hp]; rfl) hjs]
 exact hj
theorem append_at {tS e:TypeId} {z:Value} {sz bytes:Nat} (hu:Tryz.prog.underlying tS = some (.slice e)) (hi:(Tryz.prog.info? e).map (fun i=>(i.zero,i.size,i.bytes)) = some (some z,sz,bytes)) (hz:z.cells.size = sz) (hby:bytes ≤ 4000)
  {w:World} {ops:Array Oper} {rest:List Oper} {o:Oper} {a:Act} {Q:Exit → Act → World → Prop} (hgd:o.guard = none) (s x:Operand)
  (ho:o.op = .call { callee:=.builtin .append,args:=#[s,x],argTypes:=#[tS,tS] })
  (B:Nat) (v:Value) (n:Nat) (hv:a.eval s = v) (hown:∃ xs,w.ownsRow B e sz v n xs) (k:Nat) (c:Nat) (hx:a.eval x = .slice (some ⟨k,0,none⟩) 1 c) (news:List Value) (hnl:news.length = sz) (hc:∀ (j:Nat) u,news[j]? = some u → w.cell? ⟨k,j,none⟩ = some u)
  (ho1:∀ u ∈ news,u.oneCell' = true) (hn:n + 1 ≤ 70000) (hB:B ≤ w.heap.size)
  (h:∀ v' w',(∀ xs,w.ownsRow B e sz v n xs → w'.ownsRow B e sz v' (n + 1) (xs ++ news)) → w.grownBy w' v.ownBlock → (∀ k,v'.ownBlock = some k → v.ownBlock = some k ∨ w.heap.size ≤ k) → wpList Tryz.prog ops Q rest (a.put o.dst v') w'):wpList Tryz.prog ops Q (o :: rest) a w:=by
 obtain ⟨i0,hi,hz0,hz1,hz2⟩:=info_parts hi
 have hsrc:Src Tryz.prog sz tS (.slice (some ⟨k,0,none⟩) 1 c) 1 news w:=by
  refine Src.ofSlice w hu ⟨k,0,none⟩ 1 c news (by rw [hnl,Nat.one_mul]) (fun j u hj=>?_) ho1
  have:=hc j u hj
  have e:(⟨k,0,none⟩:Addr).add j = ⟨k,j,none⟩:=by cases j <;> simp [Addr.add]
  rw [e]; exact this
 have hmul:(n + 1) * bytes ≤ 70000 * 4000:=Nat.mul_le_mul hn hby
 obtain ⟨xs,hown⟩:=hown
 refine wpList_plain hgd fun K hK=>?_
 obtain ⟨v',w',hr,h2,h3,h4⟩:=Own.run_append_src (P:=Tryz.prog) tS tS o.type B e i0 z sz bytes hu hi hz0 hz1 hz2 hz v n xs hown _ 1 news hsrc (by simp only [maxLen]; omega) (by omega) hB
 unfold Oper.wp execOp
 simp only [ho,resolve,invoke,builtin,Sem.run_bind,Sem.run_pure,Result.andThen_ok,List.map_toArray,List.map_cons,List.map_nil,hv,hx,hr]
 refine hK _ _ (h v' w' (fun ys hys=>?_) h3 h4)
 have hxy:ys = xs:=by
  rcases hown.2 with ⟨e1,e2⟩ | ⟨g,cap,cur,e1,_,hh,_,_,_,ht⟩
  ·have h5:=hown.1
   have h6:=hys.1
   rw [e2,Nat.zero_mul] at h5 h6
   rw [List.eq_nil_of_length_eq_zero h5,List.eq_nil_of_length_eq_zero h6]
  ·subst e1
   rcases hys.2 with ⟨e3,_⟩ | ⟨g',cap',cur',e3,_,hh',_,_,_,ht'⟩
   ·cases e3
   ·simp only [Value.slice.injEq,Option.some.injEq,Addr.mk.injEq,and_true,true_and] at e3
    obtain ⟨rfl,rfl⟩:=e3
    rw [hh] at hh'
    cases hh'
    rw [← ht,← ht']
 rw [hxy]
 exact h2
theorem infoPk:(Tryz.prog.info? 31).map (fun i=>(i.zero,i.size,i.bytes)) = some (some (.agg #[.string ByteArray.empty,.string ByteArray.empty,.slice none 0 0,.slice none 0 0,.slice none 0 0,.slice none 0 0,.slice none 0 0,.slice none 0 0,.bool false]),9,184):=by kernel_rfl
end Rc
end Go.Proofs.YthmpepnikmdjpaaGreatDoor
namespace Go.Proofs.YthmpepnikmdjpaaGreatDoor
open Go.RowKit
set_option linter.unusedSimpArgs false
set_option linter.unusedVariables false
namespace Rc
open Ver (Bs li li_len S S_self S_size S_li)
open Rl (At Pv LimA LimP LimC Slc text atoms provs)
open Va (Hi Vl VAt wrT)
open Stz (Fld Sz Flds Stzs FldAt)
def FldC (w:World) (cs:List Value) (f:Fld):Prop:=∃ u,cs = [.string (S f.1),u] ∧ Txt.Texts w u (f.2.map S)
theorem flds_of {w:World} {v:Value} {fs:List Fld} (h:Slc 2 (([],[]):Fld) (CAt FldC) w v fs):Flds w v fs:=by
 obtain ⟨h0,a,cap,h1,h2,h3⟩:=h
 refine ⟨h0,a,cap,h1,h2,fun hl=>?_⟩
 obtain ⟨k,off,e,hat⟩:=h3 hl
 refine ⟨k,off,e,fun i hi=>?_⟩
 obtain ⟨cs,⟨u,rfl,ht⟩,hc⟩:=hat i hi
 exact ⟨hc 0 _ rfl,u,hc 1 _ rfl,ht⟩
theorem Acc.flds {B L:Nat} {w:World} {v:Value} {fs:List Fld} (h:Acc FldC 2 43 B L w v fs) (hLB:L ≤ B) (hn:fs.length ≤ 1152921504606846976):Hi L w fun u=>Flds u v fs :=
 fun _ hu=>flds_of (Acc.slc ([],[]) (h.low hLB hu) hn)
theorem yes_size (b:Bool):(wrT (yesV b)).size ≤ 3:=by cases b <;> decide
theorem text_size (l:List (List At)):(wrT (.clauses l)).size ≤ 10000:=by
 show (S (text l)).size ≤ _
 rw [S_size]
 exact Nat.le_trans (Va.wrT_long l Rl.wCl_len) (by decide)
theorem atoms_size (l:List At):(wrT (.atoms l)).size ≤ 10000:=by
 show (S (atoms l)).size ≤ _
 rw [S_size]
 exact Nat.le_trans (Va.wrT_long l Rl.wAt_len) (by decide)
theorem provs_size (l:List Pv):(wrT (.provs l)).size ≤ 10000:=by
 show (S (provs l)).size ≤ _
 rw [S_size]
 exact Nat.le_trans (Va.wrT_long l fun p=>Rl.wAt_len (Rl.pvA p)) (by decide)
theorem valsP_size {p:Pk} (h:p.Lim) (i:Nat):(wrT (valsP p i)).size ≤ 140737488351232:=by
 match i with
 | 0=>show (S p.nm).size ≤ _; rw [S_size]; exact h.nm
 | 1=>show (S p.vs).size ≤ _; rw [S_size]; exact h.vs
 | 2=>exact Nat.le_trans (yes_size p.ess) (by decide)
 | 3=>exact Nat.le_trans (text_size p.pre) (by decide)
 | 4=>exact Nat.le_trans (text_size p.dep) (by decide)
 | 5=>exact Nat.le_trans (text_size p.rcm) (by decide)
 | 6=>exact Nat.le_trans (atoms_size p.con) (by decide)
 | 7=>exact Nat.le_trans (atoms_size p.brk) (by decide)
 | 8=>exact Nat.le_trans (provs_size p.prv) (by decide)
 | _ + 9=>exact Nat.zero_le _
theorem none_lim:Vl.Lim .none:=⟨Va.nil_lim.1,Va.nil_lim.2.1,Va.nil_lim.2.2,(by show (Lit.int .i64 0).wf = true; decide)⟩
theorem yes_lim (b:Bool):(yesV b).Lim:=by
 cases b <;> exact ⟨Va.nil_lim.1,Va.nil_lim.2.1,Va.nil_lim.2.2,(by show (Lit.int .i64 0).wf = true; decide)⟩
theorem txt_lim (s:ByteArray):Vl.Lim (.text s):=⟨Va.nil_lim.1,Va.nil_lim.2.1,Va.nil_lim.2.2,(by show (Lit.int .i64 0).wf = true; decide)⟩
theorem valsP_lim {p:Pk} (h:p.Lim) (i:Nat):(valsP p i).Lim:=by
 match i with
 | 0=>exact txt_lim _
 | 1=>exact txt_lim _
 | 2=>exact yes_lim _
 | 3=>exact ⟨h.pre,Va.nil_lim.2.1,Va.nil_lim.2.2,(by show (Lit.int .i64 0).wf = true; decide)⟩
 | 4=>exact ⟨h.dep,Va.nil_lim.2.1,Va.nil_lim.2.2,(by show (Lit.int .i64 0).wf = true; decide)⟩
 | 5=>exact ⟨h.rcm,Va.nil_lim.2.1,Va.nil_lim.2.2,(by show (Lit.int .i64 0).wf = true; decide)⟩
 | 6=>exact ⟨Va.nil_lim.1,h.con,Va.nil_lim.2.2,(by show (Lit.int .i64 0).wf = true; decide)⟩
 | 7=>exact ⟨Va.nil_lim.1,h.brk,Va.nil_lim.2.2,(by show (Lit.int .i64 0).wf = true; decide)⟩
 | 8=>exact ⟨Va.nil_lim.1,Va.nil_lim.2.1,h.prv,(by show (Lit.int .i64 0).wf = true; decide)⟩
 | _ + 9=>exact none_lim
structure Wr (xs:Vls):Prop where
 lim:∀ i,(xs i).Lim
 size:∀ i,(wrT (xs i)).size ≤ 140737488351232
theorem wrP {p:Pk} (h:p.Lim):Wr (valsP p):=⟨valsP_lim h,valsP_size h⟩
theorem fldN_succ (xs:Vls) (k:Nat):fldN xs (k + 1) = fldN xs k ++ fldAt xs k:=by
 unfold fldN
 rw [List.range_succ,List.flatMap_append]
 simp
theorem fldN_len (xs:Vls):∀ k,(fldN xs k).length ≤ k
 | 0=>Nat.le_refl _
 | k + 1=>by
  rw [fldN_succ,List.length_append]
  have:=fldN_len xs k
  have h2:(fldAt xs k).length ≤ 1:=by unfold fldAt; split <;> simp
  omega
end Rc
end Go.Proofs.YthmpepnikmdjpaaGreatDoor

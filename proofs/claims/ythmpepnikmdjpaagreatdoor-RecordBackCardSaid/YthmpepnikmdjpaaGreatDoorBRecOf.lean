/-
The package, the entry that a stanza tells.
-/
import Derived.Test.YthmpepnikmdjpaaGreatDoorBRecRead
import Derived.Test.YthmpepnikmdjpaaGreatDoorBRecLine
namespace Go.Proofs.YthmpepnikmdjpaaGreatDoor
open Go.RowKit
set_option linter.unusedSimpArgs false
set_option linter.unusedVariables false
namespace Rc
open Ver (Bs li li_len S S_self S_size S_li)
open Rl (At Pv Ats Pvs Clss Slc LimA LimP LimC Vars whole rdC rdA rdP)
open Va (Hi Vl VAt wrT rd knd Rdr)
open Stz (Fld Sz sameB sameS foldL Flds FldAt)
theorem rd_ne {k:Nat} {s:ByteArray} {e:Int} (h:rd k s = .error e):e ≠ 0:=by
 unfold rd at h
 repeat' split at h
 all_goals first
  | (cases h; done)
  | (cases h; decide)
  | skip
 ·cases hq:whole rdC (li s) with
  | ok xs=>rw [hq] at h; cases h
  | error e'=>rw [hq] at h; cases h; exact Va.er_ne (fun l e h=>Rl.rdC_err h) hq
 ·cases hq:whole rdA (li s) with
  | ok xs=>rw [hq] at h; cases h
  | error e'=>rw [hq] at h; cases h; exact Va.er_ne (fun l e h=>Rl.rdA_er l e h) hq
 ·cases hq:whole rdP (li s) with
  | ok xs=>rw [hq] at h; cases h
  | error e'=>rw [hq] at h; cases h; exact Va.er_ne (fun l e h=>Va.rdP_er l e h) hq
theorem rd_small {k:Nat} {s:ByteArray} {x:Vl} (h:rd k s = .ok x):x.Small:=by
 have triv:∀ {y:Vl},y.cls = [] → y.ats = [] → y.pvs = [] → y.Small:=fun h1 h2 h3=>⟨⟨by rw [h1]; simp,by rw [h1]; simp⟩,by rw [h2]; simp,by rw [h3]; simp⟩
 unfold rd at h
 repeat' split at h
 all_goals first
  | (cases h; exact triv rfl rfl rfl)
  | (cases h; done)
  | skip
 ·cases hq:whole rdC (li s) with
  | ok xs =>
   rw [hq] at h; cases h
   have h1:=Rl.whole_len hq
   have h2:=Rl.whole_clen hq
   exact ⟨⟨show xs.length ≤ 60000 by omega,fun c hc=>by have:=h2 c hc; omega⟩,Nat.zero_le _,Nat.zero_le _⟩
  | error e'=>rw [hq] at h; cases h
 ·cases hq:whole rdA (li s) with
  | ok xs =>
   rw [hq] at h; cases h
   have h1:=Rl.whole_len hq
   exact ⟨⟨Nat.zero_le _,fun c hc=>by cases hc⟩,show xs.length ≤ 60000 by omega,Nat.zero_le _⟩
  | error e'=>rw [hq] at h; cases h
 ·cases hq:whole rdP (li s) with
  | ok xs =>
   rw [hq] at h; cases h
   have h1:=Rl.whole_len hq
   exact ⟨⟨Nat.zero_le _,fun c hc=>by cases hc⟩,Nat.zero_le _,show xs.length ≤ 60000 by omega⟩
  | error e'=>rw [hq] at h; cases h
theorem fieldV:Field 65 rdV where
 call:=enters_of Tryz.func65 (by kernel_rfl) rfl
 con:=fun nm t w _ ht hG=>Va.read_any nm t (by omega) w hG.v
 small:=fun nm t x h=>rd_small h
 ne:=fun nm t e h=>rd_ne h
theorem fieldE:Field 136 rdE where
 call:=enters_of Tryz.func136 (by kernel_rfl) rfl
 con:=fun nm t w hn ht hG=>readOfEntry_any nm t (by omega) (by omega) w hG.v hG.n
 small:=fun nm t x h=>by
  unfold rdE at h
  split at h
  ·cases h
  ·exact rd_small h
 ne:=fun nm t e h=>by
  unfold rdE at h
  split at h
  ·cases h; decide
  ·exact rd_ne h
theorem rdf_ne {f:FuncId} {rf:ByteArray → ByteArray → Except Int Vl} (hF:Field f rf):∀ (fs:List Fld) (line:Int) (xs:Vls) (p:Int × Int),rdF rf line xs fs = .error p → p.1 ≠ 0
 | [],_,_,_,h=>by cases h
 | f :: r,line,xs,p,h=>by
  rw [rdF_cons] at h
  cases hq:rf (S f.1) (S (foldL f.2)) with
  | error e =>
   rw [hq] at h
   simp only [Except.error.injEq] at h
   subst h
   exact hF.ne _ _ _ hq
  | ok x =>
   rw [hq] at h
   exact rdf_ne hF r _ _ _ h
theorem rds_ne {f:FuncId} {rf:ByteArray → ByteArray → Except Int Vl} (hF:Field f rf) (must:List Nat) (s:Sz) (p:Int × Int) (h:rdS rf must s = .error p):p.1 ≠ 0:=by
 unfold rdS at h
 cases hq:rdF rf s.1 no s.2 with
 | error e =>
  rw [hq] at h
  simp only [Except.error.injEq] at h
  subst h
  exact rdf_ne hF _ _ _ _ hq
 | ok x =>
  rw [hq] at h
  simp only at h
  split at h
  ·cases h; simp
  ·cases h
theorem two_new (w:World) (T1 T2:TypeId) (C1 C2:Array Value):∃ W,(w.alloc (.cells C1 T1)).alloc (.cells C2 T2) = W ∧ Below w.heap.size w W ∧ W.heap.size = w.heap.size + 2 ∧ Blk.Is W w.heap.size T1 C1 ∧ Blk.Is W (w.heap.size + 1) T2 C2:=by
 have s1:(w.alloc (.cells C1 T1)).heap.size = w.heap.size + 1:=by simp
 have i1:=Blk.Is.new w T1 C1
 have i2:=Blk.Is.new (w.alloc (.cells C1 T1)) T2 C2
 rw [s1] at i2
 exact ⟨_,rfl,((Below.refl _ _).alloc (Nat.le_refl _) _).alloc (by omega) _,by simp,i1.alloc _,i2⟩
theorem clss_one {w:World} {v:Value} {l:List (List At)} (h:Clss w v l):v.oneCell' = true:=by obtain ⟨a,c,rfl⟩:=h.shape; rfl
theorem ats_one {w:World} {v:Value} {l:List At} (h:Ats w v l):v.oneCell' = true:=by obtain ⟨a,c,rfl⟩:=h.shape; rfl
theorem pvs_one {w:World} {v:Value} {l:List Pv} (h:Pvs w v l):v.oneCell' = true:=by obtain ⟨a,c,rfl⟩:=h.shape; rfl
def OfP {β:Type} (C:World → List Value → β → Prop) (o:Except (Int × Int) β) (w:World) (e:Ending) (w':World):Prop:=∃ cs x er ln,e = .returned (.tuple #[.agg cs,.agg #[.int .i64 er,.int .i64 ln]]) ∧ Hi w.heap.size w' (fun z=>C z cs.toList x) ∧ Below w.heap.size w w' ∧ match o with
 | .error p=>er = p.1 ∧ ln = p.2 ∧ er ≠ 0
 | .ok y=>er = 0 ∧ ln = 0 ∧ x = y
set_option maxRecDepth 100000 in
set_option maxHeartbeats 4000000 in
theorem of_any (line:Int) (fv:Value) (fs:List Fld) (w:World) (hG:Gl w) (hl:LineOK line) (hFl:Flds w fv fs) (hok:∀ f ∈ fs,FOk f) :
  Calls Tryz.prog 23 #[.agg #[.int .i64 line,fv]] w fun e w'=>OfP PkC (ofS (line,fs)) w e w':=by
 have hof:ofS (line,fs) = onOk pkOf (rdS rdV [0,1] (line,fs)):=rfl
 have cr:=fun (mb:Nat) (W:World) (hb:Below w.heap.size w W) (hM:∀ j,j < 2 → W.cell? ⟨mb,j,none⟩ = some (.int .i64 (([0,1]:List Nat).getD j 0:Nat)))=>read_any _ rdV fieldV [0,1] (by decide) (by decide) mb line fv fs W (hG.on hb) hl (hFl.below hb) hok hM
 have hne:=rds_ne fieldV [0,1] (line,fs)
 rw [hof]
 obtain ⟨RR,hRR⟩:∃ RR,rdS rdV [0,1] (line,fs) = RR:=⟨_,rfl⟩
 rw [hRR] at cr hne ⊢
 clear hRR
 obtain ⟨_,fa,fc,rfl,_,_⟩:=id hFl
 obtain ⟨W,hW,hB,hsz,hI0,hI1,hI2⟩:=Va.three_new w 40 31 45 #[.int .i64 line,.slice fa fs.length fc] #[.string ⟨#[]⟩,.string ⟨#[]⟩,.slice none 0 0,.slice none 0 0,.slice none 0 0,.slice none 0 0,.slice none 0 0,.slice none 0 0,.bool false] #[.int .i64 0,.int .i64 0]
 have CR:=Lib.hid cr
 have HNE:=Lib.hid hne
 have c0:=hI0.at (i:=0) rfl
 have c1:=hI0.at (i:=1) rfl
 have HB:=Lib.hid hB
 have HSZ:=Lib.hid hsz
 have I0:=Lib.hid hI0
 have I1:=Lib.hid hI1
 have I2:=Lib.hid hI2
 have hi0:(Tryz.prog.info? 31).map (·.size) = some 9:=by kernel_rfl
 have hi1:(Tryz.prog.info? 45).map (·.size) = some 2:=by kernel_rfl
 have hi2:(Tryz.prog.info? 99).map (·.size) = some 11:=by kernel_rfl
 clear cr hne hG hl hFl hok hof hB hsz hI0 hI1 hI2
 go_enter Tryz.func23,Tryz.ntmps23
 go_wp2_with fail
 have hb5:=((Below.refl W.heap.size W).alloc (Nat.le_refl _) (.cells #[.int .i64 0,.int .i64 1] 3))
 have ii:=Blk.Is.new W 3 #[.int .i64 0,.int .i64 1]
 refine (CR.out W.heap.size _ (HB.out.trans (hb5.mono HB.out.size)) (by intro j hj; match j,hj with
  | 0,_=>exact ii.at (i:=0) rfl
  | 1,_=>exact ii.at (i:=1) rfl)).mono ?_
 rintro e w1 ⟨cs,xs,er,ln,rfl,hV,hsm,k1,hR⟩
 have hB1:=HB.out.trans ((hb5.trans (k1.mono hb5.size)).mono HB.out.size)
 have i0:=Rl.is_on (Rl.is_on I0.out hb5) k1
 have i1:=Rl.is_on (Rl.is_on I1.out hb5) k1
 have i2:=Rl.is_on (Rl.is_on I2.out hb5) k1
 have hz1:w.heap.size + 3 ≤ w1.heap.size:=Nat.le_trans (Nat.le_of_eq HSZ.out.symm) (Nat.le_trans hb5.size k1.size)
 obtain ⟨W2,hW2,hB2,hs2,j0,j1⟩:=two_new w1 99 45 nils #[.int .i64 0,.int .i64 0]
 unfold nils at hW2
 have hB3:=hB1.trans (hB2.mono hB1.size)
 have i1:=Rl.is_on i1 hB2
 have i2:=Rl.is_on i2 hB2
 have R:=Lib.hid hR
 have hV3:=((hV.mono (Nat.le_trans HB.out.size hb5.size)).on (((Blk.Chg.ofBelow' hB2).setRow' (Nat.le_refl _) cs).setRow' (Nat.le_succ _) #[.int .i64 er,.int .i64 ln])).below (Below.refl _ _).drew
 have hB4:=(Va.below_row (Va.below_row hB3 (show w.heap.size ≤ w1.heap.size by omega) cs) (show w.heap.size ≤ w1.heap.size + 1 by omega) #[.int .i64 er,.int .i64 ln]).drew
 have hS0:Blk.Is ((W2.setRow w1.heap.size cs).setRow (w1.heap.size + 1) #[.int .i64 er,.int .i64 ln]).drew w1.heap.size 99 cs ∧ Blk.Is ((W2.setRow w1.heap.size cs).setRow (w1.heap.size + 1) #[.int .i64 er,.int .i64 ln]).drew (w1.heap.size + 1) 45 #[.int .i64 er,.int .i64 ln]:=⟨((j0.row cs).rowOther (g:=w1.heap.size + 1) _ (by omega)).drew,((j1.rowOther (g:=w1.heap.size) cs (by omega)).row _).drew⟩
 have i1:=((i1.rowOther (g:=w1.heap.size) cs (by omega)).rowOther (g:=w1.heap.size + 1) #[.int .i64 er,.int .i64 ln] (by omega)).drew
 have i2:=((i2.rowOther (g:=w1.heap.size) cs (by omega)).rowOther (g:=w1.heap.size + 1) #[.int .i64 er,.int .i64 ln] (by omega)).drew
 have hz3:w.heap.size + 3 ≤ ((W2.setRow w1.heap.size cs).setRow (w1.heap.size + 1) #[.int .i64 er,.int .i64 ln]).drew.heap.size:=by show _ ≤ ((W2.setRow w1.heap.size cs).setRow (w1.heap.size + 1) #[.int .i64 er,.int .i64 ln]).heap.size; simp; omega
 have V:=Lib.hid hV3
 have B4:=Lib.hid hB4
 have SS:=Lib.hid hS0
 have Z3:=Lib.hid hz3
 have SM:=Lib.hid hsm
 have I1:=Lib.hid i1
 have I2:=Lib.hid i2
 have J0:=Lib.hid j0
 have J1:=Lib.hid (j1.rowOther (g:=w1.heap.size) cs (by omega))
 have hone:=one_all hV
 have hi2':(Tryz.prog.info? 99).map (·.size) = some cs.size:=by rw [hV.len]; exact hi2
 obtain ⟨b0,hb0⟩:∃ b0,w1.heap.size = b0:=⟨_,rfl⟩
 rw [hb0] at J0 J1 SS V B4 I1 I2 Z3
 have LC:=Lib.hid hV.len
 have BN:=Lib.hid (show w.heap.size + 3 ≤ b0 by omega)
 have hc2:=valsSz hV.len
 clear hb5 ii k1 hB1 i0 i1 i2 hz1 hB2 hs2 j0 j1 hB3 hV hV3 hS0 hz3 hB4 hsm hR I0 HB HSZ CR
 go_upto_region 2 with (first | (refine wpList_store_row rfl 99 (.tmp 4) (.tmp 10) rfl b0 cs rfl rfl 99 nils J0.out hi2' (by rw [LC.out]; rfl) hone ?_) | (refine wpList_store_row rfl 45 (.tmp 5) (.tmp 11) rfl (b0 + 1) #[.int .i64 er,.int .i64 ln] rfl rfl 45 #[.int .i64 0,.int .i64 0] J1.out hi1 (by rfl) (by simp [Value.oneCell']) ?_))
 simp only [Act.put]
 have hv3:=V.out
 have hS0:=SS.out
 have hb4:=B4.out
 have hi1':=I1.out
 have hi2'':=I2.out
 have hz3:=Z3.out
 refine wp_region_held (S:=fun u=>Blk.Is u b0 99 cs ∧ Blk.Is u (b0 + 1) 45 #[.int .i64 er,.int .i64 ln]) (by kernel_rfl) ?_
 change wpAnyH _ _ _ _ _ 5 _ _ ((W2.setRow b0 cs).setRow (b0 + 1) #[.int .i64 er,.int .i64 ln]).drew
 clear SS V B4 I1 I2 Z3 J0 J1
 generalize ((W2.setRow b0 cs).setRow (b0 + 1) #[.int .i64 er,.int .i64 ln]).drew = u0 at *
 refine wpAnyH_take (i:=0) (v:=.agg cs) rfl (by kernel_rfl) (by kernel_rfl) (by kernel_rfl) (fun _ _ _ h=>h) (yieldsIf_load_mid rfl 99 (.tmp 4) rfl b0 0 rfl cs.toList _ (fun w h=>range_vals h.1) valsD rfl hc2) hS0 ?_
 simp only [Act.put,List.getElem_toArray,List.getElem_cons_zero,List.getElem_cons_succ,List.setIfInBounds_toArray,List.set_cons_zero,List.set_cons_succ]
 refine wpAnyH_take (i:=2) (v:=.agg #[.int .i64 er,.int .i64 ln]) rfl (by kernel_rfl) (by kernel_rfl) (by kernel_rfl) (fun _ _ _ h=>h) (yieldsIf_load_mid rfl 45 (.tmp 5) rfl (b0 + 1) 0 rfl [.int .i64 er,.int .i64 ln] _ (fun w h=>range_vals h.2) Tryz.underlying45 rfl (by kernel_rfl)) hS0 ?_
 simp only [Act.put,List.getElem_toArray,List.getElem_cons_zero,List.getElem_cons_succ,List.setIfInBounds_toArray,List.set_cons_zero,List.set_cons_succ]
 have cx:=pkg_any cs xs _ u0 hv3 SM.out
 refine wpAnyH_all (rs:=[1]) (by kernel_rfl) (by simp) ?_
 intro i hi
 obtain rfl:=List.mem_singleton.1 hi
 refine Reg.wpOp_list rfl ?_
 go_wp2_with fail
 refine cx.mono ?_
 rintro e u1 ⟨v1,v2,v3,v4,v5,v6,rfl,hH,kb⟩
 go_wp2_with fail
 change _ ∧ _
 have hS1:Blk.Is u1 b0 99 cs ∧ Blk.Is u1 (b0 + 1) 45 #[.int .i64 er,.int .i64 ln]:=⟨Rl.is_on hS0.1 kb,Rl.is_on hS0.2 kb⟩
 refine ⟨hS1,?_⟩
 have g1:=Rl.is_on hi1' kb
 have g2:=Rl.is_on hi2'' kb
 have hb5:=hb4.trans (kb.mono hb4.size)
 have hz5:=Nat.le_trans hz3 kb.size
 have hbn:w.heap.size + 3 ≤ b0:=BN.out
 have g3:=g2.rowOther (g:=w.heap.size + 1) #[.string (xs 0).txt,.string (xs 1).txt,v1,v2,v3,v4,v5,v6,.bool (xs 2).ye] (by omega)
 have hS2:Blk.Is (u1.setRow (w.heap.size + 1) #[.string (xs 0).txt,.string (xs 1).txt,v1,v2,v3,v4,v5,v6,.bool (xs 2).ye]) b0 99 cs ∧ Blk.Is (u1.setRow (w.heap.size + 1) #[.string (xs 0).txt,.string (xs 1).txt,v1,v2,v3,v4,v5,v6,.bool (xs 2).ye]) (b0 + 1) 45 #[.int .i64 er,.int .i64 ln]:=⟨hS1.1.rowOther _ (by omega),hS1.2.rowOther _ (by omega)⟩
 have hS3:Blk.Is ((u1.setRow (w.heap.size + 1) #[.string (xs 0).txt,.string (xs 1).txt,v1,v2,v3,v4,v5,v6,.bool (xs 2).ye]).setRow (w.heap.size + 1 + 1) #[.int .i64 er,.int .i64 ln]) b0 99 cs ∧ Blk.Is ((u1.setRow (w.heap.size + 1) #[.string (xs 0).txt,.string (xs 1).txt,v1,v2,v3,v4,v5,v6,.bool (xs 2).ye]).setRow (w.heap.size + 1 + 1) #[.int .i64 er,.int .i64 ln]) (b0 + 1) 45 #[.int .i64 er,.int .i64 ln]:=⟨hS2.1.rowOther _ (by omega),hS2.2.rowOther _ (by omega)⟩
 have hr1:=(g1.row #[.string (xs 0).txt,.string (xs 1).txt,v1,v2,v3,v4,v5,v6,.bool (xs 2).ye]).rowOther (g:=w.heap.size + 1 + 1) #[.int .i64 er,.int .i64 ln] (by omega)
 have hr2:=g3.row #[.int .i64 er,.int .i64 ln]
 have hbz:Below w.heap.size w ((u1.setRow (w.heap.size + 1) #[.string (xs 0).txt,.string (xs 1).txt,v1,v2,v3,v4,v5,v6,.bool (xs 2).ye]).setRow (w.heap.size + 1 + 1) #[.int .i64 er,.int .i64 ln]):=Va.below_row (Va.below_row hb5 (by omega) _) (by omega) _
 have hHz:HasH u0.heap.size ((u1.setRow (w.heap.size + 1) #[.string (xs 0).txt,.string (xs 1).txt,v1,v2,v3,v4,v5,v6,.bool (xs 2).ye]).setRow (w.heap.size + 1 + 1) #[.int .i64 er,.int .i64 ln]) (pkOf xs) v1 v2 v3 v4 v5 v6:=hH.on (((Blk.Chg.refl (fun k=>k < u0.heap.size) u1).setRow (g:=w.heap.size + 1) (by show w.heap.size + 1 < u0.heap.size; omega) _).setRow (g:=w.heap.size + 1 + 1) (by show w.heap.size + 1 + 1 < u0.heap.size; omega) _)
 have hle:w.heap.size ≤ u0.heap.size:=by omega
 have o1:=clss_one hH.here.pre
 have o2:=clss_one hH.here.dep
 have o3:=clss_one hH.here.rcm
 have o4:=ats_one hH.here.con
 have o5:=ats_one hH.here.brk
 have o6:=pvs_one hH.here.prv
 refine wpAnyH_all (rs:=[3]) (by kernel_rfl) (by simp) ?_
 intro i hi
 obtain rfl:=List.mem_singleton.1 hi
 refine Reg.wpOp_list rfl ?_
 refine wpList_store_row rfl 31 (.tmp 2) (.tmp 13) rfl (w.heap.size + 1) #[.string (xs 0).txt,.string (xs 1).txt,v1,v2,v3,v4,v5,v6,.bool (xs 2).ye] rfl rfl 31 #[.string ⟨#[]⟩,.string ⟨#[]⟩,.slice none 0 0,.slice none 0 0,.slice none 0 0,.slice none 0 0,.slice none 0 0,.slice none 0 0,.bool false] g1 hi0 (by rfl) (by simp [Value.oneCell']; exact ⟨o1,o2,o3,o4,o5,o6⟩) ?_
 go_wp2_with fail
 change _ ∧ _
 refine ⟨hS2,?_⟩
 refine wpAnyH_all (rs:=[4]) (by kernel_rfl) (by simp) ?_
 intro i hi
 obtain rfl:=List.mem_singleton.1 hi
 refine Reg.wpOp_list rfl ?_
 refine wpList_store_row rfl 45 (.tmp 3) (.tmp 14) rfl (w.heap.size + 1 + 1) #[.int .i64 er,.int .i64 ln] rfl rfl 45 #[.int .i64 0,.int .i64 0] g3 hi1 (by rfl) (by simp [Value.oneCell']) ?_
 go_wp2_with fail
 change _ ∧ _
 refine ⟨hS3,?_⟩
 refine wpAnyH_done (by kernel_rfl) ?_ _
 generalize ((u1.setRow (w.heap.size + 1) #[.string (xs 0).txt,.string (xs 1).txt,v1,v2,v3,v4,v5,v6,.bool (xs 2).ye]).setRow (w.heap.size + 1 + 1) #[.int .i64 er,.int .i64 ln]) = wz at *
 have r0:=hr1.at (i:=0) rfl
 have r1:=hr1.at (i:=1) rfl
 have r2:=hr1.at (i:=2) rfl
 have r3:=hr1.at (i:=3) rfl
 have r4:=hr1.at (i:=4) rfl
 have r5:=hr1.at (i:=5) rfl
 have r6:=hr1.at (i:=6) rfl
 have r7:=hr1.at (i:=7) rfl
 have r8:=hr1.at (i:=8) rfl
 have a0:=hr2.at (i:=0) rfl
 have a1:=hr2.at (i:=1) rfl
 clear hr1 hr2 hS0 hS1 hS2 hS3 g1 g2 g3 cx kb hH hb5 hb4 hv3 hi1' hi2'' hz3 hz5
 go_wp2_with fail
 refine bodyPost_ret (v:=.tuple #[.agg #[.string (xs 0).txt,.string (xs 1).txt,v1,v2,v3,v4,v5,v6,.bool (xs 2).ye],.agg #[.int .i64 er,.int .i64 ln]]) ?_ rfl ?_
 ·simp [results,Tryz.results23,go_sem,r0,r1,r2,r3,r4,r5,r6,r7,r8,a0,a1]
 ·refine ⟨_,pkOf xs,_,_,rfl,fun z hz=>?_,hbz,?_⟩
  ·exact ⟨v1,v2,v3,v4,v5,v6,by simp [pkOf,pkOf]; exact ⟨(S_self _).symm,(S_self _).symm⟩,(hHz.mono hle) z hz⟩
  ·have hr:=R.out
   have hn:=HNE.out
   revert hr hn
   generalize RR = Z
   intro hr hn
   cases Z with
   | error p=>exact ⟨hr.1,hr.2.1,by rw [hr.1]; exact hn p rfl⟩
   | ok y =>
    obtain ⟨h1,h2,rfl⟩:=hr
    exact ⟨h1,h2,rfl⟩
set_option maxRecDepth 100000 in
set_option maxHeartbeats 4000000 in
theorem entryOf_any (line:Int) (fv:Value) (fs:List Fld) (w:World) (hG:Gl w) (hl:LineOK line) (hFl:Flds w fv fs) (hok:∀ f ∈ fs,FOk f) :
  Calls Tryz.prog 78 #[.agg #[.int .i64 line,fv]] w fun e w'=>OfP EnC (enS (line,fs)) w e w':=by
 have hof:enS (line,fs) = onOk enOf (rdS rdE [0,1,9] (line,fs)):=rfl
 have cr:=fun (mb:Nat) (W:World) (hb:Below w.heap.size w W) (hM:∀ j,j < 3 → W.cell? ⟨mb,j,none⟩ = some (.int .i64 (([0,1,9]:List Nat).getD j 0:Nat)))=>read_any _ rdE fieldE [0,1,9] (by decide) (by decide) mb line fv fs W (hG.on hb) hl (hFl.below hb) hok hM
 have hne:=rds_ne fieldE [0,1,9] (line,fs)
 rw [hof]
 obtain ⟨RR,hRR⟩:∃ RR,rdS rdE [0,1,9] (line,fs) = RR:=⟨_,rfl⟩
 rw [hRR] at cr hne ⊢
 clear hRR
 obtain ⟨_,fa,fc,rfl,_,_⟩:=id hFl
 obtain ⟨W,hW,hB,hsz,hI0,hI1,hI2⟩:=Va.three_new w 40 68 45 #[.int .i64 line,.slice fa fs.length fc] #[.string ⟨#[]⟩,.string ⟨#[]⟩,.slice none 0 0,.slice none 0 0,.slice none 0 0,.slice none 0 0,.slice none 0 0,.slice none 0 0,.bool false,.bool false,.bool false] #[.int .i64 0,.int .i64 0]
 have CR:=Lib.hid cr
 have HNE:=Lib.hid hne
 have c0:=hI0.at (i:=0) rfl
 have c1:=hI0.at (i:=1) rfl
 have HB:=Lib.hid hB
 have HSZ:=Lib.hid hsz
 have I0:=Lib.hid hI0
 have I1:=Lib.hid hI1
 have I2:=Lib.hid hI2
 have hi0:(Tryz.prog.info? 68).map (·.size) = some 11:=by kernel_rfl
 have hi1:(Tryz.prog.info? 45).map (·.size) = some 2:=by kernel_rfl
 have hi2:(Tryz.prog.info? 99).map (·.size) = some 11:=by kernel_rfl
 clear cr hne hG hl hFl hok hof hB hsz hI0 hI1 hI2
 go_enter Tryz.func78,Tryz.ntmps78
 go_wp2_with fail
 have hb5:=((Below.refl W.heap.size W).alloc (Nat.le_refl _) (.cells #[.int .i64 0,.int .i64 1,.int .i64 9] 3))
 have ii:=Blk.Is.new W 3 #[.int .i64 0,.int .i64 1,.int .i64 9]
 refine (CR.out W.heap.size _ (HB.out.trans (hb5.mono HB.out.size)) (by intro j hj; match j,hj with
  | 0,_=>exact ii.at (i:=0) rfl
  | 1,_=>exact ii.at (i:=1) rfl
  | 2,_=>exact ii.at (i:=2) rfl)).mono ?_
 rintro e w1 ⟨cs,xs,er,ln,rfl,hV,hsm,k1,hR⟩
 have hB1:=HB.out.trans ((hb5.trans (k1.mono hb5.size)).mono HB.out.size)
 have i0:=Rl.is_on (Rl.is_on I0.out hb5) k1
 have i1:=Rl.is_on (Rl.is_on I1.out hb5) k1
 have i2:=Rl.is_on (Rl.is_on I2.out hb5) k1
 have hz1:w.heap.size + 3 ≤ w1.heap.size:=Nat.le_trans (Nat.le_of_eq HSZ.out.symm) (Nat.le_trans hb5.size k1.size)
 obtain ⟨W2,hW2,hB2,hs2,j0,j1⟩:=two_new w1 99 45 nils #[.int .i64 0,.int .i64 0]
 unfold nils at hW2
 have hB3:=hB1.trans (hB2.mono hB1.size)
 have i1:=Rl.is_on i1 hB2
 have i2:=Rl.is_on i2 hB2
 have R:=Lib.hid hR
 have hV3:=((hV.mono (Nat.le_trans HB.out.size hb5.size)).on (((Blk.Chg.ofBelow' hB2).setRow' (Nat.le_refl _) cs).setRow' (Nat.le_succ _) #[.int .i64 er,.int .i64 ln])).below (Below.refl _ _).drew
 have hB4:=(Va.below_row (Va.below_row hB3 (show w.heap.size ≤ w1.heap.size by omega) cs) (show w.heap.size ≤ w1.heap.size + 1 by omega) #[.int .i64 er,.int .i64 ln]).drew
 have hS0:Blk.Is ((W2.setRow w1.heap.size cs).setRow (w1.heap.size + 1) #[.int .i64 er,.int .i64 ln]).drew w1.heap.size 99 cs ∧ Blk.Is ((W2.setRow w1.heap.size cs).setRow (w1.heap.size + 1) #[.int .i64 er,.int .i64 ln]).drew (w1.heap.size + 1) 45 #[.int .i64 er,.int .i64 ln]:=⟨((j0.row cs).rowOther (g:=w1.heap.size + 1) _ (by omega)).drew,((j1.rowOther (g:=w1.heap.size) cs (by omega)).row _).drew⟩
 have i1:=((i1.rowOther (g:=w1.heap.size) cs (by omega)).rowOther (g:=w1.heap.size + 1) #[.int .i64 er,.int .i64 ln] (by omega)).drew
 have i2:=((i2.rowOther (g:=w1.heap.size) cs (by omega)).rowOther (g:=w1.heap.size + 1) #[.int .i64 er,.int .i64 ln] (by omega)).drew
 have hz3:w.heap.size + 3 ≤ ((W2.setRow w1.heap.size cs).setRow (w1.heap.size + 1) #[.int .i64 er,.int .i64 ln]).drew.heap.size:=by show _ ≤ ((W2.setRow w1.heap.size cs).setRow (w1.heap.size + 1) #[.int .i64 er,.int .i64 ln]).heap.size; simp; omega
 have V:=Lib.hid hV3
 have B4:=Lib.hid hB4
 have SS:=Lib.hid hS0
 have Z3:=Lib.hid hz3
 have SM:=Lib.hid hsm
 have I1:=Lib.hid i1
 have I2:=Lib.hid i2
 have J0:=Lib.hid j0
 have J1:=Lib.hid (j1.rowOther (g:=w1.heap.size) cs (by omega))
 have hone:=one_all hV
 have hi2':(Tryz.prog.info? 99).map (·.size) = some cs.size:=by rw [hV.len]; exact hi2
 obtain ⟨b0,hb0⟩:∃ b0,w1.heap.size = b0:=⟨_,rfl⟩
 rw [hb0] at J0 J1 SS V B4 I1 I2 Z3
 have LC:=Lib.hid hV.len
 have BN:=Lib.hid (show w.heap.size + 3 ≤ b0 by omega)
 have hc2:=valsSz hV.len
 clear hb5 ii k1 hB1 i0 i1 i2 hz1 hB2 hs2 j0 j1 hB3 hV hV3 hS0 hz3 hB4 hsm hR I0 HB HSZ CR
 go_upto_region 2 with (first | (refine wpList_store_row rfl 99 (.tmp 4) (.tmp 10) rfl b0 cs rfl rfl 99 nils J0.out hi2' (by rw [LC.out]; rfl) hone ?_) | (refine wpList_store_row rfl 45 (.tmp 5) (.tmp 11) rfl (b0 + 1) #[.int .i64 er,.int .i64 ln] rfl rfl 45 #[.int .i64 0,.int .i64 0] J1.out hi1 (by rfl) (by simp [Value.oneCell']) ?_))
 simp only [Act.put]
 have hv3:=V.out
 have hS0:=SS.out
 have hb4:=B4.out
 have hi1':=I1.out
 have hi2'':=I2.out
 have hz3:=Z3.out
 refine wp_region_held (S:=fun u=>Blk.Is u b0 99 cs ∧ Blk.Is u (b0 + 1) 45 #[.int .i64 er,.int .i64 ln]) (by kernel_rfl) ?_
 change wpAnyH _ _ _ _ _ 5 _ _ ((W2.setRow b0 cs).setRow (b0 + 1) #[.int .i64 er,.int .i64 ln]).drew
 clear SS V B4 I1 I2 Z3 J0 J1
 generalize ((W2.setRow b0 cs).setRow (b0 + 1) #[.int .i64 er,.int .i64 ln]).drew = u0 at *
 refine wpAnyH_take (i:=0) (v:=.agg cs) rfl (by kernel_rfl) (by kernel_rfl) (by kernel_rfl) (fun _ _ _ h=>h) (yieldsIf_load_mid rfl 99 (.tmp 4) rfl b0 0 rfl cs.toList _ (fun w h=>range_vals h.1) valsD rfl hc2) hS0 ?_
 simp only [Act.put,List.getElem_toArray,List.getElem_cons_zero,List.getElem_cons_succ,List.setIfInBounds_toArray,List.set_cons_zero,List.set_cons_succ]
 refine wpAnyH_take (i:=2) (v:=.agg #[.int .i64 er,.int .i64 ln]) rfl (by kernel_rfl) (by kernel_rfl) (by kernel_rfl) (fun _ _ _ h=>h) (yieldsIf_load_mid rfl 45 (.tmp 5) rfl (b0 + 1) 0 rfl [.int .i64 er,.int .i64 ln] _ (fun w h=>range_vals h.2) Tryz.underlying45 rfl (by kernel_rfl)) hS0 ?_
 simp only [Act.put,List.getElem_toArray,List.getElem_cons_zero,List.getElem_cons_succ,List.setIfInBounds_toArray,List.set_cons_zero,List.set_cons_succ]
 have cx:=entry_any cs xs _ u0 hv3 SM.out
 refine wpAnyH_all (rs:=[1]) (by kernel_rfl) (by simp) ?_
 intro i hi
 obtain rfl:=List.mem_singleton.1 hi
 refine Reg.wpOp_list rfl ?_
 go_wp2_with fail
 refine cx.mono ?_
 rintro e u1 ⟨v1,v2,v3,v4,v5,v6,rfl,hH,kb⟩
 go_wp2_with fail
 change _ ∧ _
 have hS1:Blk.Is u1 b0 99 cs ∧ Blk.Is u1 (b0 + 1) 45 #[.int .i64 er,.int .i64 ln]:=⟨Rl.is_on hS0.1 kb,Rl.is_on hS0.2 kb⟩
 refine ⟨hS1,?_⟩
 have g1:=Rl.is_on hi1' kb
 have g2:=Rl.is_on hi2'' kb
 have hb5:=hb4.trans (kb.mono hb4.size)
 have hz5:=Nat.le_trans hz3 kb.size
 have hbn:w.heap.size + 3 ≤ b0:=BN.out
 have g3:=g2.rowOther (g:=w.heap.size + 1) #[.string (xs 0).txt,.string (xs 1).txt,v1,v2,v3,v4,v5,v6,.bool (xs 2).ye,.bool (decide ((xs 9).txt = cfgT)),.bool (xs 10).ye] (by omega)
 have hS2:Blk.Is (u1.setRow (w.heap.size + 1) #[.string (xs 0).txt,.string (xs 1).txt,v1,v2,v3,v4,v5,v6,.bool (xs 2).ye,.bool (decide ((xs 9).txt = cfgT)),.bool (xs 10).ye]) b0 99 cs ∧ Blk.Is (u1.setRow (w.heap.size + 1) #[.string (xs 0).txt,.string (xs 1).txt,v1,v2,v3,v4,v5,v6,.bool (xs 2).ye,.bool (decide ((xs 9).txt = cfgT)),.bool (xs 10).ye]) (b0 + 1) 45 #[.int .i64 er,.int .i64 ln]:=⟨hS1.1.rowOther _ (by omega),hS1.2.rowOther _ (by omega)⟩
 have hS3:Blk.Is ((u1.setRow (w.heap.size + 1) #[.string (xs 0).txt,.string (xs 1).txt,v1,v2,v3,v4,v5,v6,.bool (xs 2).ye,.bool (decide ((xs 9).txt = cfgT)),.bool (xs 10).ye]).setRow (w.heap.size + 1 + 1) #[.int .i64 er,.int .i64 ln]) b0 99 cs ∧ Blk.Is ((u1.setRow (w.heap.size + 1) #[.string (xs 0).txt,.string (xs 1).txt,v1,v2,v3,v4,v5,v6,.bool (xs 2).ye,.bool (decide ((xs 9).txt = cfgT)),.bool (xs 10).ye]).setRow (w.heap.size + 1 + 1) #[.int .i64 er,.int .i64 ln]) (b0 + 1) 45 #[.int .i64 er,.int .i64 ln]:=⟨hS2.1.rowOther _ (by omega),hS2.2.rowOther _ (by omega)⟩
 have hr1:=(g1.row #[.string (xs 0).txt,.string (xs 1).txt,v1,v2,v3,v4,v5,v6,.bool (xs 2).ye,.bool (decide ((xs 9).txt = cfgT)),.bool (xs 10).ye]).rowOther (g:=w.heap.size + 1 + 1) #[.int .i64 er,.int .i64 ln] (by omega)
 have hr2:=g3.row #[.int .i64 er,.int .i64 ln]
 have hbz:Below w.heap.size w ((u1.setRow (w.heap.size + 1) #[.string (xs 0).txt,.string (xs 1).txt,v1,v2,v3,v4,v5,v6,.bool (xs 2).ye,.bool (decide ((xs 9).txt = cfgT)),.bool (xs 10).ye]).setRow (w.heap.size + 1 + 1) #[.int .i64 er,.int .i64 ln]):=Va.below_row (Va.below_row hb5 (by omega) _) (by omega) _
 have hHz:HasH u0.heap.size ((u1.setRow (w.heap.size + 1) #[.string (xs 0).txt,.string (xs 1).txt,v1,v2,v3,v4,v5,v6,.bool (xs 2).ye,.bool (decide ((xs 9).txt = cfgT)),.bool (xs 10).ye]).setRow (w.heap.size + 1 + 1) #[.int .i64 er,.int .i64 ln]) (pkOf xs) v1 v2 v3 v4 v5 v6:=hH.on (((Blk.Chg.refl (fun k=>k < u0.heap.size) u1).setRow (g:=w.heap.size + 1) (by show w.heap.size + 1 < u0.heap.size; omega) _).setRow (g:=w.heap.size + 1 + 1) (by show w.heap.size + 1 + 1 < u0.heap.size; omega) _)
 have hle:w.heap.size ≤ u0.heap.size:=by omega
 have o1:=clss_one hH.here.pre
 have o2:=clss_one hH.here.dep
 have o3:=clss_one hH.here.rcm
 have o4:=ats_one hH.here.con
 have o5:=ats_one hH.here.brk
 have o6:=pvs_one hH.here.prv
 refine wpAnyH_all (rs:=[3]) (by kernel_rfl) (by simp) ?_
 intro i hi
 obtain rfl:=List.mem_singleton.1 hi
 refine Reg.wpOp_list rfl ?_
 refine wpList_store_row rfl 68 (.tmp 2) (.tmp 13) rfl (w.heap.size + 1) #[.string (xs 0).txt,.string (xs 1).txt,v1,v2,v3,v4,v5,v6,.bool (xs 2).ye,.bool (decide ((xs 9).txt = cfgT)),.bool (xs 10).ye] rfl rfl 68 #[.string ⟨#[]⟩,.string ⟨#[]⟩,.slice none 0 0,.slice none 0 0,.slice none 0 0,.slice none 0 0,.slice none 0 0,.slice none 0 0,.bool false,.bool false,.bool false] g1 hi0 (by rfl) (by simp [Value.oneCell']; exact ⟨o1,o2,o3,o4,o5,o6⟩) ?_
 go_wp2_with fail
 change _ ∧ _
 refine ⟨hS2,?_⟩
 refine wpAnyH_all (rs:=[4]) (by kernel_rfl) (by simp) ?_
 intro i hi
 obtain rfl:=List.mem_singleton.1 hi
 refine Reg.wpOp_list rfl ?_
 refine wpList_store_row rfl 45 (.tmp 3) (.tmp 14) rfl (w.heap.size + 1 + 1) #[.int .i64 er,.int .i64 ln] rfl rfl 45 #[.int .i64 0,.int .i64 0] g3 hi1 (by rfl) (by simp [Value.oneCell']) ?_
 go_wp2_with fail
 change _ ∧ _
 refine ⟨hS3,?_⟩
 refine wpAnyH_done (by kernel_rfl) ?_ _
 generalize ((u1.setRow (w.heap.size + 1) #[.string (xs 0).txt,.string (xs 1).txt,v1,v2,v3,v4,v5,v6,.bool (xs 2).ye,.bool (decide ((xs 9).txt = cfgT)),.bool (xs 10).ye]).setRow (w.heap.size + 1 + 1) #[.int .i64 er,.int .i64 ln]) = wz at *
 have r0:=hr1.at (i:=0) rfl
 have r1:=hr1.at (i:=1) rfl
 have r2:=hr1.at (i:=2) rfl
 have r3:=hr1.at (i:=3) rfl
 have r4:=hr1.at (i:=4) rfl
 have r5:=hr1.at (i:=5) rfl
 have r6:=hr1.at (i:=6) rfl
 have r7:=hr1.at (i:=7) rfl
 have r8:=hr1.at (i:=8) rfl
 have r9:=hr1.at (i:=9) rfl
 have r10:=hr1.at (i:=10) rfl
 have a0:=hr2.at (i:=0) rfl
 have a1:=hr2.at (i:=1) rfl
 clear hr1 hr2 hS0 hS1 hS2 hS3 g1 g2 g3 cx kb hH hb5 hb4 hv3 hi1' hi2'' hz3 hz5
 go_wp2_with fail
 refine bodyPost_ret (v:=.tuple #[.agg #[.string (xs 0).txt,.string (xs 1).txt,v1,v2,v3,v4,v5,v6,.bool (xs 2).ye,.bool (decide ((xs 9).txt = cfgT)),.bool (xs 10).ye],.agg #[.int .i64 er,.int .i64 ln]]) ?_ rfl ?_
 ·simp [results,Tryz.results78,go_sem,r0,r1,r2,r3,r4,r5,r6,r7,r8,r9,r10,a0,a1]
 ·refine ⟨_,enOf xs,_,_,rfl,fun z hz=>?_,hbz,?_⟩
  ·exact ⟨v1,v2,v3,v4,v5,v6,by simp [enOf,pkOf]; exact ⟨(S_self _).symm,(S_self _).symm⟩,(hHz.mono hle) z hz⟩
  ·have hr:=R.out
   have hn:=HNE.out
   revert hr hn
   generalize RR = Z
   intro hr hn
   cases Z with
   | error p=>exact ⟨hr.1,hr.2.1,by rw [hr.1]; exact hn p rfl⟩
   | ok y =>
    obtain ⟨h1,h2,rfl⟩:=hr
    exact ⟨h1,h2,rfl⟩
end Rc
end Go.Proofs.YthmpepnikmdjpaaGreatDoor

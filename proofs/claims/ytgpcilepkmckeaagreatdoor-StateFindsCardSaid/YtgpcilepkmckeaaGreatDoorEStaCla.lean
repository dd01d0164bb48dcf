/-
clashes: what else meets the atoms of a field against which an entry is.
-/
import Derived.Test.YtgpcilepkmckeaaGreatDoorEStaUnm
import Derived.Test.YtgpcilepkmckeaaGreatDoorEIxDef
import Derived.OrdersHeld
import Derived.Deep.MidRow
namespace Go.Proofs.YtgpcilepkmckeaaGreatDoor
open Go.RowKit
set_option linter.unusedSimpArgs false
set_option linter.unusedVariables false
namespace Sa
open Ver (Bs li li_len S S_self S_size S_li)
open Rl (At Pv Ats Pvs Clss Slc LimA LimP LimC Vars aV nA mem_getD)
open Rc (Pk nPk PkV PkB Has En nEn Ens EnC CAt en_read)
open Ix (sat LimAt satisfies_any)
theorem not_row {w:World} {b:Nat} {T:TypeId} {cs:Array Value} (h:Blk.Is w b T cs) (hT:T ≠ 58) {B:Nat} {v:Value} {n:Nat} {xs:List Value} (ho:w.ownsRow B 58 5 v n xs):v.ownBlock ≠ some b:=fun e=>by
 obtain ⟨cs',h'⟩:=Rl.own_is ho e
 exact hT (h.inj h').1
set_option maxRecDepth 100000 in
set_option maxHeartbeats 16000000 in
theorem clashes2_any (v1 v2:Value) (s:List En) (p:Nat) (ls:List At) (w:World) (h:Ens w v1 s) (hc:Ats w v2 ls) (hL:LimS s) (hC:LimA ls) (hv:Vars w) (hs:s.length ≤ 26) (hls:ls.length ≤ 50) (hp:p < s.length) :
  Calls Tryz.prog 59 #[v1,.int .i64 (p:Int),v2,.int .i64 2] w fun e w'=>∃ v',e = .returned v' ∧ w'.ownsRow w.heap.size 58 5 v' (cla s p ls 2).length (vcells (cla s p ls 2)) ∧ Below w.heap.size w w':=by
 obtain ⟨hs0,sa,scap,rfl,hscap,hcells0⟩:=id h
 obtain ⟨ca,ccap,ec⟩:=hc.shape
 obtain ⟨c,hcn⟩:∃ c,ls.length = c:=⟨_,rfl⟩
 rw [hcn] at ec hls
 have HC2:=Lib.hid hcn
 obtain ⟨kb,off,rfl,hat⟩:=hcells0 (by omega)
 obtain ⟨_,_,_,_,_,_,_,_,_,_,_,_,_,_,_,_,_,_,⟨px,_⟩,_⟩:=en_read (hat p hp)
 rw [Nat.mul_comm 11 p] at px
 have hU:cla s p ls 2 = claN s p ls 2 c:=by unfold cla; rw [hcn]
 rw [hU]
 obtain ⟨NM,hNM⟩:∃ NM,S (s.getD p nEn).pk.nm = NM:=⟨_,rfl⟩
 rw [hNM] at px
 have HPN:Hid (∀ (i:Int) (o:Bs),vcells [(2,(pkA s p).nm,false,i,o)] = [.int .i64 2,.string NM,.bool false,.int .i64 i,.string (S o)]):=Lib.hid fun i o=>by
  show vcell _ ++ [] = _
  unfold vcell pkA
  rw [hNM,List.append_nil]
 have PX:=Lib.hid px
 have H:=Lib.hid h
 have HC:=Lib.hid hc
 have HL:=Lib.hid hL
 have HLC:=Lib.hid hC
 have HV:=Lib.hid hv
 obtain ⟨n,hn⟩:∃ n,s.length = n:=⟨_,rfl⟩
 have HN:=Lib.hid hn
 rw [hn] at hs hp
 rw [hn]
 have hp0:(0:Int) ≤ p:=by omega
 have hpn:(p:Int) < (n:Int):=by omega
 subst ec
 clear hcn hU h hc hL hC hv hn hNM px hat hcells0 hs0 hscap
 go_enter Tryz.func59,Tryz.ntmps59
 go_wp2_with fail
 go_loopg [9,16] c (fun gf s9 s16 wx=>∃ (i m:Nat) (ra:Option Addr) (rc:Nat) (XS:List Value),s9 = .slice ra m rc ∧ s16 = .int .i64 i ∧ Hid (wx.ownsRow w.heap.size 58 5 (.slice ra m rc) m XS) ∧ Hid (m = (claN s p ls 2 i).length ∧ XS = vcells (claN s p ls 2 i)) ∧ Hid (Below w.heap.size w wx) ∧ i ≤ c ∧ c ≤ i + gf)
 case atStart=>exact ⟨0,0,none,0,[],rfl,rfl,Lib.hid (World.ownsRow_nil _ _ _ _),Lib.hid ⟨rfl,rfl⟩,Lib.hid (Below.refl _ _),by omega,by omega⟩
 case round =>
  obtain ⟨i,m,ra,rc,XS,rfl,rfl,HO,HE,HB,hic,hfu⟩:=hrel
  by_cases hlt:i < c
  ·obtain ⟨g',rfl⟩:∃ g',gk = g' + 1:=⟨gk - 1,by omega⟩
   have hlt':(i:Int) < (c:Int):=by omega
   have hi0:(0:Int) ≤ i:=by omega
   have hil:i < ls.length:=by rw [HC2.out]; exact hlt
   obtain ⟨_,a',cap',e1,_,hcells⟩:=HC.out.below HB.out
   rw [HC2.out] at e1
   simp only [Value.slice.injEq,true_and] at e1
   obtain ⟨rfl,rfl⟩:=e1
   obtain ⟨kc,offc,rfl,hat⟩:=hcells (by omega)
   obtain ⟨x0,x1,x2⟩:=hat i hil
   rw [Nat.mul_comm 3 i] at x0 x1 x2
   have hlim:=HLC.out _ (mem_getD (z:=nA) hil)
   have hsucc:=claN_succ s p ls 2 i
   obtain ⟨a,ha⟩:∃ a,ls.getD i nA = a:=⟨_,rfl⟩
   rw [ha] at x0 x1 x2 hlim hsucc
   have hb2:=(Below.refl wr.heap.size wr).alloc (Nat.le_refl _) (.cells #[.string (S a.1),.int .i64 a.2.1,.string (S a.2.2)] 56)
   have i2:=Blk.Is.new wr 56 #[.string (S a.1),.int .i64 a.2.1,.string (S a.2.2)]
   obtain ⟨ba,hba⟩:∃ ba,wr.heap.size = ba:=⟨_,rfl⟩
   obtain ⟨V0,hV0⟩:∃ V0,wr.alloc (.cells #[.string (S a.1),.int .i64 a.2.1,.string (S a.2.2)] 56) = V0:=⟨_,rfl⟩
   rw [hV0] at hb2 i2
   rw [hba] at i2
   have OV0:=Lib.hid (Own.owns_below HO.out hb2)
   have BV0:=Lib.hid (HB.out.trans (hb2.mono HB.out.size))
   have IA:=Lib.hid i2
   have HLA:=Lib.hid hlim
   have HSN:=Lib.hid hsucc
   have HE0:Hid (m = (claN s p ls 2 i ++ claJ s p 2 i a 0).length ∧ XS = vcells (claN s p ls 2 i ++ claJ s p 2 i a 0)):=by
    rw [show claJ s p 2 i a 0 = [] from rfl,List.append_nil]; exact HE
   have KM:Hid ((claN s p ls 2 i).length ≤ 1300):=Lib.hid (by
    have h1:=claN_len s p ls 2 i
    have h2:i * s.length ≤ 50 * 26:=Nat.mul_le_mul (by omega) (by rw [HN.out]; omega)
    omega)
   have hu:=hV0
   clear hcells hat hil hlim hsucc ha hb2 i2 hV0 HO HB HE
   go_wp2_with fail
   clear hu x0 x1 x2
   go_loopg [9,23] n (fun gf s9 s23 wx=>∃ (j m:Nat) (ra:Option Addr) (rc:Nat) (XS:List Value),s9 = .slice ra m rc ∧ s23 = .int .i64 j ∧ Hid (wx.ownsRow w.heap.size 58 5 (.slice ra m rc) m XS) ∧ Hid (m = (claN s p ls 2 i ++ claJ s p 2 i a j).length ∧ XS = vcells (claN s p ls 2 i ++ claJ s p 2 i a j)) ∧ Hid (Below w.heap.size w wx ∧ Blk.Is wx ba 56 #[.string (S a.1),.int .i64 a.2.1,.string (S a.2.2)]) ∧ j ≤ n ∧ n ≤ j + gf)
   case atStart=>exact ⟨0,m,ra,rc,XS,rfl,rfl,OV0,HE0,Lib.hid ⟨BV0.out,IA.out⟩,by omega,by omega⟩
   case round =>
    clear OV0 HE0 BV0 IA
    obtain ⟨j,m,ra,rc,XS,rfl,rfl,HO,HE,HBI,hjn,hfu2⟩:=hrel
    by_cases hjl:j < n
    ·obtain ⟨g2,rfl⟩:∃ g2,gk = g2 + 1:=⟨gk - 1,by omega⟩
     have hjl':(j:Int) < (n:Int):=by omega
     have hj0:(0:Int) ≤ j:=by omega
     have hjs:j < s.length:=by rw [HN.out]; exact hjl
     obtain ⟨_,a',cap',e1,_,hcells⟩:=H.out.below HBI.out.1
     rw [HN.out] at e1
     simp only [Value.slice.injEq,true_and] at e1
     obtain ⟨rfl,rfl⟩:=e1
     obtain ⟨kb',off',e1,hat⟩:=hcells (by omega)
     simp only [Option.some.injEq,Addr.mk.injEq,and_true] at e1
     obtain ⟨rfl,rfl⟩:=e1
     obtain ⟨a1,n1,c1,a2,n2,c2,a3,n3,c3,a4,n4,c4,a5,n5,c5,a6,n6,c6,⟨x0,x1,x2,x3,x4,x5,x6,x7,x8,x9,x10⟩,hh⟩:=en_read (hat j hjs)
     rw [Nat.mul_comm 11 j] at x0 x1 x2 x3 x4 x5 x6 x7 x8 x9 x10
     have hlim:=HL.out _ (mem_getD (z:=nEn) hjs)
     have hsucc:=claJ_succ s p 2 i a j
     have hhit:hit s p 2 a j = (!(decide (j = p) || (decide ((2:Int) = 3) && !(s.getD j nEn).cfg)) && sat (s.getD j nEn).pk a):=rfl
     have hone:cla1 s p 2 i a j = if hit s p 2 a j = true then [(2,(pkA s p).nm,false,(i:Int),(s.getD j nEn).pk.nm)] else []:=rfl
     rw [hone] at hsucc
     obtain ⟨y,hy⟩:∃ y,s.getD j nEn = y:=⟨_,rfl⟩
     rw [hy] at x0 x1 x8 x9 x10 hlim hh hsucc hhit
     have hb2:=(Below.refl wr.heap.size wr).alloc (Nat.le_refl _) (.cells #[.string (S y.pk.nm),.string (S y.pk.vs),.slice a1 n1 c1,.slice a2 n2 c2,.slice a3 n3 c3,.slice a4 n4 c4,.slice a5 n5 c5,.slice a6 n6 c6,.bool y.pk.ess,.bool y.cfg,.bool y.hld] 45)
     have i2:=Blk.Is.new wr 45 #[.string (S y.pk.nm),.string (S y.pk.vs),.slice a1 n1 c1,.slice a2 n2 c2,.slice a3 n3 c3,.slice a4 n4 c4,.slice a5 n5 c5,.slice a6 n6 c6,.bool y.pk.ess,.bool y.cfg,.bool y.hld]
     obtain ⟨bx,hbx⟩:∃ bx,wr.heap.size = bx:=⟨_,rfl⟩
     obtain ⟨V,hV⟩:∃ V,wr.alloc (.cells #[.string (S y.pk.nm),.string (S y.pk.vs),.slice a1 n1 c1,.slice a2 n2 c2,.slice a3 n3 c3,.slice a4 n4 c4,.slice a5 n5 c5,.slice a6 n6 c6,.bool y.pk.ess,.bool y.cfg,.bool y.hld] 45) = V:=⟨_,rfl⟩
     rw [hV] at hb2 i2
     rw [hbx] at i2
     have hbV:=HBI.out.1.trans (hb2.mono HBI.out.1.size)
     have iaV:=Rl.is_on HBI.out.2 hb2
     have OV:=Lib.hid (Own.owns_below HO.out hb2)
     have BV:=Lib.hid hbV
     have d0:=iaV.at (i:=0) rfl
     have d1:=iaV.at (i:=1) rfl
     have d2:=iaV.at (i:=2) rfl
     have z0:=i2.at (i:=0) rfl
     have z1:=i2.at (i:=1) rfl
     have z2:=i2.at (i:=2) rfl
     have z3:=i2.at (i:=3) rfl
     have z4:=i2.at (i:=4) rfl
     have z5:=i2.at (i:=5) rfl
     have z6:=i2.at (i:=6) rfl
     have z7:=i2.at (i:=7) rfl
     have z8:=i2.at (i:=8) rfl
     have z9:=i2.at (i:=9) rfl
     have cs:=satisfies_any (.agg #[.string (S y.pk.nm),.string (S y.pk.vs),.slice a1 n1 c1,.slice a2 n2 c2,.slice a3 n3 c3,.slice a4 n4 c4,.slice a5 n5 c5,.slice a6 n6 c6,.bool y.pk.ess]) y.pk a V ⟨_,_,_,_,_,_,rfl,hh.below hb2⟩ hlim HLA.out (HV.out.on hbV)
     unfold aV at cs
     have IV:=Lib.hid i2
     have IAV:=Lib.hid iaV
     have HS:Hid (claN s p ls 2 i ++ claJ s p 2 i a (j + 1) = (claN s p ls 2 i ++ claJ s p 2 i a j) ++ (if hit s p 2 a j = true then [(2,(pkA s p).nm,false,(i:Int),y.pk.nm)] else [])):=by
      rw [hsucc,List.append_assoc]; exact rfl
     have HHIT:=Lib.hid hhit
     have K70:Hid (m + 1 ≤ 70000):=Lib.hid (by
      have h1:=HE.out.1
      have h2:=KM.out
      have h3:=claJ_len s p 2 i a j
      rw [List.length_append] at h1
      omega)
     have hu:=hV
     clear hcells hat hjs hlim hsucc hhit hone hy hb2 i2 hbV iaV hV hh HO HBI
     by_cases hjp:j = p
     ·have hj1:((j:Int) == (p:Int)) = true:=by simp [hjp]
      have HJ:Hid (decide (j = p) = true):=decide_eq_true hjp
      clear hjp
      have HE2:Hid (m = (claN s p ls 2 i ++ claJ s p 2 i a (j + 1)).length ∧ XS = vcells (claN s p ls 2 i ++ claJ s p 2 i a (j + 1))):=by
       rw [HS.out,HHIT.out]
       simp only [HJ.out,Bool.true_or,Bool.not_true,Bool.false_and,Bool.false_eq_true,if_false,List.append_nil]
       exact HE
      have O4:=OV
      have B4:=Lib.hid (⟨BV.out,IAV.out⟩:Below w.heap.size w V ∧ Blk.Is V ba 56 #[.string (S a.1),.int .i64 a.2.1,.string (S a.2.2)])
      clear HE HS HHIT cs IV
      go_wp2_with fail
      go_roundg g2
      case measure=>omega
      case rel=>exact ⟨j + 1,m,ra,rc,XS,rfl,by go_num,O4,HE2,B4,by omega,by omega⟩
     ·have hj1:((j:Int) == (p:Int)) = false:=by
       rw [beq_eq_false_iff_ne]; omega
      have HJ:Hid (decide (j = p) = false):=decide_eq_false hjp
      clear hjp
      cases hs:sat y.pk a with
      | false =>
       rw [hs] at cs
       have HE2:Hid (m = (claN s p ls 2 i ++ claJ s p 2 i a (j + 1)).length ∧ XS = vcells (claN s p ls 2 i ++ claJ s p 2 i a (j + 1))):=by
        rw [HS.out,HHIT.out,hs]
        simp only [Bool.and_false,Bool.false_eq_true,if_false,List.append_nil]
        exact HE
       clear HE HS HHIT hs
       go_wp2_with fail
       refine cs.mono ?_
       rintro e w5 ⟨rfl,k5⟩
       have O4:=Lib.hid (Own.owns_below OV.out k5)
       have B4:=Lib.hid (⟨BV.out.trans (k5.mono BV.out.size),Rl.is_on IAV.out k5⟩:Below w.heap.size w w5 ∧ Blk.Is w5 ba 56 #[.string (S a.1),.int .i64 a.2.1,.string (S a.2.2)])
       clear cs k5 OV BV IV
       go_wp2_with fail
       go_roundg g2
       case measure=>omega
       case rel=>exact ⟨j + 1,m,ra,rc,XS,rfl,by go_num,O4,HE2,B4,by omega,by omega⟩
      | true =>
       rw [hs] at cs
       have HE2:Hid (m + 1 = (claN s p ls 2 i ++ claJ s p 2 i a (j + 1)).length ∧ XS ++ [.int .i64 2,.string NM,.bool false,.int .i64 (i:Int),.string (S y.pk.nm)] = vcells (claN s p ls 2 i ++ claJ s p 2 i a (j + 1))):=by
        rw [HS.out,HHIT.out,hs]
        simp only [HJ.out,Bool.false_or,Bool.not_false,Bool.true_and,Bool.and_self,Bool.false_and,if_true,show decide ((2:Int) = 3) = false from rfl]
        rw [List.length_append,vcells_app,← HE.out.1,← HE.out.2,HPN.out]
        exact ⟨rfl,rfl⟩
       clear HE HS HHIT hs
       go_wp2_with fail
       refine cs.mono ?_
       rintro e w5 ⟨rfl,k5⟩
       have O5:=Lib.hid (Own.owns_below OV.out k5)
       have B5:=Lib.hid (BV.out.trans (k5.mono BV.out.size))
       have I5:=Lib.hid (Rl.is_on IV.out k5)
       have A5:=Lib.hid (Rl.is_on IAV.out k5)
       have CX:Hid (∀ u,(Below w.heap.size w u ∧ Blk.Is u bx 45 #[.string (S y.pk.nm),.string (S y.pk.vs),.slice a1 n1 c1,.slice a2 n2 c2,.slice a3 n3 c3,.slice a4 n4 c4,.slice a5 n5 c5,.slice a6 n6 c6,.bool y.pk.ess,.bool y.cfg,.bool y.hld] ∧ Blk.Is u ba 56 #[.string (S a.1),.int .i64 a.2.1,.string (S a.2.2)]) → u.cell? ⟨kb,off + p * 11,none⟩ = some (.string NM)):=Lib.hid fun u hu=>Rl.cell_on PX.out hu.1
       have CY:Hid (∀ u,(Below w.heap.size w u ∧ Blk.Is u bx 45 #[.string (S y.pk.nm),.string (S y.pk.vs),.slice a1 n1 c1,.slice a2 n2 c2,.slice a3 n3 c3,.slice a4 n4 c4,.slice a5 n5 c5,.slice a6 n6 c6,.bool y.pk.ess,.bool y.cfg,.bool y.hld] ∧ Blk.Is u ba 56 #[.string (S a.1),.int .i64 a.2.1,.string (S a.2.2)]) → u.cell? ⟨bx,0,none⟩ = some (.string (S y.pk.nm))):=Lib.hid fun u hu=>hu.2.1.at (i:=0) rfl
       clear cs k5 OV BV IV
       go_upto_region 10 with fail
       refine wp_region_held (S:=fun u=>Below w.heap.size w u ∧ Blk.Is u bx 45 #[.string (S y.pk.nm),.string (S y.pk.vs),.slice a1 n1 c1,.slice a2 n2 c2,.slice a3 n3 c3,.slice a4 n4 c4,.slice a5 n5 c5,.slice a6 n6 c6,.bool y.pk.ess,.bool y.cfg,.bool y.hld] ∧ Blk.Is u ba 56 #[.string (S a.1),.int .i64 a.2.1,.string (S a.2.2)]) (by kernel_rfl) ?_
       have hS0:Below w.heap.size w w5.drew ∧ Blk.Is w5.drew bx 45 #[.string (S y.pk.nm),.string (S y.pk.vs),.slice a1 n1 c1,.slice a2 n2 c2,.slice a3 n3 c3,.slice a4 n4 c4,.slice a5 n5 c5,.slice a6 n6 c6,.bool y.pk.ess,.bool y.cfg,.bool y.hld] ∧ Blk.Is w5.drew ba 56 #[.string (S a.1),.int .i64 a.2.1,.string (S a.2.2)]:=⟨B5.out.drew,I5.out.drew,A5.out.drew⟩
       have O0:=Lib.hid (Own.owns_below O5.out (Below.refl w5.heap.size w5).drew)
       change wpAnyH _ _ _ _ _ 16 _ _ w5.drew
       generalize w5.drew = u0 at *
       refine wpAnyH_take (i:=0) (v:=.slice ra m rc) rfl (by kernel_rfl) (by kernel_rfl) (by kernel_rfl) (fun _ _ _ h=>h) (.inl ⟨rfl,fun w _=>rfl⟩) hS0 ?_
       simp only [Act.put,List.getElem_toArray,List.getElem_cons_zero,List.getElem_cons_succ,List.setIfInBounds_toArray,List.set_cons_zero,List.set_cons_succ]
       refine wpAnyH_take (i:=1) (v:=.int .i64 2) rfl (by kernel_rfl) (by kernel_rfl) (by kernel_rfl) (fun _ _ _ h=>h) (.inl ⟨rfl,fun w _=>rfl⟩) hS0 ?_
       simp only [Act.put,List.getElem_toArray,List.getElem_cons_zero,List.getElem_cons_succ,List.setIfInBounds_toArray,List.set_cons_zero,List.set_cons_succ]
       refine wpAnyH_take (i:=2) (v:=.slice (some ⟨kb,off,none⟩) n scap) rfl (by kernel_rfl) (by kernel_rfl) (by kernel_rfl) (fun _ _ _ h=>h) (.inl ⟨rfl,fun w _=>rfl⟩) hS0 ?_
       simp only [Act.put,List.getElem_toArray,List.getElem_cons_zero,List.getElem_cons_succ,List.setIfInBounds_toArray,List.set_cons_zero,List.set_cons_succ]
       refine wpAnyH_take (i:=3) (v:=.int .i64 (p:Int)) rfl (by kernel_rfl) (by kernel_rfl) (by kernel_rfl) (fun _ _ _ h=>h) (.inl ⟨rfl,fun w _=>rfl⟩) hS0 ?_
       simp only [Act.put,List.getElem_toArray,List.getElem_cons_zero,List.getElem_cons_succ,List.setIfInBounds_toArray,List.set_cons_zero,List.set_cons_succ]
       refine wpAnyH_take (i:=4) (v:=.pointer (some ⟨kb,off + p * 11,none⟩)) rfl (by kernel_rfl) (by kernel_rfl) (by kernel_rfl) (fun _ _ _ h=>h) (.inl ⟨rfl,fun w _=>by simp [execOp,go_sem,Addr.add,hp0,hpn] <;> first | omega | (intro h; omega) | (intro h; simp [h])⟩) hS0 ?_
       simp only [Act.put,List.getElem_toArray,List.getElem_cons_zero,List.getElem_cons_succ,List.setIfInBounds_toArray,List.set_cons_zero,List.set_cons_succ]
       refine wpAnyH_take (i:=5) (v:=.pointer (some ⟨kb,off + p * 11,none⟩)) rfl (by kernel_rfl) (by kernel_rfl) (by kernel_rfl) (fun _ _ _ h=>h) (.inl ⟨rfl,fun w _=>rfl⟩) hS0 ?_
       simp only [Act.put,List.getElem_toArray,List.getElem_cons_zero,List.getElem_cons_succ,List.setIfInBounds_toArray,List.set_cons_zero,List.set_cons_succ]
       refine wpAnyH_take (i:=6) (v:=.pointer (some ⟨kb,off + p * 11,none⟩)) rfl (by kernel_rfl) (by kernel_rfl) (by kernel_rfl) (fun _ _ _ h=>h) (.inl ⟨rfl,fun w _=>rfl⟩) hS0 ?_
       simp only [Act.put,List.getElem_toArray,List.getElem_cons_zero,List.getElem_cons_succ,List.setIfInBounds_toArray,List.set_cons_zero,List.set_cons_succ]
       refine wpAnyH_take (i:=7) (v:=.string NM) rfl (by kernel_rfl) (by kernel_rfl) (by kernel_rfl) (fun _ _ _ h=>h) (Held.load1 rfl 9 (.tmp 50) rfl kb (off + p * 11) rfl _ _ CX.out Tryz.underlying9 rfl) hS0 ?_
       simp only [Act.put,List.getElem_toArray,List.getElem_cons_zero,List.getElem_cons_succ,List.setIfInBounds_toArray,List.set_cons_zero,List.set_cons_succ]
       refine wpAnyH_take (i:=8) (v:=.int .i64 (i:Int)) rfl (by kernel_rfl) (by kernel_rfl) (by kernel_rfl) (fun _ _ _ h=>h) (.inl ⟨rfl,fun w _=>rfl⟩) hS0 ?_
       simp only [Act.put,List.getElem_toArray,List.getElem_cons_zero,List.getElem_cons_succ,List.setIfInBounds_toArray,List.set_cons_zero,List.set_cons_succ]
       refine wpAnyH_take (i:=9) (v:=.pointer (some ⟨bx,0,none⟩)) rfl (by kernel_rfl) (by kernel_rfl) (by kernel_rfl) (fun _ _ _ h=>h) (.inl ⟨rfl,fun w _=>rfl⟩) hS0 ?_
       simp only [Act.put,List.getElem_toArray,List.getElem_cons_zero,List.getElem_cons_succ,List.setIfInBounds_toArray,List.set_cons_zero,List.set_cons_succ]
       refine wpAnyH_take (i:=10) (v:=.pointer (some ⟨bx,0,none⟩)) rfl (by kernel_rfl) (by kernel_rfl) (by kernel_rfl) (fun _ _ _ h=>h) (.inl ⟨rfl,fun w _=>rfl⟩) hS0 ?_
       simp only [Act.put,List.getElem_toArray,List.getElem_cons_zero,List.getElem_cons_succ,List.setIfInBounds_toArray,List.set_cons_zero,List.set_cons_succ]
       refine wpAnyH_take (i:=11) (v:=.string (S y.pk.nm)) rfl (by kernel_rfl) (by kernel_rfl) (by kernel_rfl) (fun _ _ _ h=>h) (Held.load1 rfl 9 (.tmp 54) rfl bx 0 rfl _ _ CY.out Tryz.underlying9 rfl) hS0 ?_
       simp only [Act.put,List.getElem_toArray,List.getElem_cons_zero,List.getElem_cons_succ,List.setIfInBounds_toArray,List.set_cons_zero,List.set_cons_succ]
       refine wpAnyH_take (i:=12) (v:=.agg #[.int .i64 2,.string NM,.bool false,.int .i64 (i:Int),.string (S y.pk.nm)]) rfl (by kernel_rfl) (by kernel_rfl) (by kernel_rfl) (fun _ _ _ h=>h) (.inl ⟨rfl,fun w _=>by kernel_rfl⟩) hS0 ?_
       simp only [Act.put,List.getElem_toArray,List.getElem_cons_zero,List.getElem_cons_succ,List.setIfInBounds_toArray,List.set_cons_zero,List.set_cons_succ]
       refine wpAnyH_all (rs:=[13]) (by kernel_rfl) (by simp) ?_
       intro i hi
       obtain rfl:=List.mem_singleton.1 hi
       refine Reg.wpOp_list rfl ?_
       go_wp2_with fail
       change _ ∧ _
       have hb1:=(Below.refl u0.heap.size u0).alloc (Nat.le_refl _) (.cells #[.int .i64 2,.string NM,.bool false,.int .i64 (i:Int),.string (S y.pk.nm)] 58)
       have i1:=Blk.Is.new u0 58 #[.int .i64 2,.string NM,.bool false,.int .i64 (i:Int),.string (S y.pk.nm)]
       have hS1:Below w.heap.size w (u0.alloc (.cells #[.int .i64 2,.string NM,.bool false,.int .i64 (i:Int),.string (S y.pk.nm)] 58)) ∧ Blk.Is (u0.alloc (.cells #[.int .i64 2,.string NM,.bool false,.int .i64 (i:Int),.string (S y.pk.nm)] 58)) bx 45 #[.string (S y.pk.nm),.string (S y.pk.vs),.slice a1 n1 c1,.slice a2 n2 c2,.slice a3 n3 c3,.slice a4 n4 c4,.slice a5 n5 c5,.slice a6 n6 c6,.bool y.pk.ess,.bool y.cfg,.bool y.hld] ∧ Blk.Is (u0.alloc (.cells #[.int .i64 2,.string NM,.bool false,.int .i64 (i:Int),.string (S y.pk.nm)] 58)) ba 56 #[.string (S a.1),.int .i64 a.2.1,.string (S a.2.2)]:=⟨hS0.1.trans (hb1.mono hS0.1.size),hS0.2.1.alloc _,hS0.2.2.alloc _⟩
       have O1:=Lib.hid (Own.owns_below O0.out hb1)
       have HI1:=Lib.hid i1
       obtain ⟨b6,hb6⟩:∃ b6,u0.heap.size = b6:=⟨_,rfl⟩
       refine ⟨hS1,?_⟩
       obtain ⟨u1,hu1⟩:∃ u1,u0.alloc (.cells #[.int .i64 2,.string NM,.bool false,.int .i64 (i:Int),.string (S y.pk.nm)] 58) = u1:=⟨_,rfl⟩
       rw [hu1] at hS1 O1 HI1 ⊢
       rw [hb6] at HI1 ⊢
       clear hb1 i1 hu1 hb6
       refine wpAnyH_all (rs:=[14]) (by kernel_rfl) (by simp) ?_
       intro i0 hi0
       obtain rfl:=List.mem_singleton.1 hi0
       have hz:=hS1.1.size
       refine Reg.wpOp_list rfl ?_
       (refine Rl.append_el Tryz.underlying46 infoVi rfl (by decide) rfl (.tmp 44) (.tmp 57) rfl w.heap.size (.slice ra m rc) m XS rfl O1.out b6 1 rfl [.int .i64 2,.string NM,.bool false,.int .i64 (i:Int),.string (S y.pk.nm)] rfl (fun j u hj=>HI1.out.at (by rw [← Array.getElem?_toList]; exact hj)) (fun u hu=>by simp only [List.mem_cons,List.not_mem_nil,or_false] at hu; rcases hu with rfl | rfl | rfl | rfl | rfl <;> rfl) K70.out hz ?_; intro v' u2 h7 g7)
       go_wp2_with fail
       change _ ∧ _
       have c7:=Blk.Chg.grown (S:=fun q=>Value.ownBlock (.slice ra m rc) = some q) (Blk.Chg.refl _ u1) g7 (fun q hq _=>hq)
       have i7:=c7.is hS1.2.1 (not_row hS1.2.1 (by decide) O1.out)
       have i8:=c7.is hS1.2.2 (not_row hS1.2.2 (by decide) O1.out)
       have hS2:Below w.heap.size w u2 ∧ Blk.Is u2 bx 45 #[.string (S y.pk.nm),.string (S y.pk.vs),.slice a1 n1 c1,.slice a2 n2 c2,.slice a3 n3 c3,.slice a4 n4 c4,.slice a5 n5 c5,.slice a6 n6 c6,.bool y.pk.ess,.bool y.cfg,.bool y.hld] ∧ Blk.Is u2 ba 56 #[.string (S a.1),.int .i64 a.2.1,.string (S a.2.2)]:=⟨Own.below_grown hS1.1 O1.out g7 hz,i7,i8⟩
       refine ⟨hS2,?_⟩
       obtain ⟨a7,r7,rfl,_⟩:=Rl.own_shape h7
       have O7:=Lib.hid h7
       clear h7 g7 c7 i7 i8 hz O1 HI1
       refine wpAnyH_all (rs:=[15]) (by kernel_rfl) (by simp) ?_
       intro i hi
       obtain rfl:=List.mem_singleton.1 hi
       refine Reg.wpOp_list rfl ?_
       go_wp2_with fail
       change _ ∧ _
       refine ⟨hS2,?_⟩
       refine wpAnyH_done (by kernel_rfl) ?_ _
       have B7:=Lib.hid (⟨hS2.1,hS2.2.2⟩:Below w.heap.size w u2 ∧ Blk.Is u2 ba 56 #[.string (S a.1),.int .i64 a.2.1,.string (S a.2.2)])
       clear hS0 hS1 hS2
       go_wp2_with fail
       go_roundg g2
       case measure=>omega
       case rel=>exact ⟨j + 1,m + 1,a7,r7,_,rfl,by go_num,O7,HE2,B7,by omega,by omega⟩
    ·have hge:¬ (j:Int) < (n:Int):=by omega
     obtain rfl:j = n:=by omega
     have HE2:Hid (m = (claN s p ls 2 (i + 1)).length ∧ XS = vcells (claN s p ls 2 (i + 1))):=by
      rw [HSN.out,HN.out]; exact HE
     have B4:=Lib.hid HBI.out.1
     clear HE HBI
     go_wp2_with fail
     go_roundg g'
     case measure=>omega
     case rel=>exact ⟨i + 1,m,ra,rc,XS,rfl,by go_num,HO,HE2,B4,by omega,by omega⟩
  ·have hge:¬ (i:Int) < (c:Int):=by omega
   obtain rfl:i = c:=by omega
   have OF:Hid (wr.ownsRow w.heap.size 58 5 (.slice ra m rc) (claN s p ls 2 i).length (vcells (claN s p ls 2 i))):=by
    have h:=HO.out
    rw [HE.out.2] at h
    rw [← HE.out.1]
    exact h
   clear HE
   go_wp2_with fail
   go_ret
   exact ⟨_,rfl,OF.out,HB.out⟩
set_option maxRecDepth 100000 in
set_option maxHeartbeats 16000000 in
theorem clashes3_any (v1 v2:Value) (s:List En) (p:Nat) (ls:List At) (w:World) (h:Ens w v1 s) (hc:Ats w v2 ls) (hL:LimS s) (hC:LimA ls) (hv:Vars w) (hs:s.length ≤ 26) (hls:ls.length ≤ 50) (hp:p < s.length) :
  Calls Tryz.prog 59 #[v1,.int .i64 (p:Int),v2,.int .i64 3] w fun e w'=>∃ v',e = .returned v' ∧ w'.ownsRow w.heap.size 58 5 v' (cla s p ls 3).length (vcells (cla s p ls 3)) ∧ Below w.heap.size w w':=by
 obtain ⟨hs0,sa,scap,rfl,hscap,hcells0⟩:=id h
 obtain ⟨ca,ccap,ec⟩:=hc.shape
 obtain ⟨c,hcn⟩:∃ c,ls.length = c:=⟨_,rfl⟩
 rw [hcn] at ec hls
 have HC2:=Lib.hid hcn
 obtain ⟨kb,off,rfl,hat⟩:=hcells0 (by omega)
 obtain ⟨_,_,_,_,_,_,_,_,_,_,_,_,_,_,_,_,_,_,⟨px,_⟩,_⟩:=en_read (hat p hp)
 rw [Nat.mul_comm 11 p] at px
 have hU:cla s p ls 3 = claN s p ls 3 c:=by unfold cla; rw [hcn]
 rw [hU]
 obtain ⟨NM,hNM⟩:∃ NM,S (s.getD p nEn).pk.nm = NM:=⟨_,rfl⟩
 rw [hNM] at px
 have HPN:Hid (∀ (i:Int) (o:Bs),vcells [(3,(pkA s p).nm,false,i,o)] = [.int .i64 3,.string NM,.bool false,.int .i64 i,.string (S o)]):=Lib.hid fun i o=>by
  show vcell _ ++ [] = _
  unfold vcell pkA
  rw [hNM,List.append_nil]
 have PX:=Lib.hid px
 have H:=Lib.hid h
 have HC:=Lib.hid hc
 have HL:=Lib.hid hL
 have HLC:=Lib.hid hC
 have HV:=Lib.hid hv
 obtain ⟨n,hn⟩:∃ n,s.length = n:=⟨_,rfl⟩
 have HN:=Lib.hid hn
 rw [hn] at hs hp
 rw [hn]
 have hp0:(0:Int) ≤ p:=by omega
 have hpn:(p:Int) < (n:Int):=by omega
 subst ec
 clear hcn hU h hc hL hC hv hn hNM px hat hcells0 hs0 hscap
 go_enter Tryz.func59,Tryz.ntmps59
 go_wp2_with fail
 go_loopg [9,16] c (fun gf s9 s16 wx=>∃ (i m:Nat) (ra:Option Addr) (rc:Nat) (XS:List Value),s9 = .slice ra m rc ∧ s16 = .int .i64 i ∧ Hid (wx.ownsRow w.heap.size 58 5 (.slice ra m rc) m XS) ∧ Hid (m = (claN s p ls 3 i).length ∧ XS = vcells (claN s p ls 3 i)) ∧ Hid (Below w.heap.size w wx) ∧ i ≤ c ∧ c ≤ i + gf)
 case atStart=>exact ⟨0,0,none,0,[],rfl,rfl,Lib.hid (World.ownsRow_nil _ _ _ _),Lib.hid ⟨rfl,rfl⟩,Lib.hid (Below.refl _ _),by omega,by omega⟩
 case round =>
  obtain ⟨i,m,ra,rc,XS,rfl,rfl,HO,HE,HB,hic,hfu⟩:=hrel
  by_cases hlt:i < c
  ·obtain ⟨g',rfl⟩:∃ g',gk = g' + 1:=⟨gk - 1,by omega⟩
   have hlt':(i:Int) < (c:Int):=by omega
   have hi0:(0:Int) ≤ i:=by omega
   have hil:i < ls.length:=by rw [HC2.out]; exact hlt
   obtain ⟨_,a',cap',e1,_,hcells⟩:=HC.out.below HB.out
   rw [HC2.out] at e1
   simp only [Value.slice.injEq,true_and] at e1
   obtain ⟨rfl,rfl⟩:=e1
   obtain ⟨kc,offc,rfl,hat⟩:=hcells (by omega)
   obtain ⟨x0,x1,x2⟩:=hat i hil
   rw [Nat.mul_comm 3 i] at x0 x1 x2
   have hlim:=HLC.out _ (mem_getD (z:=nA) hil)
   have hsucc:=claN_succ s p ls 3 i
   obtain ⟨a,ha⟩:∃ a,ls.getD i nA = a:=⟨_,rfl⟩
   rw [ha] at x0 x1 x2 hlim hsucc
   have hb2:=(Below.refl wr.heap.size wr).alloc (Nat.le_refl _) (.cells #[.string (S a.1),.int .i64 a.2.1,.string (S a.2.2)] 56)
   have i2:=Blk.Is.new wr 56 #[.string (S a.1),.int .i64 a.2.1,.string (S a.2.2)]
   obtain ⟨ba,hba⟩:∃ ba,wr.heap.size = ba:=⟨_,rfl⟩
   obtain ⟨V0,hV0⟩:∃ V0,wr.alloc (.cells #[.string (S a.1),.int .i64 a.2.1,.string (S a.2.2)] 56) = V0:=⟨_,rfl⟩
   rw [hV0] at hb2 i2
   rw [hba] at i2
   have OV0:=Lib.hid (Own.owns_below HO.out hb2)
   have BV0:=Lib.hid (HB.out.trans (hb2.mono HB.out.size))
   have IA:=Lib.hid i2
   have HLA:=Lib.hid hlim
   have HSN:=Lib.hid hsucc
   have HE0:Hid (m = (claN s p ls 3 i ++ claJ s p 3 i a 0).length ∧ XS = vcells (claN s p ls 3 i ++ claJ s p 3 i a 0)):=by
    rw [show claJ s p 3 i a 0 = [] from rfl,List.append_nil]; exact HE
   have KM:Hid ((claN s p ls 3 i).length ≤ 1300):=Lib.hid (by
    have h1:=claN_len s p ls 3 i
    have h2:i * s.length ≤ 50 * 26:=Nat.mul_le_mul (by omega) (by rw [HN.out]; omega)
    omega)
   have hu:=hV0
   clear hcells hat hil hlim hsucc ha hb2 i2 hV0 HO HB HE
   go_wp2_with fail
   clear hu x0 x1 x2
   go_loopg [9,23] n (fun gf s9 s23 wx=>∃ (j m:Nat) (ra:Option Addr) (rc:Nat) (XS:List Value),s9 = .slice ra m rc ∧ s23 = .int .i64 j ∧ Hid (wx.ownsRow w.heap.size 58 5 (.slice ra m rc) m XS) ∧ Hid (m = (claN s p ls 3 i ++ claJ s p 3 i a j).length ∧ XS = vcells (claN s p ls 3 i ++ claJ s p 3 i a j)) ∧ Hid (Below w.heap.size w wx ∧ Blk.Is wx ba 56 #[.string (S a.1),.int .i64 a.2.1,.string (S a.2.2)]) ∧ j ≤ n ∧ n ≤ j + gf)
   case atStart=>exact ⟨0,m,ra,rc,XS,rfl,rfl,OV0,HE0,Lib.hid ⟨BV0.out,IA.out⟩,by omega,by omega⟩
   case round =>
    clear OV0 HE0 BV0 IA
    obtain ⟨j,m,ra,rc,XS,rfl,rfl,HO,HE,HBI,hjn,hfu2⟩:=hrel
    by_cases hjl:j < n
    ·obtain ⟨g2,rfl⟩:∃ g2,gk = g2 + 1:=⟨gk - 1,by omega⟩
     have hjl':(j:Int) < (n:Int):=by omega
     have hj0:(0:Int) ≤ j:=by omega
     have hjs:j < s.length:=by rw [HN.out]; exact hjl
     obtain ⟨_,a',cap',e1,_,hcells⟩:=H.out.below HBI.out.1
     rw [HN.out] at e1
     simp only [Value.slice.injEq,true_and] at e1
     obtain ⟨rfl,rfl⟩:=e1
     obtain ⟨kb',off',e1,hat⟩:=hcells (by omega)
     simp only [Option.some.injEq,Addr.mk.injEq,and_true] at e1
     obtain ⟨rfl,rfl⟩:=e1
     obtain ⟨a1,n1,c1,a2,n2,c2,a3,n3,c3,a4,n4,c4,a5,n5,c5,a6,n6,c6,⟨x0,x1,x2,x3,x4,x5,x6,x7,x8,x9,x10⟩,hh⟩:=en_read (hat j hjs)
     rw [Nat.mul_comm 11 j] at x0 x1 x2 x3 x4 x5 x6 x7 x8 x9 x10
     have hlim:=HL.out _ (mem_getD (z:=nEn) hjs)
     have hsucc:=claJ_succ s p 3 i a j
     have hhit:hit s p 3 a j = (!(decide (j = p) || (decide ((3:Int) = 3) && !(s.getD j nEn).cfg)) && sat (s.getD j nEn).pk a):=rfl
     have hone:cla1 s p 3 i a j = if hit s p 3 a j = true then [(3,(pkA s p).nm,false,(i:Int),(s.getD j nEn).pk.nm)] else []:=rfl
     rw [hone] at hsucc
     obtain ⟨y,hy⟩:∃ y,s.getD j nEn = y:=⟨_,rfl⟩
     rw [hy] at x0 x1 x8 x9 x10 hlim hh hsucc hhit
     have hb2:=(Below.refl wr.heap.size wr).alloc (Nat.le_refl _) (.cells #[.string (S y.pk.nm),.string (S y.pk.vs),.slice a1 n1 c1,.slice a2 n2 c2,.slice a3 n3 c3,.slice a4 n4 c4,.slice a5 n5 c5,.slice a6 n6 c6,.bool y.pk.ess,.bool y.cfg,.bool y.hld] 45)
     have i2:=Blk.Is.new wr 45 #[.string (S y.pk.nm),.string (S y.pk.vs),.slice a1 n1 c1,.slice a2 n2 c2,.slice a3 n3 c3,.slice a4 n4 c4,.slice a5 n5 c5,.slice a6 n6 c6,.bool y.pk.ess,.bool y.cfg,.bool y.hld]
     obtain ⟨bx,hbx⟩:∃ bx,wr.heap.size = bx:=⟨_,rfl⟩
     obtain ⟨V,hV⟩:∃ V,wr.alloc (.cells #[.string (S y.pk.nm),.string (S y.pk.vs),.slice a1 n1 c1,.slice a2 n2 c2,.slice a3 n3 c3,.slice a4 n4 c4,.slice a5 n5 c5,.slice a6 n6 c6,.bool y.pk.ess,.bool y.cfg,.bool y.hld] 45) = V:=⟨_,rfl⟩
     rw [hV] at hb2 i2
     rw [hbx] at i2
     have hbV:=HBI.out.1.trans (hb2.mono HBI.out.1.size)
     have iaV:=Rl.is_on HBI.out.2 hb2
     have OV:=Lib.hid (Own.owns_below HO.out hb2)
     have BV:=Lib.hid hbV
     have d0:=iaV.at (i:=0) rfl
     have d1:=iaV.at (i:=1) rfl
     have d2:=iaV.at (i:=2) rfl
     have z0:=i2.at (i:=0) rfl
     have z1:=i2.at (i:=1) rfl
     have z2:=i2.at (i:=2) rfl
     have z3:=i2.at (i:=3) rfl
     have z4:=i2.at (i:=4) rfl
     have z5:=i2.at (i:=5) rfl
     have z6:=i2.at (i:=6) rfl
     have z7:=i2.at (i:=7) rfl
     have z8:=i2.at (i:=8) rfl
     have z9:=i2.at (i:=9) rfl
     have cs:=satisfies_any (.agg #[.string (S y.pk.nm),.string (S y.pk.vs),.slice a1 n1 c1,.slice a2 n2 c2,.slice a3 n3 c3,.slice a4 n4 c4,.slice a5 n5 c5,.slice a6 n6 c6,.bool y.pk.ess]) y.pk a V ⟨_,_,_,_,_,_,rfl,hh.below hb2⟩ hlim HLA.out (HV.out.on hbV)
     unfold aV at cs
     have IV:=Lib.hid i2
     have IAV:=Lib.hid iaV
     have HS:Hid (claN s p ls 3 i ++ claJ s p 3 i a (j + 1) = (claN s p ls 3 i ++ claJ s p 3 i a j) ++ (if hit s p 3 a j = true then [(3,(pkA s p).nm,false,(i:Int),y.pk.nm)] else [])):=by
      rw [hsucc,List.append_assoc]; exact rfl
     have HHIT:=Lib.hid hhit
     have K70:Hid (m + 1 ≤ 70000):=Lib.hid (by
      have h1:=HE.out.1
      have h2:=KM.out
      have h3:=claJ_len s p 3 i a j
      rw [List.length_append] at h1
      omega)
     have hu:=hV
     clear hcells hat hjs hlim hsucc hhit hone hy hb2 i2 hbV iaV hV hh HO HBI
     by_cases hjp:j = p
     ·have hj1:((j:Int) == (p:Int)) = true:=by simp [hjp]
      have HJ:Hid (decide (j = p) = true):=decide_eq_true hjp
      clear hjp
      have HE2:Hid (m = (claN s p ls 3 i ++ claJ s p 3 i a (j + 1)).length ∧ XS = vcells (claN s p ls 3 i ++ claJ s p 3 i a (j + 1))):=by
       rw [HS.out,HHIT.out]
       simp only [HJ.out,Bool.true_or,Bool.not_true,Bool.false_and,Bool.false_eq_true,if_false,List.append_nil]
       exact HE
      have O4:=OV
      have B4:=Lib.hid (⟨BV.out,IAV.out⟩:Below w.heap.size w V ∧ Blk.Is V ba 56 #[.string (S a.1),.int .i64 a.2.1,.string (S a.2.2)])
      clear HE HS HHIT cs IV
      go_wp2_with fail
      go_roundg g2
      case measure=>omega
      case rel=>exact ⟨j + 1,m,ra,rc,XS,rfl,by go_num,O4,HE2,B4,by omega,by omega⟩
     ·have hj1:((j:Int) == (p:Int)) = false:=by
       rw [beq_eq_false_iff_ne]; omega
      have HJ:Hid (decide (j = p) = false):=decide_eq_false hjp
      clear hjp
      cases hcf:y.cfg with
      | false =>
       rw [hcf] at x9 z9 hu IV HHIT
       have HE2:Hid (m = (claN s p ls 3 i ++ claJ s p 3 i a (j + 1)).length ∧ XS = vcells (claN s p ls 3 i ++ claJ s p 3 i a (j + 1))):=by
        rw [HS.out,HHIT.out]
        simp only [HJ.out,hcf,decide_false,decide_true,Bool.true_and,Bool.not_false,Bool.or_true,Bool.not_true,Bool.false_and,Bool.false_eq_true,if_false,List.append_nil]
        exact HE
       have O4:=OV
       have B4:=Lib.hid (⟨BV.out,IAV.out⟩:Below w.heap.size w V ∧ Blk.Is V ba 56 #[.string (S a.1),.int .i64 a.2.1,.string (S a.2.2)])
       clear HE HS HHIT cs IV
       go_wp2_with fail
       go_roundg g2
       case measure=>omega
       case rel=>exact ⟨j + 1,m,ra,rc,XS,rfl,by go_num,O4,HE2,B4,by omega,by omega⟩
      | true =>
       rw [hcf] at x9 z9 hu IV HHIT
       cases hs:sat y.pk a with
       | false =>
        rw [hs] at cs
        have HE2:Hid (m = (claN s p ls 3 i ++ claJ s p 3 i a (j + 1)).length ∧ XS = vcells (claN s p ls 3 i ++ claJ s p 3 i a (j + 1))):=by
         rw [HS.out,HHIT.out,hs]
         simp only [Bool.and_false,Bool.false_eq_true,if_false,List.append_nil]
         exact HE
        clear HE HS HHIT hs
        go_wp2_with fail
        refine cs.mono ?_
        rintro e w5 ⟨rfl,k5⟩
        have O4:=Lib.hid (Own.owns_below OV.out k5)
        have B4:=Lib.hid (⟨BV.out.trans (k5.mono BV.out.size),Rl.is_on IAV.out k5⟩:Below w.heap.size w w5 ∧ Blk.Is w5 ba 56 #[.string (S a.1),.int .i64 a.2.1,.string (S a.2.2)])
        clear cs k5 OV BV IV
        go_wp2_with fail
        go_roundg g2
        case measure=>omega
        case rel=>exact ⟨j + 1,m,ra,rc,XS,rfl,by go_num,O4,HE2,B4,by omega,by omega⟩
       | true =>
        rw [hs] at cs
        have HE2:Hid (m + 1 = (claN s p ls 3 i ++ claJ s p 3 i a (j + 1)).length ∧ XS ++ [.int .i64 3,.string NM,.bool false,.int .i64 (i:Int),.string (S y.pk.nm)] = vcells (claN s p ls 3 i ++ claJ s p 3 i a (j + 1))):=by
         rw [HS.out,HHIT.out,hs]
         simp only [HJ.out,hcf,decide_false,decide_true,Bool.true_and,Bool.not_true,Bool.not_false,Bool.or_false,Bool.and_self,if_true]
         rw [List.length_append,vcells_app,← HE.out.1,← HE.out.2,HPN.out]
         exact ⟨rfl,rfl⟩
        clear HE HS HHIT hs
        go_wp2_with fail
        refine cs.mono ?_
        rintro e w5 ⟨rfl,k5⟩
        have O5:=Lib.hid (Own.owns_below OV.out k5)
        have B5:=Lib.hid (BV.out.trans (k5.mono BV.out.size))
        have I5:=Lib.hid (Rl.is_on IV.out k5)
        have A5:=Lib.hid (Rl.is_on IAV.out k5)
        have CX:Hid (∀ u,(Below w.heap.size w u ∧ Blk.Is u bx 45 #[.string (S y.pk.nm),.string (S y.pk.vs),.slice a1 n1 c1,.slice a2 n2 c2,.slice a3 n3 c3,.slice a4 n4 c4,.slice a5 n5 c5,.slice a6 n6 c6,.bool y.pk.ess,.bool true,.bool y.hld] ∧ Blk.Is u ba 56 #[.string (S a.1),.int .i64 a.2.1,.string (S a.2.2)]) → u.cell? ⟨kb,off + p * 11,none⟩ = some (.string NM)):=Lib.hid fun u hu=>Rl.cell_on PX.out hu.1
        have CY:Hid (∀ u,(Below w.heap.size w u ∧ Blk.Is u bx 45 #[.string (S y.pk.nm),.string (S y.pk.vs),.slice a1 n1 c1,.slice a2 n2 c2,.slice a3 n3 c3,.slice a4 n4 c4,.slice a5 n5 c5,.slice a6 n6 c6,.bool y.pk.ess,.bool true,.bool y.hld] ∧ Blk.Is u ba 56 #[.string (S a.1),.int .i64 a.2.1,.string (S a.2.2)]) → u.cell? ⟨bx,0,none⟩ = some (.string (S y.pk.nm))):=Lib.hid fun u hu=>hu.2.1.at (i:=0) rfl
        clear cs k5 OV BV IV
        go_upto_region 10 with fail
        refine wp_region_held (S:=fun u=>Below w.heap.size w u ∧ Blk.Is u bx 45 #[.string (S y.pk.nm),.string (S y.pk.vs),.slice a1 n1 c1,.slice a2 n2 c2,.slice a3 n3 c3,.slice a4 n4 c4,.slice a5 n5 c5,.slice a6 n6 c6,.bool y.pk.ess,.bool true,.bool y.hld] ∧ Blk.Is u ba 56 #[.string (S a.1),.int .i64 a.2.1,.string (S a.2.2)]) (by kernel_rfl) ?_
        have hS0:Below w.heap.size w w5.drew ∧ Blk.Is w5.drew bx 45 #[.string (S y.pk.nm),.string (S y.pk.vs),.slice a1 n1 c1,.slice a2 n2 c2,.slice a3 n3 c3,.slice a4 n4 c4,.slice a5 n5 c5,.slice a6 n6 c6,.bool y.pk.ess,.bool true,.bool y.hld] ∧ Blk.Is w5.drew ba 56 #[.string (S a.1),.int .i64 a.2.1,.string (S a.2.2)]:=⟨B5.out.drew,I5.out.drew,A5.out.drew⟩
        have O0:=Lib.hid (Own.owns_below O5.out (Below.refl w5.heap.size w5).drew)
        change wpAnyH _ _ _ _ _ 16 _ _ w5.drew
        generalize w5.drew = u0 at *
        refine wpAnyH_take (i:=0) (v:=.slice ra m rc) rfl (by kernel_rfl) (by kernel_rfl) (by kernel_rfl) (fun _ _ _ h=>h) (.inl ⟨rfl,fun w _=>rfl⟩) hS0 ?_
        simp only [Act.put,List.getElem_toArray,List.getElem_cons_zero,List.getElem_cons_succ,List.setIfInBounds_toArray,List.set_cons_zero,List.set_cons_succ]
        refine wpAnyH_take (i:=1) (v:=.int .i64 3) rfl (by kernel_rfl) (by kernel_rfl) (by kernel_rfl) (fun _ _ _ h=>h) (.inl ⟨rfl,fun w _=>rfl⟩) hS0 ?_
        simp only [Act.put,List.getElem_toArray,List.getElem_cons_zero,List.getElem_cons_succ,List.setIfInBounds_toArray,List.set_cons_zero,List.set_cons_succ]
        refine wpAnyH_take (i:=2) (v:=.slice (some ⟨kb,off,none⟩) n scap) rfl (by kernel_rfl) (by kernel_rfl) (by kernel_rfl) (fun _ _ _ h=>h) (.inl ⟨rfl,fun w _=>rfl⟩) hS0 ?_
        simp only [Act.put,List.getElem_toArray,List.getElem_cons_zero,List.getElem_cons_succ,List.setIfInBounds_toArray,List.set_cons_zero,List.set_cons_succ]
        refine wpAnyH_take (i:=3) (v:=.int .i64 (p:Int)) rfl (by kernel_rfl) (by kernel_rfl) (by kernel_rfl) (fun _ _ _ h=>h) (.inl ⟨rfl,fun w _=>rfl⟩) hS0 ?_
        simp only [Act.put,List.getElem_toArray,List.getElem_cons_zero,List.getElem_cons_succ,List.setIfInBounds_toArray,List.set_cons_zero,List.set_cons_succ]
        refine wpAnyH_take (i:=4) (v:=.pointer (some ⟨kb,off + p * 11,none⟩)) rfl (by kernel_rfl) (by kernel_rfl) (by kernel_rfl) (fun _ _ _ h=>h) (.inl ⟨rfl,fun w _=>by simp [execOp,go_sem,Addr.add,hp0,hpn] <;> first | omega | (intro h; omega) | (intro h; simp [h])⟩) hS0 ?_
        simp only [Act.put,List.getElem_toArray,List.getElem_cons_zero,List.getElem_cons_succ,List.setIfInBounds_toArray,List.set_cons_zero,List.set_cons_succ]
        refine wpAnyH_take (i:=5) (v:=.pointer (some ⟨kb,off + p * 11,none⟩)) rfl (by kernel_rfl) (by kernel_rfl) (by kernel_rfl) (fun _ _ _ h=>h) (.inl ⟨rfl,fun w _=>rfl⟩) hS0 ?_
        simp only [Act.put,List.getElem_toArray,List.getElem_cons_zero,List.getElem_cons_succ,List.setIfInBounds_toArray,List.set_cons_zero,List.set_cons_succ]
        refine wpAnyH_take (i:=6) (v:=.pointer (some ⟨kb,off + p * 11,none⟩)) rfl (by kernel_rfl) (by kernel_rfl) (by kernel_rfl) (fun _ _ _ h=>h) (.inl ⟨rfl,fun w _=>rfl⟩) hS0 ?_
        simp only [Act.put,List.getElem_toArray,List.getElem_cons_zero,List.getElem_cons_succ,List.setIfInBounds_toArray,List.set_cons_zero,List.set_cons_succ]
        refine wpAnyH_take (i:=7) (v:=.string NM) rfl (by kernel_rfl) (by kernel_rfl) (by kernel_rfl) (fun _ _ _ h=>h) (Held.load1 rfl 9 (.tmp 50) rfl kb (off + p * 11) rfl _ _ CX.out Tryz.underlying9 rfl) hS0 ?_
        simp only [Act.put,List.getElem_toArray,List.getElem_cons_zero,List.getElem_cons_succ,List.setIfInBounds_toArray,List.set_cons_zero,List.set_cons_succ]
        refine wpAnyH_take (i:=8) (v:=.int .i64 (i:Int)) rfl (by kernel_rfl) (by kernel_rfl) (by kernel_rfl) (fun _ _ _ h=>h) (.inl ⟨rfl,fun w _=>rfl⟩) hS0 ?_
        simp only [Act.put,List.getElem_toArray,List.getElem_cons_zero,List.getElem_cons_succ,List.setIfInBounds_toArray,List.set_cons_zero,List.set_cons_succ]
        refine wpAnyH_take (i:=9) (v:=.pointer (some ⟨bx,0,none⟩)) rfl (by kernel_rfl) (by kernel_rfl) (by kernel_rfl) (fun _ _ _ h=>h) (.inl ⟨rfl,fun w _=>rfl⟩) hS0 ?_
        simp only [Act.put,List.getElem_toArray,List.getElem_cons_zero,List.getElem_cons_succ,List.setIfInBounds_toArray,List.set_cons_zero,List.set_cons_succ]
        refine wpAnyH_take (i:=10) (v:=.pointer (some ⟨bx,0,none⟩)) rfl (by kernel_rfl) (by kernel_rfl) (by kernel_rfl) (fun _ _ _ h=>h) (.inl ⟨rfl,fun w _=>rfl⟩) hS0 ?_
        simp only [Act.put,List.getElem_toArray,List.getElem_cons_zero,List.getElem_cons_succ,List.setIfInBounds_toArray,List.set_cons_zero,List.set_cons_succ]
        refine wpAnyH_take (i:=11) (v:=.string (S y.pk.nm)) rfl (by kernel_rfl) (by kernel_rfl) (by kernel_rfl) (fun _ _ _ h=>h) (Held.load1 rfl 9 (.tmp 54) rfl bx 0 rfl _ _ CY.out Tryz.underlying9 rfl) hS0 ?_
        simp only [Act.put,List.getElem_toArray,List.getElem_cons_zero,List.getElem_cons_succ,List.setIfInBounds_toArray,List.set_cons_zero,List.set_cons_succ]
        refine wpAnyH_take (i:=12) (v:=.agg #[.int .i64 3,.string NM,.bool false,.int .i64 (i:Int),.string (S y.pk.nm)]) rfl (by kernel_rfl) (by kernel_rfl) (by kernel_rfl) (fun _ _ _ h=>h) (.inl ⟨rfl,fun w _=>by kernel_rfl⟩) hS0 ?_
        simp only [Act.put,List.getElem_toArray,List.getElem_cons_zero,List.getElem_cons_succ,List.setIfInBounds_toArray,List.set_cons_zero,List.set_cons_succ]
        refine wpAnyH_all (rs:=[13]) (by kernel_rfl) (by simp) ?_
        intro i hi
        obtain rfl:=List.mem_singleton.1 hi
        refine Reg.wpOp_list rfl ?_
        go_wp2_with fail
        change _ ∧ _
        have hb1:=(Below.refl u0.heap.size u0).alloc (Nat.le_refl _) (.cells #[.int .i64 3,.string NM,.bool false,.int .i64 (i:Int),.string (S y.pk.nm)] 58)
        have i1:=Blk.Is.new u0 58 #[.int .i64 3,.string NM,.bool false,.int .i64 (i:Int),.string (S y.pk.nm)]
        have hS1:Below w.heap.size w (u0.alloc (.cells #[.int .i64 3,.string NM,.bool false,.int .i64 (i:Int),.string (S y.pk.nm)] 58)) ∧ Blk.Is (u0.alloc (.cells #[.int .i64 3,.string NM,.bool false,.int .i64 (i:Int),.string (S y.pk.nm)] 58)) bx 45 #[.string (S y.pk.nm),.string (S y.pk.vs),.slice a1 n1 c1,.slice a2 n2 c2,.slice a3 n3 c3,.slice a4 n4 c4,.slice a5 n5 c5,.slice a6 n6 c6,.bool y.pk.ess,.bool true,.bool y.hld] ∧ Blk.Is (u0.alloc (.cells #[.int .i64 3,.string NM,.bool false,.int .i64 (i:Int),.string (S y.pk.nm)] 58)) ba 56 #[.string (S a.1),.int .i64 a.2.1,.string (S a.2.2)]:=⟨hS0.1.trans (hb1.mono hS0.1.size),hS0.2.1.alloc _,hS0.2.2.alloc _⟩
        have O1:=Lib.hid (Own.owns_below O0.out hb1)
        have HI1:=Lib.hid i1
        obtain ⟨b6,hb6⟩:∃ b6,u0.heap.size = b6:=⟨_,rfl⟩
        refine ⟨hS1,?_⟩
        obtain ⟨u1,hu1⟩:∃ u1,u0.alloc (.cells #[.int .i64 3,.string NM,.bool false,.int .i64 (i:Int),.string (S y.pk.nm)] 58) = u1:=⟨_,rfl⟩
        rw [hu1] at hS1 O1 HI1 ⊢
        rw [hb6] at HI1 ⊢
        clear hb1 i1 hu1 hb6
        refine wpAnyH_all (rs:=[14]) (by kernel_rfl) (by simp) ?_
        intro i0 hi0
        obtain rfl:=List.mem_singleton.1 hi0
        have hz:=hS1.1.size
        refine Reg.wpOp_list rfl ?_
        (refine Rl.append_el Tryz.underlying46 infoVi rfl (by decide) rfl (.tmp 44) (.tmp 57) rfl w.heap.size (.slice ra m rc) m XS rfl O1.out b6 1 rfl [.int .i64 3,.string NM,.bool false,.int .i64 (i:Int),.string (S y.pk.nm)] rfl (fun j u hj=>HI1.out.at (by rw [← Array.getElem?_toList]; exact hj)) (fun u hu=>by simp only [List.mem_cons,List.not_mem_nil,or_false] at hu; rcases hu with rfl | rfl | rfl | rfl | rfl <;> rfl) K70.out hz ?_; intro v' u2 h7 g7)
        go_wp2_with fail
        change _ ∧ _
        have c7:=Blk.Chg.grown (S:=fun q=>Value.ownBlock (.slice ra m rc) = some q) (Blk.Chg.refl _ u1) g7 (fun q hq _=>hq)
        have i7:=c7.is hS1.2.1 (not_row hS1.2.1 (by decide) O1.out)
        have i8:=c7.is hS1.2.2 (not_row hS1.2.2 (by decide) O1.out)
        have hS2:Below w.heap.size w u2 ∧ Blk.Is u2 bx 45 #[.string (S y.pk.nm),.string (S y.pk.vs),.slice a1 n1 c1,.slice a2 n2 c2,.slice a3 n3 c3,.slice a4 n4 c4,.slice a5 n5 c5,.slice a6 n6 c6,.bool y.pk.ess,.bool true,.bool y.hld] ∧ Blk.Is u2 ba 56 #[.string (S a.1),.int .i64 a.2.1,.string (S a.2.2)]:=⟨Own.below_grown hS1.1 O1.out g7 hz,i7,i8⟩
        refine ⟨hS2,?_⟩
        obtain ⟨a7,r7,rfl,_⟩:=Rl.own_shape h7
        have O7:=Lib.hid h7
        clear h7 g7 c7 i7 i8 hz O1 HI1
        refine wpAnyH_all (rs:=[15]) (by kernel_rfl) (by simp) ?_
        intro i hi
        obtain rfl:=List.mem_singleton.1 hi
        refine Reg.wpOp_list rfl ?_
        go_wp2_with fail
        change _ ∧ _
        refine ⟨hS2,?_⟩
        refine wpAnyH_done (by kernel_rfl) ?_ _
        have B7:=Lib.hid (⟨hS2.1,hS2.2.2⟩:Below w.heap.size w u2 ∧ Blk.Is u2 ba 56 #[.string (S a.1),.int .i64 a.2.1,.string (S a.2.2)])
        clear hS0 hS1 hS2
        go_wp2_with fail
        go_roundg g2
        case measure=>omega
        case rel=>exact ⟨j + 1,m + 1,a7,r7,_,rfl,by go_num,O7,HE2,B7,by omega,by omega⟩
    ·have hge:¬ (j:Int) < (n:Int):=by omega
     obtain rfl:j = n:=by omega
     have HE2:Hid (m = (claN s p ls 3 (i + 1)).length ∧ XS = vcells (claN s p ls 3 (i + 1))):=by
      rw [HSN.out,HN.out]; exact HE
     have B4:=Lib.hid HBI.out.1
     clear HE HBI
     go_wp2_with fail
     go_roundg g'
     case measure=>omega
     case rel=>exact ⟨i + 1,m,ra,rc,XS,rfl,by go_num,HO,HE2,B4,by omega,by omega⟩
  ·have hge:¬ (i:Int) < (c:Int):=by omega
   obtain rfl:i = c:=by omega
   have OF:Hid (wr.ownsRow w.heap.size 58 5 (.slice ra m rc) (claN s p ls 3 i).length (vcells (claN s p ls 3 i))):=by
    have h:=HO.out
    rw [HE.out.2] at h
    rw [← HE.out.1]
    exact h
   clear HE
   go_wp2_with fail
   go_ret
   exact ⟨_,rfl,OF.out,HB.out⟩
end Sa
end Go.Proofs.YtgpcilepkmckeaaGreatDoor

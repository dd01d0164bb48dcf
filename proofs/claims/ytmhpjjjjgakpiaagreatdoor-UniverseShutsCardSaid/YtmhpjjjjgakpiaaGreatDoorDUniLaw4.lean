/-
The law UniverseShuts.
-/
import Derived.Test.YtmhpjjjjgakpiaaGreatDoorDUniAwake
import Derived.Test.YtmhpjjjjgakpiaaGreatDoorDUniLight
import Derived.Test.YtmhpjjjjgakpiaaGreatDoorDRelTabs
import Derived.Test.YtmhpjjjjgakpiaaGreatDoorDStaTabs
namespace Go.Proofs.YtmhpjjjjgakpiaaGreatDoor
open Go.RowKit
set_option linter.unusedSimpArgs false
set_option linter.unusedVariables false
namespace Un
open Ver (Bs S S_size)
open Rl (Clss At Vars mem_getD)
open Rc (Has PkV PkC Pk nPk En nEn Pks Ens mayAll)
open Ix (Sorts LimS insAll)
theorem pk_one {w:World} {b:Nat} {p:Pk} {cs:List Value} (h:PkC w cs p) (hb:Blk.Is w b 40 cs.toArray):Pks w (.slice (some ⟨b,0,none⟩) 1 1) [p] :=
 ⟨by simp,some ⟨b,0,none⟩,1,rfl,Nat.le_refl _,fun _=>⟨b,0,rfl,fun i hi=>by
  have hi0:i = 0:=by simpa using hi
  subst hi0
  exact ⟨cs,h,fun j u hj=>by rw [Nat.mul_zero,Nat.zero_add]; exact hb.at (by rw [← Array.getElem?_toList]; exact hj)⟩⟩⟩
theorem of_y (v1 v2 v3:Value) (r:List Pk) (s:List En) (ns:List Bs) (w:World) (h1:Pks w v1 r) (h2:Ens w v2 s) (h3:Txt.Texts w v3 (ns.map S)) (hL1:∀ x ∈ r,x.Lim) (hL2:∀ x ∈ s,x.pk.Lim) (hL3:∀ n ∈ ns,LimS n) (hv:Vars w) :
  Calls Tryz.prog 13 #[v1,v2,v3] w fun e w'=>∃ a n c,e = .returned (.tuple #[.slice a n c,.int .i64 (allE r s)]) ∧ (allE r s = 0 → Ix.MayL (joinL r s) ∧ ∃ WF,Reaches (insAll (joinL r s) []) (s.map (fun x=>x.pk.nm) ++ ns) WF ∧ Pks w' (.slice a n c) (inW WF (insAll (joinL r s) []))) ∧ Below w.heap.size w w':=by
 refine (of_reach v1 v2 v3 r s ns w h1 h2 h3 hL1 hL2 hL3 hv).mono ?_
 rintro e w' ⟨hc,k⟩
 rcases hc with ⟨hE,rfl⟩ | ⟨hE,xs,WF,va,rfl,hg,hW,hp⟩
 ·exact ⟨_,_,_,rfl,fun h=>absurd h hE,k⟩
 ·have hxs:xs = insAll (joinL r s) []:=Ix.sorts_one hg.may (List.Perm.refl _) hg.so (Ix.sorts_ins fun p hp=>(hg.may.each p hp).ver)
  subst hxs
  obtain ⟨a,c,rfl⟩:=hp.shape
  exact ⟨_,_,_,by rw [hE],fun _=>⟨hg.may,WF,hW,hp⟩,k⟩
theorem all_y (v1 v2:Value) (r:List Pk) (s:List En) (w:World) (h1:Pks w v1 r) (h2:Ens w v2 s) (hL1:∀ x ∈ r,x.Lim) (hL2:∀ x ∈ s,x.pk.Lim) (hv:Vars w) :
  Calls Tryz.prog 10 #[v1,v2] w fun e w'=>∃ a n c,e = .returned (.tuple #[.slice a n c,.int .i64 (allE r s)]) ∧ (allE r s = 0 → Pks w' (.slice a n c) (insAll (joinL r s) [])) ∧ Below w.heap.size w w':=by
 refine (all_any v1 v2 r s w h1 h2 hL1 hL2 hv).mono ?_
 rintro e w' ⟨hc,k⟩
 rcases hc with ⟨hE,rfl⟩ | ⟨hE,xs,va,rfl,hg,hp⟩
 ·exact ⟨_,_,_,rfl,fun h=>absurd h hE,k⟩
 ·have hxs:xs = insAll (joinL r s) []:=Ix.sorts_one hg.may (List.Perm.refl _) hg.so (Ix.sorts_ins fun p hp=>(hg.may.each p hp).ver)
  subst hxs
  obtain ⟨a,c,rfl⟩:=hp.shape
  exact ⟨_,_,_,by rw [hE],fun _=>hp,k⟩
set_option maxRecDepth 100000 in
set_option maxHeartbeats 32000000 in
theorem shuts_walk (v0 v1:Value) (v2 v3:Value) (ns:List Bs) (hs:List Bool) (r:List Pk) (s:List En) (w:World) (h0:Pks w v0 r) (h1:Ens w v1 s) (h2:Txt.Texts w v2 (ns.map S)) (h3:Sa.Bls w v3 hs) (hL2:∀ n ∈ ns,LimS n) (hL0:∀ x ∈ r,x.Lim) (hL1:∀ x ∈ s,x.pk.Lim) (hbig:s.length * 184 ≤ 140737488355328) (hv:Vars w) :
  Calls Tryz.prog 6 #[v0,v1,v2,v3] w fun e w'=>e = .returned (.bool true) ∧ Below w.heap.size w w':=by
 have cl:=light_any v0 r w h0
 obtain ⟨sa0,cap0,rfl⟩:=h0.shape
 obtain ⟨sa1,cap1,rfl⟩:=h1.shape
 have H0:=Lib.hid h0
 have H1:=Lib.hid h1
 have HL0:=Lib.hid hL0
 have HL1:=Lib.hid hL1
 have HBIG:=Lib.hid hbig
 have HV:=Lib.hid hv
 obtain ⟨hx2,a2,c2,rfl,hc2,_⟩:=id h2
 have H2:=Lib.hid h2
 have HL2:=Lib.hid hL2
 obtain ⟨pn,hpn⟩:∃ pn,ns.length = pn:=⟨_,rfl⟩
 have HPN:=Lib.hid hpn
 rw [List.length_map,hpn] at hc2 hx2 H2 ⊢
 obtain ⟨a3,c3,rfl⟩:=h3.shape
 have H3:=Lib.hid h3
 obtain ⟨hn,hhn⟩:∃ hn,hs.length = hn:=⟨_,rfl⟩
 have HHN:=Lib.hid hhn
 rw [hhn] at H3 ⊢
 clear h2 hL2 h3 hpn hhn
 obtain ⟨n,hn⟩:∃ n,r.length = n:=⟨_,rfl⟩
 obtain ⟨m,hm⟩:∃ m,s.length = m:=⟨_,rfl⟩
 have HN:=Lib.hid hn
 have HMN:=Lib.hid hm
 rw [hn] at cl H0 ⊢
 rw [hm] at H1 ⊢
 obtain ⟨b1,hb1⟩:∃ b1,lightB r = b1:=⟨_,rfl⟩
 rw [hb1] at cl
 have HB1:=Lib.hid hb1
 clear hn hm h0 h1 hL0 hL1 hbig hv hb1
 go_enter Tryz.func6,Tryz.ntmps6
 go_wp2_with fail
 refine cl.mono ?_
 rintro e w1 ⟨rfl,k1⟩
 have K1:=Lib.hid k1
 clear cl k1
 cases b1 with
 | false =>
  have ca:=awake_any w1 (HV.out.on K1.out)
  go_wp2_with fail
  refine ca.mono ?_
  rintro e w9 ⟨rfl,k9⟩
  have hb:=K1.out.trans (k9.mono K1.out.size)
  clear ca
  go_wp2_with fail
  go_ret
  exact ⟨rfl,hb⟩
 | true =>
  have cb:=bare_any _ s w1 (H1.out.below K1.out) HBIG.out
  go_wp2_with fail
  refine cb.mono ?_
  rintro e w2 ⟨v2,rfl,hp2,k2⟩
  have cl2:=light_any _ _ w2 hp2
  have K2:=Lib.hid (K1.out.trans (k2.mono K1.out.size))
  obtain ⟨b2,hb2⟩:∃ b2,lightB (s.map En.pk) = b2:=⟨_,rfl⟩
  rw [hb2] at cl2
  have HB2:=Lib.hid hb2
  clear cb hp2 k2 hb2
  go_wp2_with fail
  refine cl2.mono ?_
  rintro e w3 ⟨rfl,k3⟩
  have K3:=Lib.hid (K2.out.trans (k3.mono K2.out.size))
  clear cl2 k3
  cases b2 with
  | false =>
   have ca:=awake_any w3 (HV.out.on K3.out)
   go_wp2_with fail
   refine ca.mono ?_
   rintro e w9 ⟨rfl,k9⟩
   have hb:=K3.out.trans (k9.mono K3.out.size)
   clear ca
   go_wp2_with fail
   go_ret
   exact ⟨rfl,hb⟩
  | true =>
   by_cases hbig:20 < pn
   ·have hbig':(20:Int) < (pn:Int):=by omega
    have ca:=awake_any w3 (HV.out.on K3.out)
    go_wp2_with fail
    refine ca.mono ?_
    rintro e w9 ⟨rfl,k9⟩
    have hb:=K3.out.trans (k9.mono K3.out.size)
    clear ca
    go_wp2_with fail
    go_ret
    exact ⟨rfl,hb⟩
   ·have hbig':¬ (20:Int) < (pn:Int):=by omega
    have c1:=of_y _ _ _ r s ns w3 (H0.out.below K3.out) (H1.out.below K3.out) (H2.out.below K3.out) HL0.out HL1.out HL2.out (HV.out.on K3.out)
    obtain ⟨E,hE⟩:∃ E,allE r s = E:=⟨_,rfl⟩
    have HE:=Lib.hid hE
    rw [hE] at c1
    clear hE
    go_wp2_with fail
    refine c1.mono ?_
    rintro e w4 ⟨xa,xn,xc,rfl,hcx,k4⟩
    have K4:=Lib.hid (K3.out.trans (k4.mono K3.out.size))
    have hb4:=(Below.refl w4.heap.size w4).alloc (Nat.le_refl _) (.cells #[.slice xa xn xc] 22)
    have i4:=Blk.Is.new w4 22 #[.slice xa xn xc]
    obtain ⟨V4,hV4⟩:∃ V4,w4.alloc (.cells #[.slice xa xn xc] 22) = V4:=⟨_,rfl⟩
    rw [hV4] at hb4 i4
    have K44:=Lib.hid (K4.out.trans (hb4.mono K4.out.size))
    have c2:=all_y _ _ r s V4 (H0.out.below K44.out) (H1.out.below K44.out) HL0.out HL1.out (HV.out.on K44.out)
    rw [HE.out] at c2
    obtain ⟨xb,hxb⟩:∃ xb,w4.heap.size = xb:=⟨_,rfl⟩
    rw [hxb] at i4
    have I4:=Lib.hid i4
    have HCX:=Lib.hid hcx
    have HB4:=Lib.hid hb4
    have hu:=hV4
    clear c1 k4 hcx hb4 i4 hV4
    go_wp2_with fail
    clear hu hxb
    refine c2.mono ?_
    rintro e w5 ⟨ya,yn,yc,rfl,hcy,k5⟩
    have K5:=Lib.hid (K44.out.trans (k5.mono K44.out.size))
    have K45:=Lib.hid (HB4.out.trans (k5.mono HB4.out.size))
    have I5:=Lib.hid (Rl.is_on I4.out k5)
    clear c2 k5 I4
    by_cases hE0:E = 0
    ·subst hE0
     obtain ⟨hMay,WF,hW,hpx⟩:=HCX.out rfl
     have hpy:=hcy rfl
     have hso:Sorts (joinL r s) (insAll (joinL r s) []):=Ix.sorts_ins fun p hp=>(hMay.each p hp).ver
     have hl3:(insAll (joinL r s) []).length ≤ 24:=by rw [hso.1.length_eq]; exact hMay.len
     have hla:∀ p ∈ insAll (joinL r s) [],p.Lim:=fun p hp=>join_lim HL0.out HL1.out p (hso.1.mem_iff.1 hp)
     have hsh:=hW.shut
     obtain ⟨A,hA⟩:∃ A,insAll (joinL r s) [] = A:=⟨_,rfl⟩
     rw [hA] at hpx hpy hl3 hla hsh
     obtain ⟨X,hX⟩:∃ X,inW WF A = X:=⟨_,rfl⟩
     rw [hX] at hpx
     have hxa:∀ p ∈ X,p ∈ A:=fun p hp=>by rw [← hX] at hp; exact (inW_mem.1 hp).1
     have hl2:X.length ≤ 24:=by rw [← hX]; exact Nat.le_trans (inW_len _ _) hl3
     obtain ⟨_,_,em⟩:=hpx.shape
     simp only [Value.slice.injEq] at em
     have hxn:X.length = xn:=em.2.1.symm
     obtain ⟨_,_,em2⟩:=hpy.shape
     simp only [Value.slice.injEq] at em2
     have hyn:A.length = yn:=em2.2.1.symm
     rw [hxn] at hl2
     rw [hyn] at hl3
     have HX:=Lib.hid (hpx.below K45.out)
     have HY:=Lib.hid hpy
     have HXN:=Lib.hid hxn
     have HYN:=Lib.hid hyn
     have HLA:=Lib.hid hla
     have HSH:=Lib.hid hsh
     have HXA:=Lib.hid hxa
     have HEX:=Lib.hid hX
     have q0:=I5.out.at (i:=0) rfl
     have Q0:=Lib.hid q0
     have B5:=Lib.hid (Below.refl w5.heap.size w5)
     have hmf:∀ (fn:Fn) (first cap:Array Value) (w:World),(Instr.makeFunc fn first cap).run Tryz.prog w = .ok (.func fn first cap) w:=fun _ _ _ _=>rfl
     clear hMay hW hpx hcy hpy hso hla hsh hA hX hxa em em2 hxn hyn HCX
     go_wp2_with fail
     clear q0 hmf
     go_loopg [71] xn (fun gf s71 wx=>∃ i:Nat,s71 = .int .i64 i ∧ Hid (Below w5.heap.size w5 wx) ∧ i ≤ xn ∧ xn ≤ i + gf)
     case atStart=>exact ⟨0,rfl,B5,by omega,by omega⟩
     case round =>
      rename World=>w6
      clear B5
      obtain ⟨i,rfl,B6,hin,hfi⟩:=hrel
      by_cases hlti:i < xn
      ·obtain ⟨gB,rfl⟩:∃ g2,gk = g2 + 1:=⟨gk - 1,by omega⟩
       have hlti':(i:Int) < (xn:Int):=by omega
       have hi0:(0:Int) ≤ i:=by omega
       have hltil:i < X.length:=by rw [HXN.out]; exact hlti
       obtain ⟨_,a',cap',e1,_,hcells⟩:=HX.out
       rw [HXN.out] at e1
       simp only [Value.slice.injEq,true_and] at e1
       obtain ⟨rfl,rfl⟩:=e1
       obtain ⟨kbp,offp,rfl,hcl2⟩:=hcells (by omega)
       obtain ⟨g1,h1,l1,g2,h2,l2,g3,h3,l3,g4,h4,l4,g5,h5,l5,g6,h6,l6,⟨y0,y1,y2,y3,y4,y5,y6,y7,y8⟩,hhp⟩:=Rc.pk_read (hcl2 i hltil)
       rw [Nat.mul_comm 9 i] at y0 y1 y2 y3 y4 y5 y6 y7 y8
       replace y0:=Rl.cell_on y0 B6.out
       replace y1:=Rl.cell_on y1 B6.out
       replace y2:=Rl.cell_on y2 B6.out
       replace y3:=Rl.cell_on y3 B6.out
       replace y4:=Rl.cell_on y4 B6.out
       replace y5:=Rl.cell_on y5 B6.out
       replace y6:=Rl.cell_on y6 B6.out
       replace y7:=Rl.cell_on y7 B6.out
       replace y8:=Rl.cell_on y8 B6.out
       obtain ⟨p,hp⟩:∃ p,X.getD i nPk = p:=⟨_,rfl⟩
       rw [hp] at y0 y1 y8 hhp
       clear hcells hcl2
       have hb2:=(Below.refl w6.heap.size w6).alloc (Nat.le_refl _) (.cells #[.string (S p.nm),.string (S p.vs),.slice g1 h1 l1,.slice g2 h2 l2,.slice g3 h3 l3,.slice g4 h4 l4,.slice g5 h5 l5,.slice g6 h6 l6,.bool p.ess] 40)
       have i2:=Blk.Is.new w6 40 #[.string (S p.nm),.string (S p.vs),.slice g1 h1 l1,.slice g2 h2 l2,.slice g3 h3 l3,.slice g4 h4 l4,.slice g5 h5 l5,.slice g6 h6 l6,.bool p.ess]
       obtain ⟨V0,hV0⟩:∃ V0,w6.alloc (.cells #[.string (S p.nm),.string (S p.vs),.slice g1 h1 l1,.slice g2 h2 l2,.slice g3 h3 l3,.slice g4 h4 l4,.slice g5 h5 l5,.slice g6 h6 l6,.bool p.ess] 40) = V0:=⟨_,rfl⟩
       rw [hV0] at hb2 i2
       have hpX:p ∈ X:=by rw [← hp]; exact mem_getD hltil
       have hlp:=HLA.out p (HXA.out p hpX)
       rw [← HEX.out] at hpX
       have B6':=Lib.hid (B6.out.trans (hb2.mono B6.out.size))
       have HPX:=Lib.hid hpX
       have HLP:=Lib.hid hlp
       have HHP:=Lib.hid hhp
       have z2:=i2.at (i:=2) rfl
       have z3:=i2.at (i:=3) rfl
       have z4:=i2.at (i:=4) rfl
       have hu:=hV0
       clear hp hb2 i2 hV0 hpX hlp hhp hltil B6
       go_wp2_with fail
       have B6:=B6'
       clear hu y0 y1 y2 y3 y4 y5 y6 y7 y8 z2 z3 z4 B6'
       go_loopg [82] 3 (fun gf s82 wx=>∃ t:Nat,s82 = .int .i64 t ∧ Hid (Below w5.heap.size w5 wx) ∧ t ≤ 3 ∧ 3 ≤ t + gf)
       case atStart=>exact ⟨0,rfl,B6,by omega,by omega⟩
       case round =>
        rename World=>w7
        clear B6
        obtain ⟨t,rfl,B7,htn,hft⟩:=hrel
        by_cases hltt:t < 3
        ·obtain ⟨gC,rfl⟩:∃ g2,gk = g2 + 1:=⟨gk - 1,by omega⟩
         have hltt':(t:Int) < 3:=by omega
         have ht0:(0:Int) ≤ t:=by omega
         obtain ⟨xaa,xm,xcc,hv,hcl,hlm⟩:∃ xa xm xc,(#[.slice g1 h1 l1,.slice g2 h2 l2,.slice g3 h3 l3]:Array Value)[t]? = some (.slice xa xm xc) ∧ Clss w5 (.slice xa xm xc) ((three p).getD t []) ∧ Rl.LimC ((three p).getD t []):=by
          match t,hltt with
          | 0,_=>exact ⟨_,_,_,rfl,HHP.out.pre,HLP.out.pre⟩
          | 1,_=>exact ⟨_,_,_,rfl,HHP.out.dep,HLP.out.dep⟩
          | 2,_=>exact ⟨_,_,_,rfl,HHP.out.rcm,HLP.out.rcm⟩
         have hidx:=fun w=>index_three #[.slice g1 h1 l1,.slice g2 h2 l2,.slice g3 h3 l3] t hltt _ hv w
         obtain ⟨cl,hcl0⟩:∃ cl,(three p).getD t [] = cl:=⟨_,rfl⟩
         rw [hcl0] at hcl hlm
         obtain ⟨_,_,em⟩:=hcl.shape
         simp only [Value.slice.injEq] at em
         have hxm:cl.length = xm:=em.2.1.symm
         have hxb:=hcl.1
         rw [hxm] at hxb
         have HCL:=Lib.hid hcl
         have HLM:=Lib.hid hlm
         have HXM:=Lib.hid hxm
         have HCL0:=Lib.hid hcl0
         clear hv hcl hlm hcl0 em hxm
         go_wp2_with fail
         clear hidx
         go_loopg [87] xm (fun gf s87 wx=>∃ k:Nat,s87 = .int .i64 k ∧ Hid (Below w5.heap.size w5 wx) ∧ k ≤ xm ∧ xm ≤ k + gf)
         case atStart=>exact ⟨0,rfl,B7,by omega,by omega⟩
         case round =>
          rename World=>w8
          clear B7
          obtain ⟨k,rfl,B8,hkn,hfk⟩:=hrel
          by_cases hltk:k < xm
          ·obtain ⟨gD,rfl⟩:∃ g2,gk = g2 + 1:=⟨gk - 1,by omega⟩
           have hltk':(k:Int) < (xm:Int):=by omega
           have hk0:(0:Int) ≤ k:=by omega
           have hkl:k < cl.length:=by rw [HXM.out]; exact hltk
           obtain ⟨_,a',cap',e1,_,hcells⟩:=HCL.out
           rw [HXM.out] at e1
           simp only [Value.slice.injEq,true_and] at e1
           obtain ⟨rfl,rfl⟩:=e1
           obtain ⟨cb,coff,rfl,hcl2⟩:=hcells (by omega)
           obtain ⟨uu,x0,hats⟩:=hcl2 k hkl
           rw [Nat.one_mul] at x0
           replace x0:=Rl.cell_on x0 B8.out
           have hlc:=HLM.out _ (mem_getD (z:=([]:List At)) hkl)
           have hcm:=mem_getD (z:=([]:List At)) hkl
           obtain ⟨c,hc⟩:∃ c,cl.getD k [] = c:=⟨_,rfl⟩
           rw [hc] at hats hlc hcm
           rw [← HCL0.out] at hcm
           obtain ⟨ua,uc,hue⟩:=hats.shape
           obtain ⟨cn,hcn⟩:∃ cn,c.length = cn:=⟨_,rfl⟩
           rw [hcn] at hue
           subst hue
           have HCC:=Lib.hid hcm
           have HATS:=Lib.hid hats
           have HLC:=Lib.hid hlc
           have HCN:=Lib.hid hcn
           clear hcells hcl2 hats hlc hc hcn hcm hkl
           go_wp2_with fail
           clear x0
           go_loopg [93] yn (fun gf s93 wx=>∃ z:Nat,s93 = .int .i64 z ∧ Hid (Below w5.heap.size w5 wx) ∧ z ≤ yn ∧ yn ≤ z + gf)
           case atStart=>exact ⟨0,rfl,B8,by omega,by omega⟩
           case round =>
            rename World=>w9
            clear B8
            obtain ⟨z,rfl,B9,hzn,hfz⟩:=hrel
            by_cases hltz:z < yn
            ·obtain ⟨gF,rfl⟩:∃ g2,gk = g2 + 1:=⟨gk - 1,by omega⟩
             have hltz':(z:Int) < (yn:Int):=by omega
             have hz0:(0:Int) ≤ z:=by omega
             have hltzl:z < A.length:=by rw [HYN.out]; exact hltz
             obtain ⟨_,a',cap',e1,_,hcells⟩:=HY.out
             rw [HYN.out] at e1
             simp only [Value.slice.injEq,true_and] at e1
             obtain ⟨rfl,rfl⟩:=e1
             obtain ⟨kbq,offq,rfl,hcl2⟩:=hcells (by omega)
             obtain ⟨d1,y1,f1,d2,y2,f2,d3,y3,f3,d4,y4,f4,d5,y5,f5,d6,y6,f6,⟨x0,x1,x2,x3,x4,x5,x6,x7,x8⟩,hhq⟩:=Rc.pk_read (hcl2 z hltzl)
             rw [Nat.mul_comm 9 z] at x0 x1 x2 x3 x4 x5 x6 x7 x8
             replace x0:=Rl.cell_on x0 B9.out
             replace x1:=Rl.cell_on x1 B9.out
             replace x2:=Rl.cell_on x2 B9.out
             replace x3:=Rl.cell_on x3 B9.out
             replace x4:=Rl.cell_on x4 B9.out
             replace x5:=Rl.cell_on x5 B9.out
             replace x6:=Rl.cell_on x6 B9.out
             replace x7:=Rl.cell_on x7 B9.out
             replace x8:=Rl.cell_on x8 B9.out
             obtain ⟨q,hq⟩:∃ q,A.getD z nPk = q:=⟨_,rfl⟩
             rw [hq] at x0 x1 x8 hhq
             clear hcells hcl2
             have hb2:=(Below.refl w9.heap.size w9).alloc (Nat.le_refl _) (.cells #[.string (S q.nm),.string (S q.vs),.slice d1 y1 f1,.slice d2 y2 f2,.slice d3 y3 f3,.slice d4 y4 f4,.slice d5 y5 f5,.slice d6 y6 f6,.bool q.ess] 40)
             have i2:=Blk.Is.new w9 40 #[.string (S q.nm),.string (S q.vs),.slice d1 y1 f1,.slice d2 y2 f2,.slice d3 y3 f3,.slice d4 y4 f4,.slice d5 y5 f5,.slice d6 y6 f6,.bool q.ess]
             obtain ⟨V0,hV0⟩:∃ V0,w9.alloc (.cells #[.string (S q.nm),.string (S q.vs),.slice d1 y1 f1,.slice d2 y2 f2,.slice d3 y3 f3,.slice d4 y4 f4,.slice d5 y5 f5,.slice d6 y6 f6,.bool q.ess] 40) = V0:=⟨_,rfl⟩
             rw [hV0] at hb2 i2
             have hqA:q ∈ A:=by rw [← hq]; exact mem_getD hltzl
             have hlq:=HLA.out q hqA
             have hb9:=B9.out.trans (hb2.mono B9.out.size)
             have hb3:=(Below.refl V0.heap.size V0).alloc (Nat.le_refl _) (.cells #[.string (S q.nm),.string (S q.vs),.slice d1 y1 f1,.slice d2 y2 f2,.slice d3 y3 f3,.slice d4 y4 f4,.slice d5 y5 f5,.slice d6 y6 f6,.bool q.ess] 40)
             have i3:=Blk.Is.new V0 40 #[.string (S q.nm),.string (S q.vs),.slice d1 y1 f1,.slice d2 y2 f2,.slice d3 y3 f3,.slice d4 y4 f4,.slice d5 y5 f5,.slice d6 y6 f6,.bool q.ess]
             obtain ⟨V1,hV1⟩:∃ V1,V0.alloc (.cells #[.string (S q.nm),.string (S q.vs),.slice d1 y1 f1,.slice d2 y2 f2,.slice d3 y3 f3,.slice d4 y4 f4,.slice d5 y5 f5,.slice d6 y6 f6,.bool q.ess] 40) = V1:=⟨_,rfl⟩
             rw [hV1] at hb3 i3
             have hb10:=hb9.trans (hb3.mono hb9.size)
             have cm:=Sa.ymet_any _ _ c [q] V1 (HATS.out.below hb10) (pk_one (cs:=[.string (S q.nm),.string (S q.vs),.slice d1 y1 f1,.slice d2 y2 f2,.slice d3 y3 f3,.slice d4 y4 f4,.slice d5 y5 f5,.slice d6 y6 f6,.bool q.ess]) ⟨_,_,_,_,_,_,rfl,hhq.below hb10⟩ i3) (fun x hx=>by rw [List.mem_singleton.1 hx]; exact hlq) HLC.out
             have hin:Sa.metR [q] c = true → inB X q = true:=fun hm=>by
              have h:=shut_in HSH.out HPX.out hltt HCC.out hqA hm
              rwa [HEX.out] at h
             have HIN:=Lib.hid hin
             have HHQ:=Lib.hid hhq
             have HB10:=Lib.hid hb10
             have I2:=Lib.hid (Rl.is_on i2 hb3)
             have hu:=hV0
             have hu1:=hV1
             have z0:=i2.at (i:=0) rfl
             have z1:=i2.at (i:=1) rfl
             have z2:=i2.at (i:=2) rfl
             have z3:=i2.at (i:=3) rfl
             have z4:=i2.at (i:=4) rfl
             have z5:=i2.at (i:=5) rfl
             have z6:=i2.at (i:=6) rfl
             have z7:=i2.at (i:=7) rfl
             have z8:=i2.at (i:=8) rfl
             obtain ⟨bq,hbq⟩:∃ bq,w9.heap.size = bq:=⟨_,rfl⟩
             rw [hbq] at I2 z0 z1 z2 z3 z4 z5 z6 z7 z8
             obtain ⟨B1,hB1⟩:∃ B1,Sa.metR [q] c = B1:=⟨_,rfl⟩
             rw [hB1] at cm
             have HB1:=Lib.hid hB1
             clear hb2 i2 hV0 hqA hlq hb9 hb3 i3 hV1 hb10 hin hB1 hhq hq hltzl
             go_wp2_with fail
             clear hu hu1 x0 x1 x2 x3 x4 x5 x6 x7 x8 z0 z1 z2 z3 z4 z5 z6 z7 z8 hbq
             refine cm.mono ?_
             rintro e u2 ⟨rfl,k2⟩
             have B11:=Lib.hid (HB10.out.trans (k2.mono HB10.out.size))
             cases B1 with
             | false =>
              clear cm k2 HIN
              go_wp2_with fail
              go_roundg gF
              case measure=>omega
              case rel=>exact ⟨z + 1,by go_num,B11,by omega,by omega⟩
             | true =>
              have i4:=Rl.is_on I2.out k2
              have z0:=i4.at (i:=0) rfl
              have z1:=i4.at (i:=1) rfl
              have z2:=i4.at (i:=2) rfl
              have z3:=i4.at (i:=3) rfl
              have z4:=i4.at (i:=4) rfl
              have z5:=i4.at (i:=5) rfl
              have z6:=i4.at (i:=6) rfl
              have z7:=i4.at (i:=7) rfl
              have z8:=i4.at (i:=8) rfl
              have ci:=in_any (.agg #[.string (S q.nm),.string (S q.vs),.slice d1 y1 f1,.slice d2 y2 f2,.slice d3 y3 f3,.slice d4 y4 f4,.slice d5 y5 f5,.slice d6 y6 f6,.bool q.ess]) _ xb X q u2 (Rl.cell_on Q0.out B11.out) (HX.out.below B11.out) ⟨_,_,_,_,_,_,rfl,HHQ.out.below B11.out⟩ (by rw [HXN.out]; omega)
              rw [HIN.out HB1.out] at ci
              clear cm k2 HIN i4
              go_wp2_with fail
              refine ci.mono ?_
              rintro e u3 ⟨rfl,k3⟩
              have B12:=Lib.hid (B11.out.trans (k3.mono B11.out.size))
              clear ci k3 z0 z1 z2 z3 z4 z5 z6 z7 z8
              go_wp2_with fail
              go_roundg gF
              case measure=>omega
              case rel=>exact ⟨z + 1,by go_num,B12,by omega,by omega⟩
            ·have hgez:¬ (yn:Int) < (yn:Int):=by omega
             obtain rfl:yn = z:=by omega
             go_wp2_with fail
             go_roundg gD
             case measure=>omega
             case rel=>exact ⟨k + 1,by go_num,B9,by omega,by omega⟩
          ·have hgek:¬ (xm:Int) < (xm:Int):=by omega
           obtain rfl:xm = k:=by omega
           go_wp2_with fail
           go_roundg gC
           case measure=>omega
           case rel=>exact ⟨t + 1,by go_num,B8,by omega,by omega⟩
        ·have hget:¬ (3:Int) < 3:=by omega
         obtain rfl:t = 3:=by omega
         go_wp2_with fail
         go_roundg gB
         case measure=>omega
         case rel=>exact ⟨i + 1,by go_num,B7,by omega,by omega⟩
      ·have hgei:¬ (xn:Int) < (xn:Int):=by omega
       obtain rfl:xn = i:=by omega
       go_wp2_with fail
       go_loopg [22,113] yn (fun gf s22 s113 wx=>∃ (k K:Nat) (qa:Option Addr) (qc:Nat),s22 = .slice qa K qc ∧ s113 = .int .i64 k ∧ Hid (Rc.Acc PkC 9 40 w5.heap.size 0 wx (.slice qa K qc) (outN A (fun j=>hs.getD j false) k)) ∧ Hid ((outN A (fun j=>hs.getD j false) k).length = K) ∧ Hid (Below w5.heap.size w5 wx) ∧ K ≤ k ∧ k ≤ yn ∧ yn ≤ k + gf)
       case atStart=>exact ⟨0,0,none,0,rfl,rfl,Lib.hid ((Rc.Acc.nil _ _ _ _ _ _).on B6.out),Lib.hid rfl,B6,by omega,by omega,by omega⟩
       case round =>
        rename World=>wz
        clear B6
        obtain ⟨k,K,qa,qc,rfl,rfl,HA,HKL,HBZ,hKk,hkn,hfk⟩:=hrel
        by_cases hltk:k < yn
        ·obtain ⟨gB,rfl⟩:∃ g2,gk = g2 + 1:=⟨gk - 1,by omega⟩
         have hltk':(k:Int) < (yn:Int):=by omega
         have hk0:(0:Int) ≤ k:=by omega
         have hltkl:k < A.length:=by rw [HYN.out]; exact hltk
         obtain ⟨_,a',cap',e1,_,hcells⟩:=HY.out
         rw [HYN.out] at e1
         simp only [Value.slice.injEq,true_and] at e1
         obtain ⟨rfl,rfl⟩:=e1
         obtain ⟨kbq,offq,rfl,hcl2⟩:=hcells (by omega)
         obtain ⟨d1,y1,f1,d2,y2,f2,d3,y3,f3,d4,y4,f4,d5,y5,f5,d6,y6,f6,⟨x0,x1,x2,x3,x4,x5,x6,x7,x8⟩,hhq⟩:=Rc.pk_read (hcl2 k hltkl)
         rw [Nat.mul_comm 9 k] at x0 x1 x2 x3 x4 x5 x6 x7 x8
         replace x0:=Rl.cell_on x0 HBZ.out
         replace x1:=Rl.cell_on x1 HBZ.out
         replace x2:=Rl.cell_on x2 HBZ.out
         replace x3:=Rl.cell_on x3 HBZ.out
         replace x4:=Rl.cell_on x4 HBZ.out
         replace x5:=Rl.cell_on x5 HBZ.out
         replace x6:=Rl.cell_on x6 HBZ.out
         replace x7:=Rl.cell_on x7 HBZ.out
         replace x8:=Rl.cell_on x8 HBZ.out
         obtain ⟨q,hq⟩:∃ q,A.getD k nPk = q:=⟨_,rfl⟩
         rw [hq] at x0 x1 x8 hhq
         clear hcells hcl2
         have hb2:=(Below.refl wz.heap.size wz).alloc (Nat.le_refl _) (.cells #[.string (S q.nm),.string (S q.vs),.slice d1 y1 f1,.slice d2 y2 f2,.slice d3 y3 f3,.slice d4 y4 f4,.slice d5 y5 f5,.slice d6 y6 f6,.bool q.ess] 40)
         have i2:=Blk.Is.new wz 40 #[.string (S q.nm),.string (S q.vs),.slice d1 y1 f1,.slice d2 y2 f2,.slice d3 y3 f3,.slice d4 y4 f4,.slice d5 y5 f5,.slice d6 y6 f6,.bool q.ess]
         obtain ⟨V1,hV0⟩:∃ V1,wz.alloc (.cells #[.string (S q.nm),.string (S q.vs),.slice d1 y1 f1,.slice d2 y2 f2,.slice d3 y3 f3,.slice d4 y4 f4,.slice d5 y5 f5,.slice d6 y6 f6,.bool q.ess] 40) = V1:=⟨_,rfl⟩
         rw [hV0] at hb2 i2
         have z0:=i2.at (i:=0) rfl
         have z1:=i2.at (i:=1) rfl
         have z2:=i2.at (i:=2) rfl
         have z3:=i2.at (i:=3) rfl
         have z4:=i2.at (i:=4) rfl
         have z5:=i2.at (i:=5) rfl
         have z6:=i2.at (i:=6) rfl
         have z7:=i2.at (i:=7) rfl
         have z8:=i2.at (i:=8) rfl
         have hnext:outN A (fun j=>hs.getD j false) (k + 1) = outN A (fun j=>hs.getD j false) k ++ (if hs.getD k false = true then [q] else []):=by
          unfold outN
          rw [flat_suc,hq]
         have hwv:Below w5.heap.size w5 V1:=HBZ.out.trans (hb2.mono HBZ.out.size)
         have hwv0:=K5.out.trans (hwv.mono K5.out.size)
         have HH:=Lib.hid hhq
         have HBV:=Lib.hid hb2
         have HWV:=Lib.hid hwv
         obtain ⟨bx,hbx⟩:∃ bx,wz.heap.size = bx:=⟨_,rfl⟩
         rw [hbx] at z0 z1 z2 z3 z4 z5 z6 z7 z8
         have hu:=hV0
         by_cases hlth:k < hn
         ·have hlth':(k:Int) < (hn:Int):=by omega
          have hlthd:decide ((k:Int) < (hn:Int)) = true:=decide_eq_true hlth'
          obtain ⟨_,a',cap',e1,_,hcells⟩:=H3.out
          rw [HHN.out] at e1
          simp only [Value.slice.injEq,true_and] at e1
          obtain ⟨rfl,rfl⟩:=e1
          obtain ⟨tb,toff,rfl,hcl2⟩:=hcells (by rw [HHN.out]; omega)
          have b0:=hcl2 k (by rw [HHN.out]; exact hlth)
          rw [Nat.one_mul] at b0
          unfold Sa.BlAt at b0
          replace b0:=Rl.cell_on b0 hwv0
          obtain ⟨B1,hB1⟩:∃ B1,hs.getD k false = B1:=⟨_,rfl⟩
          rw [hB1] at b0 hnext
          have HNX:=Lib.hid hnext
          clear hcells hcl2 hb2 i2 hV0 hhq hq hnext hwv hwv0 hB1 hltkl
          cases B1 with
          | false =>
           rw [if_neg (by simp),List.append_nil] at HNX
           have HA3:=Lib.hid (HA.out.on HBV.out)
           clear HA HBZ
           go_wp2_with fail
           go_roundg gB
           case measure=>omega
           case rel=>exact ⟨k + 1,K,qa,qc,rfl,by go_num,by rw [HNX.out]; exact HA3,by rw [HNX.out]; exact HKL,HWV,by omega,by omega,by omega⟩
          | true =>
           rw [if_pos rfl] at HNX
           have hba:=(Below.refl V1.heap.size V1).alloc (Nat.le_refl _) (.cells #[.string (S q.nm),.string (S q.vs),.slice d1 y1 f1,.slice d2 y2 f2,.slice d3 y3 f3,.slice d4 y4 f4,.slice d5 y5 f5,.slice d6 y6 f6,.bool q.ess] 40)
           have ia:=Blk.Is.new V1 40 #[.string (S q.nm),.string (S q.vs),.slice d1 y1 f1,.slice d2 y2 f2,.slice d3 y3 f3,.slice d4 y4 f4,.slice d5 y5 f5,.slice d6 y6 f6,.bool q.ess]
           obtain ⟨V4,hV4⟩:∃ V4,V1.alloc (.cells #[.string (S q.nm),.string (S q.vs),.slice d1 y1 f1,.slice d2 y2 f2,.slice d3 y3 f3,.slice d4 y4 f4,.slice d5 y5 f5,.slice d6 y6 f6,.bool q.ess] 40) = V4:=⟨_,rfl⟩
           rw [hV4] at hba ia
           have acc4:=(HA.out.on HBV.out).on hba
           have hB4:Below w5.heap.size w5 V4:=HWV.out.trans (hba.mono HWV.out.size)
           have hin:Rc.In 0 w5.heap.size w5 (fun u=>PkC u [.string (S q.nm),.string (S q.vs),.slice d1 y1 f1,.slice d2 y2 f2,.slice d3 y3 f3,.slice d4 y4 f4,.slice d5 y5 f5,.slice d6 y6 f6,.bool q.ess] q):=Rc.in_low fun u hu=>⟨_,_,_,_,_,_,rfl,HH.out.below hu⟩
           have hin4:=hin.on (Blk.Chg.ofBelow' (S:=fun k=>k < 0 ∨ w5.heap.size ≤ k) ⟨hB4.os,hB4.tape,hB4.output,hB4.size,fun k hk=>hB4.block k hk⟩)
           have hlow:∀ g,Value.ownBlock (.slice qa K qc) = some g → g < 0 ∨ w5.heap.size ≤ g:=fun g hg=>by
            obtain ⟨_,ho⟩:=HA.out.own
            exact .inr (Rl.own_lt ho hg).1
           have own4:∃ ys,V4.ownsRow w5.heap.size 40 9 (.slice qa K qc) K ys:=by
            have:=acc4.own
            rwa [HKL.out] at this
           have hsz4:w5.heap.size ≤ V4.heap.size:=hB4.size
           have AC4:=Lib.hid acc4
           have IN4:=Lib.hid hin4
           have LO:=Lib.hid hlow
           have B4:=Lib.hid hB4
           have I4:=Lib.hid ia
           have OW:=Lib.hid own4
           have SZ:=Lib.hid hsz4
           have HV4:=Lib.hid hV4
           have hk1:(K + 1) * 184 ≤ 140737488355328:=by omega
           have hk2:K + 1 ≤ 4611686018427387904:=by omega
           clear hba ia hV4 acc4 hin hin4 hlow own4 hsz4 hB4 HA
           go_wp2_with (at_builtin; (try rw [HV4.out]); refine Rc.append_big Tryz.underlying22 Rc.infoPk rfl rfl (.tmp 128) (.tmp 130) rfl w5.heap.size (.slice qa K qc) K rfl OW.out V1.heap.size 1 rfl [.string (S q.nm),.string (S q.vs),.slice d1 y1 f1,.slice d2 y2 f2,.slice d3 y3 f3,.slice d4 y4 f4,.slice d5 y5 f5,.slice d6 y6 f6,.bool q.ess] rfl (fun j u hj=>I4.out.at (by rw [← Array.getElem?_toList]; exact hj)) (fun u hu=>by simp only [List.mem_cons,List.not_mem_nil,or_false] at hu; rcases hu with rfl | rfl | rfl | rfl | rfl | rfl | rfl | rfl | rfl <;> rfl) hk1 hk2 SZ.out ?_; intro v' w9 h2 h3 h4; have acc9:=AC4.out.more (cs:=[.string (S q.nm),.string (S q.vs),.slice d1 y1 f1,.slice d2 y2 f2,.slice d3 y3 f3,.slice d4 y4 f4,.slice d5 y5 f5,.slice d6 y6 f6,.bool q.ess]) rfl IN4.out SZ.out LO.out (Nat.zero_le _) (by rw [HKL.out]; exact h2) h3 h4; obtain ⟨a9,c9,e9⟩:=acc9.shape; rw [List.length_append,HKL.out,List.length_singleton] at e9; subst e9; have hb9:=Own.below_grown B4.out (Classical.choose_spec OW.out) h3 SZ.out; have AC9:=Lib.hid acc9; have HB9:=Lib.hid hb9; clear acc9 hb9 h2 h3 h4 AC4 IN4 LO B4 I4 OW HV4)
           go_roundg gB
           case measure=>omega
           case rel=>exact ⟨k + 1,K + 1,a9,c9,rfl,by go_num,by rw [HNX.out]; exact AC9,by rw [HNX.out]; show List.length _ = _; rw [List.length_append,HKL.out]; rfl,HB9,by omega,by omega,by omega⟩
         ·have hlth':¬ (k:Int) < (hn:Int):=by omega
          have hlthd:decide ((k:Int) < (hn:Int)) = false:=decide_eq_false hlth'
          have hB1:hs.getD k false = false:=by rw [List.getD_eq_getElem?_getD,List.getElem?_eq_none (by rw [HHN.out]; omega)]; rfl
          rw [hB1,if_neg (by simp),List.append_nil] at hnext
          have HNX:=Lib.hid hnext
          have HA3:=Lib.hid (HA.out.on HBV.out)
          clear hb2 i2 hV0 hhq hq hnext hwv hwv0 hB1 hltkl HA HBZ
          go_wp2_with fail
          go_roundg gB
          case measure=>omega
          case rel=>exact ⟨k + 1,K,qa,qc,rfl,by go_num,by rw [HNX.out]; exact HA3,by rw [HNX.out]; exact HKL,HWV,by omega,by omega,by omega⟩
        ·have hgek:¬ (yn:Int) < (yn:Int):=by omega
         obtain rfl:yn = k:=by omega
         have hacc:=HA.out
         obtain ⟨T,hT⟩:∃ T,outN A (fun j=>hs.getD j false) yn = T:=⟨_,rfl⟩
         have hta:∀ p ∈ T,p ∈ A:=fun p hp=>by
          rw [← hT] at hp
          unfold outN at hp
          obtain ⟨j,hj,hp⟩:=List.mem_flatMap.1 hp
          by_cases hf:hs.getD j false = true
          ·rw [if_pos hf,List.mem_singleton] at hp
           rw [hp]; exact mem_getD (by rw [HYN.out]; exact List.mem_range.1 hj)
          ·rw [if_neg hf] at hp; cases hp
         rw [hT] at hacc HKL
         have hpk:Pks wz (.slice qa K qc) T:=Rc.Acc.slc nPk hacc (by rw [HKL.out]; omega)
         have HTA:=Lib.hid hta
         have HLT:=Lib.hid (show ∀ x ∈ T,x.Lim from fun x hx=>HLA.out x (hta x hx))
         have cy:=Sa.yhealthy_any _ _ wz hpk HLT.out
         have HPK:=Lib.hid hpk
         have HTN:=HKL
         have KZ:=Lib.hid (K5.out.trans (HBZ.out.mono K5.out.size))
         obtain ⟨B1,hB1⟩:∃ B1,Sa.heaB T = B1:=⟨_,rfl⟩
         rw [hB1] at cy
         have HHT0:=Lib.hid hB1
         clear hacc hpk HA hT hta hB1 HKL
         go_wp2_with fail
         refine cy.mono ?_
         rintro e wT ⟨rfl,ky⟩
         have KT:=Lib.hid (KZ.out.trans (ky.mono KZ.out.size))
         have BT:=Lib.hid (HBZ.out.trans (ky.mono HBZ.out.size))
         have HT:=Lib.hid (HPK.out.below ky)
         clear cy ky HPK
         cases B1 with
         | false =>
          have ca:=awake_any wT (HV.out.on KT.out)
          go_wp2_with fail
          refine ca.mono ?_
          rintro e w9 ⟨rfl,k9⟩
          have hb:=KT.out.trans (k9.mono KT.out.size)
          clear ca
          go_wp2_with fail
          go_ret
          exact ⟨rfl,hb⟩
         | true =>
          have HHT:=HHT0
          clear HHT0 HBZ
          go_wp2_with fail
          go_loopg [25,139] K (fun gf s25 s139 wx=>∃ (k K2:Nat) (qa:Option Addr) (qc:Nat),s25 = .slice qa K2 qc ∧ s139 = .int .i64 k ∧ Hid (Rc.Acc PkC 9 40 wT.heap.size 0 wx (.slice qa K2 qc) ((T.take k).filter (inB X))) ∧ Hid (((T.take k).filter (inB X)).length = K2) ∧ Hid (Below wT.heap.size wT wx) ∧ K2 ≤ k ∧ k ≤ K ∧ K ≤ k + gf)
          case atStart=>exact ⟨0,0,none,0,rfl,rfl,Lib.hid (Rc.Acc.nil _ _ _ _ _ _),Lib.hid rfl,Lib.hid (Below.refl _ _),by omega,by omega,by omega⟩
          case round =>
           rename World=>wz
           obtain ⟨k,K2,qa,qc,rfl,rfl,HA,HKL,HBZ,hKk,hkn,hfk⟩:=hrel
           by_cases hltk:k < K
           ·obtain ⟨gB,rfl⟩:∃ g2,gk = g2 + 1:=⟨gk - 1,by omega⟩
            have hltk':(k:Int) < (K:Int):=by omega
            have hk0:(0:Int) ≤ k:=by omega
            have hltkl:k < T.length:=by rw [HTN.out]; exact hltk
            obtain ⟨_,a',cap',e1,_,hcells⟩:=HT.out
            rw [HTN.out] at e1
            simp only [Value.slice.injEq,true_and] at e1
            obtain ⟨rfl,rfl⟩:=e1
            obtain ⟨kbq,offq,rfl,hcl2⟩:=hcells (by omega)
            obtain ⟨d1,y1,f1,d2,y2,f2,d3,y3,f3,d4,y4,f4,d5,y5,f5,d6,y6,f6,⟨x0,x1,x2,x3,x4,x5,x6,x7,x8⟩,hhq⟩:=Rc.pk_read (hcl2 k hltkl)
            rw [Nat.mul_comm 9 k] at x0 x1 x2 x3 x4 x5 x6 x7 x8
            replace x0:=Rl.cell_on x0 HBZ.out
            replace x1:=Rl.cell_on x1 HBZ.out
            replace x2:=Rl.cell_on x2 HBZ.out
            replace x3:=Rl.cell_on x3 HBZ.out
            replace x4:=Rl.cell_on x4 HBZ.out
            replace x5:=Rl.cell_on x5 HBZ.out
            replace x6:=Rl.cell_on x6 HBZ.out
            replace x7:=Rl.cell_on x7 HBZ.out
            replace x8:=Rl.cell_on x8 HBZ.out
            obtain ⟨q,hq⟩:∃ q,T.getD k nPk = q:=⟨_,rfl⟩
            rw [hq] at x0 x1 x8 hhq
            clear hcells hcl2
            have hb2:=(Below.refl wz.heap.size wz).alloc (Nat.le_refl _) (.cells #[.string (S q.nm),.string (S q.vs),.slice d1 y1 f1,.slice d2 y2 f2,.slice d3 y3 f3,.slice d4 y4 f4,.slice d5 y5 f5,.slice d6 y6 f6,.bool q.ess] 40)
            have i2:=Blk.Is.new wz 40 #[.string (S q.nm),.string (S q.vs),.slice d1 y1 f1,.slice d2 y2 f2,.slice d3 y3 f3,.slice d4 y4 f4,.slice d5 y5 f5,.slice d6 y6 f6,.bool q.ess]
            obtain ⟨V1,hV0⟩:∃ V1,wz.alloc (.cells #[.string (S q.nm),.string (S q.vs),.slice d1 y1 f1,.slice d2 y2 f2,.slice d3 y3 f3,.slice d4 y4 f4,.slice d5 y5 f5,.slice d6 y6 f6,.bool q.ess] 40) = V1:=⟨_,rfl⟩
            rw [hV0] at hb2 i2
            have z0:=i2.at (i:=0) rfl
            have z1:=i2.at (i:=1) rfl
            have z2:=i2.at (i:=2) rfl
            have z3:=i2.at (i:=3) rfl
            have z4:=i2.at (i:=4) rfl
            have z5:=i2.at (i:=5) rfl
            have z6:=i2.at (i:=6) rfl
            have z7:=i2.at (i:=7) rfl
            have z8:=i2.at (i:=8) rfl
            have htk:T.take (k + 1) = T.take k ++ [q]:=by rw [← hq]; exact take_snoc hltkl
            have hnext:(T.take (k + 1)).filter (inB X) = (T.take k).filter (inB X) ++ (if inB X q = true then [q] else []):=by
             rw [htk,List.filter_append]
             congr 1
             by_cases hi:inB X q = true
             ·rw [if_pos hi,List.filter_cons_of_pos hi]; rfl
             ·rw [if_neg hi,List.filter_cons_of_neg hi]; rfl
            have hwv:Below wT.heap.size wT V1:=HBZ.out.trans (hb2.mono HBZ.out.size)
            have hw5:Below w5.heap.size w5 V1:=BT.out.trans (hwv.mono BT.out.size)
            have ci:=in_any (.agg #[.string (S q.nm),.string (S q.vs),.slice d1 y1 f1,.slice d2 y2 f2,.slice d3 y3 f3,.slice d4 y4 f4,.slice d5 y5 f5,.slice d6 y6 f6,.bool q.ess]) _ xb X q V1 (Rl.cell_on Q0.out hw5) (HX.out.below hw5) ⟨_,_,_,_,_,_,rfl,hhq.below hwv⟩ (by rw [HXN.out]; omega)
            obtain ⟨B1,hB1⟩:∃ B1,inB X q = B1:=⟨_,rfl⟩
            rw [hB1] at ci hnext
            have HNX:=Lib.hid hnext
            have HBV:=Lib.hid hb2
            have HWV:=Lib.hid hwv
            have HH:=Lib.hid hhq
            have I2:=Lib.hid i2
            have hu:=hV0
            obtain ⟨bx,hbx⟩:∃ bx,wz.heap.size = bx:=⟨_,rfl⟩
            rw [hbx] at I2 z0 z1 z2 z3 z4 z5 z6 z7 z8
            clear hb2 i2 hV0 hhq hq htk hnext hwv hw5 hB1 hltkl
            go_wp2_with fail
            clear hu hbx x0 x1 x2 x3 x4 x5 x6 x7 x8 z0 z1 z2 z3 z4 z5 z6 z7 z8
            refine ci.mono ?_
            rintro e V2 ⟨rfl,k9⟩
            have HW2:=Lib.hid (HWV.out.trans (k9.mono HWV.out.size))
            have HA2:=Lib.hid ((HA.out.on HBV.out).on k9)
            have i9:=Rl.is_on I2.out k9
            clear ci k9
            cases B1 with
            | false =>
             rw [if_neg (by simp),List.append_nil] at HNX
             clear HA i9
             go_wp2_with fail
             go_roundg gB
             case measure=>omega
             case rel=>exact ⟨k + 1,K2,qa,qc,rfl,by go_num,by rw [HNX.out]; exact HA2,by rw [HNX.out]; exact HKL,HW2,by omega,by omega,by omega⟩
            | true =>
             rw [if_pos rfl] at HNX
             have z0:=i9.at (i:=0) rfl
             have z1:=i9.at (i:=1) rfl
             have z2:=i9.at (i:=2) rfl
             have z3:=i9.at (i:=3) rfl
             have z4:=i9.at (i:=4) rfl
             have z5:=i9.at (i:=5) rfl
             have z6:=i9.at (i:=6) rfl
             have z7:=i9.at (i:=7) rfl
             have z8:=i9.at (i:=8) rfl
             have hba:=(Below.refl V2.heap.size V2).alloc (Nat.le_refl _) (.cells #[.string (S q.nm),.string (S q.vs),.slice d1 y1 f1,.slice d2 y2 f2,.slice d3 y3 f3,.slice d4 y4 f4,.slice d5 y5 f5,.slice d6 y6 f6,.bool q.ess] 40)
             have ia:=Blk.Is.new V2 40 #[.string (S q.nm),.string (S q.vs),.slice d1 y1 f1,.slice d2 y2 f2,.slice d3 y3 f3,.slice d4 y4 f4,.slice d5 y5 f5,.slice d6 y6 f6,.bool q.ess]
             obtain ⟨V4,hV4⟩:∃ V4,V2.alloc (.cells #[.string (S q.nm),.string (S q.vs),.slice d1 y1 f1,.slice d2 y2 f2,.slice d3 y3 f3,.slice d4 y4 f4,.slice d5 y5 f5,.slice d6 y6 f6,.bool q.ess] 40) = V4:=⟨_,rfl⟩
             rw [hV4] at hba ia
             have acc4:=(HA2.out).on hba
             have hB4:Below wT.heap.size wT V4:=HW2.out.trans (hba.mono HW2.out.size)
             have hin:Rc.In 0 wT.heap.size wT (fun u=>PkC u [.string (S q.nm),.string (S q.vs),.slice d1 y1 f1,.slice d2 y2 f2,.slice d3 y3 f3,.slice d4 y4 f4,.slice d5 y5 f5,.slice d6 y6 f6,.bool q.ess] q):=Rc.in_low fun u hu=>⟨_,_,_,_,_,_,rfl,HH.out.below hu⟩
             have hin4:=hin.on (Blk.Chg.ofBelow' (S:=fun k=>k < 0 ∨ wT.heap.size ≤ k) ⟨hB4.os,hB4.tape,hB4.output,hB4.size,fun k hk=>hB4.block k hk⟩)
             have hlow:∀ g,Value.ownBlock (.slice qa K2 qc) = some g → g < 0 ∨ wT.heap.size ≤ g:=fun g hg=>by
              obtain ⟨_,ho⟩:=HA.out.own
              exact .inr (Rl.own_lt ho hg).1
             have own4:∃ ys,V4.ownsRow wT.heap.size 40 9 (.slice qa K2 qc) K2 ys:=by
              have:=acc4.own
              rwa [HKL.out] at this
             have hsz4:wT.heap.size ≤ V4.heap.size:=hB4.size
             have AC4:=Lib.hid acc4
             have IN4:=Lib.hid hin4
             have LO:=Lib.hid hlow
             have B4:=Lib.hid hB4
             have I4:=Lib.hid ia
             have OW:=Lib.hid own4
             have SZ:=Lib.hid hsz4
             have HV4:=Lib.hid hV4
             have hk1:(K2 + 1) * 184 ≤ 140737488355328:=by omega
             have hk2:K2 + 1 ≤ 4611686018427387904:=by omega
             clear hba ia hV4 acc4 hin hin4 hlow own4 hsz4 hB4 HA
             go_wp2_with (at_builtin; (try rw [HV4.out]); refine Rc.append_big Tryz.underlying22 Rc.infoPk rfl rfl (.tmp 146) (.tmp 148) rfl wT.heap.size (.slice qa K2 qc) K2 rfl OW.out V2.heap.size 1 rfl [.string (S q.nm),.string (S q.vs),.slice d1 y1 f1,.slice d2 y2 f2,.slice d3 y3 f3,.slice d4 y4 f4,.slice d5 y5 f5,.slice d6 y6 f6,.bool q.ess] rfl (fun j u hj=>I4.out.at (by rw [← Array.getElem?_toList]; exact hj)) (fun u hu=>by simp only [List.mem_cons,List.not_mem_nil,or_false] at hu; rcases hu with rfl | rfl | rfl | rfl | rfl | rfl | rfl | rfl | rfl <;> rfl) hk1 hk2 SZ.out ?_; intro v' w9 h2 h3 h4; have acc9:=AC4.out.more (cs:=[.string (S q.nm),.string (S q.vs),.slice d1 y1 f1,.slice d2 y2 f2,.slice d3 y3 f3,.slice d4 y4 f4,.slice d5 y5 f5,.slice d6 y6 f6,.bool q.ess]) rfl IN4.out SZ.out LO.out (Nat.zero_le _) (by rw [HKL.out]; exact h2) h3 h4; obtain ⟨a9,c9,e9⟩:=acc9.shape; rw [List.length_append,HKL.out,List.length_singleton] at e9; subst e9; have hb9:=Own.below_grown B4.out (Classical.choose_spec OW.out) h3 SZ.out; have AC9:=Lib.hid acc9; have HB9:=Lib.hid hb9; clear acc9 hb9 h2 h3 h4 AC4 IN4 LO B4 I4 OW HV4)
             go_roundg gB
             case measure=>omega
             case rel=>exact ⟨k + 1,K2 + 1,a9,c9,rfl,by go_num,by rw [HNX.out]; exact AC9,by rw [HNX.out]; show List.length _ = _; rw [List.length_append,HKL.out]; rfl,HB9,by omega,by omega,by omega⟩
           ·have hgek:¬ (K:Int) < (K:Int):=by omega
            obtain rfl:K = k:=by omega
            have hacc:=HA.out
            rw [List.take_of_length_le (by rw [HTN.out]; exact Nat.le_refl _)] at hacc
            have hpk:=Rc.Acc.slc nPk hacc (by have:=List.length_filter_le (inB X) T; rw [HTN.out] at this; omega)
            have hpk:Pks wz (.slice qa K2 qc) (T.filter (inB X)):=by
             have h1:Pks wz (.slice qa K2 qc) (T.filter (inB X)):=hpk
             exact h1
            have cy:=Sa.yhealthy_any _ _ wz hpk (fun x hx=>HLT.out x (List.mem_filter.1 hx).1)
            have hgood:Sa.heaB (T.filter (inB X)) = true:=by
             have:=hea_part HSH.out HTA.out HHT.out
             rwa [HEX.out] at this
            rw [hgood] at cy
            have KZ:=Lib.hid (KT.out.trans (HBZ.out.mono KT.out.size))
            clear hacc hpk HA hgood HKL
            go_wp2_with fail
            refine cy.mono ?_
            rintro e wy ⟨rfl,ky⟩
            have KY:=Lib.hid (KZ.out.trans (ky.mono KZ.out.size))
            clear cy ky
            have ca:=awake_any wy (HV.out.on KY.out)
            go_wp2_with fail
            refine ca.mono ?_
            rintro e w9 ⟨rfl,k9⟩
            have hb:=KY.out.trans (k9.mono KY.out.size)
            clear ca
            go_wp2_with fail
            go_ret
            exact ⟨rfl,hb⟩
    ·have hEE:(E == E) = true:=by simp
     have hE1:(E == 0) = false:=by simpa using hE0
     clear hcy HCX
     have ca:=awake_any w5 (HV.out.on K5.out)
     go_wp2_with fail
     refine ca.mono ?_
     rintro e w9 ⟨rfl,k9⟩
     have hb:=K5.out.trans (k9.mono K5.out.size)
     clear ca
     go_wp2_with fail
     go_ret
     exact ⟨rfl,hb⟩
end Un
end Go.Proofs.YtmhpjjjjgakpiaaGreatDoor

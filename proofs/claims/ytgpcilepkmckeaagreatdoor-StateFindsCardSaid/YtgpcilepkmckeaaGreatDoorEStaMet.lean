/-
Which entries meet a clause: meets, isMet.
-/
import Derived.Test.YtgpcilepkmckeaaGreatDoorEStaDef
namespace Go.Proofs.YtgpcilepkmckeaaGreatDoor
open Go.RowKit
set_option linter.unusedSimpArgs false
set_option linter.unusedVariables false
namespace Sa
open Ver (Bs li li_len S S_self S_size S_li cmpV sameV holdsV orr)
open Rl (At Pv Ats Pvs Clss Slc LimA LimP LimC Vars may nmB isV aV pV nA nP mem_getD)
open Rc (Pk nPk PkV PkB Has En nEn Ens EnC CAt en_read)
open Ix (sat LimAt satisfies_any)
set_option maxRecDepth 100000 in
set_option maxHeartbeats 2000000 in
theorem meetsFn_any (a:At) (g:Nat) (q:Pk) (w:World) (hg:PkB w g q) (h1:LimAt a) (hq:q.Lim) (hv:Vars w) :
  Calls Tryz.prog 130 #[aV a,.pointer (some ⟨g,0,none⟩)] w fun e w'=>e = .returned (.bool (sat q a)) ∧ Below w.heap.size w w':=by
 obtain ⟨a1,n1,c1,a2,n2,c2,a3,n3,c3,a4,n4,c4,a5,n5,c5,a6,n6,c6,i0,h2⟩:=hg
 have hb1:=(Below.refl w.heap.size w).alloc (Nat.le_refl _) (.cells #[.string (S a.1),.int .i64 a.2.1,.string (S a.2.2)] 56)
 have i1:=Blk.Is.new w 56 #[.string (S a.1),.int .i64 a.2.1,.string (S a.2.2)]
 have i0':=i0.alloc (.cells #[.string (S a.1),.int .i64 a.2.1,.string (S a.2.2)] 56)
 have ca:=satisfies_any _ q a _ ⟨_,_,_,_,_,_,rfl,h2.below hb1⟩ hq h1 (hv.on hb1)
 unfold aV at *
 obtain ⟨W,hW⟩:∃ W,w.alloc (.cells #[.string (S a.1),.int .i64 a.2.1,.string (S a.2.2)] 56) = W:=⟨_,rfl⟩
 rw [hW] at hb1 i1 i0' ca
 have c0x:=i0'.at (i:=0) rfl
 have c1x:=i0'.at (i:=1) rfl
 have c2x:=i0'.at (i:=2) rfl
 have c3x:=i0'.at (i:=3) rfl
 have c4x:=i0'.at (i:=4) rfl
 have c5x:=i0'.at (i:=5) rfl
 have c6x:=i0'.at (i:=6) rfl
 have c7x:=i0'.at (i:=7) rfl
 have c8x:=i0'.at (i:=8) rfl
 have d0x:=i1.at (i:=0) rfl
 have d1x:=i1.at (i:=1) rfl
 have d2x:=i1.at (i:=2) rfl
 have HB:=Lib.hid hb1
 clear hb1 i1 i0' i0 hv h1 h2 hq
 generalize sat q a = T at *
 go_enter Tryz.func130,Tryz.ntmps130
 go_wp2_with fail
 refine ca.mono ?_
 rintro e w1 ⟨rfl,k1⟩
 have hb1:=HB.out.trans (k1.mono HB.out.size)
 clear ca
 go_wp2_with fail
 go_ret
 exact ⟨rfl,hb1⟩
set_option maxRecDepth 100000 in
set_option maxHeartbeats 8000000 in
theorem indexAtomC_any (v:Value) (l:List At) (g:Nat) (q:Pk) (w:World) (h:Ats w v l) (hg:PkB w g q) (hL:LimA l) (hq:q.Lim) (hm:Vars w) :
  Calls Tryz.prog 145 #[v,.func (.func 130) #[] #[.pointer (some ⟨g,0,none⟩)]] w fun e w'=>∃ i:Int,e = .returned (.int .i64 i) ∧ (0 ≤ i ↔ l.any (sat q) = true) ∧ Below w.heap.size w w':=by
 obtain ⟨sa,cap,rfl⟩:=h.shape
 obtain ⟨G,hG⟩:∃ G,l.any (sat q) = G:=⟨_,rfl⟩
 have HG:=Lib.hid hG
 rw [hG]
 have H:=Lib.hid h
 have HPB:=Lib.hid hg
 have HL:=Lib.hid hL
 have HM:=Lib.hid hm
 obtain ⟨n,hn⟩:∃ n,l.length = n:=⟨_,rfl⟩
 have HN:=Lib.hid hn
 rw [hn]
 clear hn hG h hg hL hm
 go_enter Tryz.func145,Tryz.ntmps145
 go_wp2_with fail
 go_loopg [8] n (fun gf s8 wx=>∃ k:Nat,s8 = .int .i64 k ∧ Below w.heap.size w wx ∧ Hid (∀ j,j < k → sat q (l.getD j nA) = false) ∧ k ≤ n ∧ n ≤ k + gf)
 case atStart=>exact ⟨0,rfl,Below.refl _ _,fun j hj=>absurd hj (by omega),by omega,by omega⟩
 case round =>
  obtain ⟨k,rfl,hbw,HE,hkn,hfu⟩:=hrel
  by_cases hlt:k < n
  ·obtain ⟨g',rfl⟩:∃ g',gk = g' + 1:=⟨gk - 1,by omega⟩
   have hlt':(k:Int) < (n:Int):=by omega
   have hk0:(0:Int) ≤ k:=by omega
   have hkl:k < l.length:=by rw [HN.out]; exact hlt
   obtain ⟨_,a',cap',e1,_,hcells⟩:=H.out.below hbw
   simp only [Value.slice.injEq,true_and] at e1
   obtain ⟨rfl,rfl⟩:=e1
   obtain ⟨kb,off,rfl,hcl2⟩:=hcells (by omega)
   obtain ⟨x0,x1,x2⟩:=hcl2 k hkl
   rw [Nat.mul_comm 3 k] at x0 x1 x2
   have hmem:=mem_getD (z:=nA) hkl
   have hlim:=HL.out _ hmem
   have ca:=meetsFn_any (l.getD k nA) g q wr (HPB.out.below hbw) hlim hq (HM.out.on hbw)
   have hyes:=fun h=>Rc.any_at (p:=sat q) (z:=nA) hkl h
   have HY:=Lib.hid hyes
   unfold aV at ca
   generalize hx:l.getD k nA = x at *
   have HX:=Lib.hid hx
   have HBW:=Lib.hid hbw
   clear hcl2 hcells hx hyes hmem hlim hbw
   cases hw:sat q x with
   | true =>
    rw [hw] at ca
    have hG:G = true:=by rw [← HG.out]; exact HY.out hw
    subst hG
    clear HG HY HX HE hw
    go_wp2_with fail
    refine ca.mono ?_
    rintro e w1 ⟨rfl,k1⟩
    have hb1:=HBW.out.trans (k1.mono HBW.out.size)
    go_wp2_with fail
    go_ret
    exact ⟨k,rfl,by simp [hk0],hb1⟩
   | false =>
    rw [hw] at ca
    have HE2:Hid (∀ j,j < k + 1 → sat q (l.getD j nA) = false):=fun j hj=>by
     by_cases e:j = k
     ·rw [e,HX.out,hw]
     ·exact HE.out j (by omega)
    clear HY HX HE hw
    go_wp2_with fail
    refine ca.mono ?_
    rintro e w1 ⟨rfl,k1⟩
    have hb1:=HBW.out.trans (k1.mono HBW.out.size)
    clear ca k1
    go_wp2_with fail
    go_roundg g'
    case measure=>omega
    case rel=>exact ⟨k + 1,by go_num,hb1,HE2.out,by omega,by omega⟩
  ·have hge:¬ (k:Int) < (n:Int):=by omega
   obtain rfl:k = n:=by omega
   have hG:G = false:=by rw [← HG.out]; exact Rc.any_no (z:=nA) fun j hj=>HE.out j (by rw [← HN.out]; exact hj)
   subst hG
   clear HG HE
   have HBW:=Lib.hid hbw
   clear hbw
   go_wp2_with fail
   go_ret
   exact ⟨-1,rfl,by simp,HBW.out⟩
set_option maxRecDepth 100000 in
theorem containsAtomC_any (v:Value) (l:List At) (g:Nat) (q:Pk) (w:World) (h:Ats w v l) (hg:PkB w g q) (hL:LimA l) (hq:q.Lim) (hm:Vars w) :
  Calls Tryz.prog 129 #[v,.func (.func 130) #[] #[.pointer (some ⟨g,0,none⟩)]] w fun e w'=>e = .returned (.bool (l.any (sat q))) ∧ Below w.heap.size w w':=by
 have ca:=indexAtomC_any v l g q w h hg hL hq hm
 obtain ⟨sa,cap,rfl⟩:=h.shape
 generalize l.any (sat q) = G at *
 generalize l.length = n at *
 clear h hg hL hm
 go_enter Tryz.func129,Tryz.ntmps129
 go_wp2_with fail
 refine ca.mono ?_
 rintro e w1 ⟨i,rfl,hi,k1⟩
 clear ca
 cases G with
 | true =>
  have h0:(0:Int) ≤ i:=hi.2 rfl
  clear hi
  go_wp2_with fail
  go_ret
  exact ⟨rfl,k1⟩
 | false =>
  have h0:¬ (0:Int) ≤ i:=fun h=>by simpa using hi.1 h
  clear hi
  go_wp2_with fail
  go_ret
  exact ⟨by simp; omega,k1⟩
set_option maxRecDepth 100000 in
set_option maxHeartbeats 4000000 in
theorem meets_any (v1 v2:Value) (q:Pk) (c:List At) (w:World) (h1:PkV w v1 q) (h2:Ats w v2 c) (l1:q.Lim) (l2:LimA c) (hv:Vars w) :
  Calls Tryz.prog 112 #[v1,v2] w fun e w'=>e = .returned (.bool (cmet q c)) ∧ Below w.heap.size w w':=by
 obtain ⟨y1,y2,y3,y4,y5,y6,rfl,gg⟩:=h1
 have hb1:=(Below.refl w.heap.size w).alloc (Nat.le_refl _) (.cells #[.string (S q.nm),.string (S q.vs),y1,y2,y3,y4,y5,y6,.bool q.ess] 40)
 have i1:=Blk.Is.new w 40 #[.string (S q.nm),.string (S q.vs),y1,y2,y3,y4,y5,y6,.bool q.ess]
 obtain ⟨W,hW⟩:∃ W,w.alloc (.cells #[.string (S q.nm),.string (S q.vs),y1,y2,y3,y4,y5,y6,.bool q.ess] 40) = W:=⟨_,rfl⟩
 rw [hW] at hb1 i1
 have hQ:PkB W w.heap.size q:=by
  obtain ⟨b1,d1,rfl⟩:=gg.pre.shape
  obtain ⟨b2,d2,rfl⟩:=gg.dep.shape
  obtain ⟨b3,d3,rfl⟩:=gg.rcm.shape
  obtain ⟨b4,d4,rfl⟩:=gg.con.shape
  obtain ⟨b5,d5,rfl⟩:=gg.brk.shape
  obtain ⟨b6,d6,rfl⟩:=gg.prv.shape
  exact ⟨_,_,_,_,_,_,_,_,_,_,_,_,_,_,_,_,_,_,i1,gg.below hb1⟩
 have ca:=containsAtomC_any v2 c w.heap.size q W (h2.below hb1) hQ l2 l1 (hv.on hb1)
 have HB:=Lib.hid hb1
 have hs:cmet q c = c.any (sat q):=rfl
 rw [hs]
 generalize c.any (sat q) = A at *
 obtain ⟨sa,cap,rfl⟩:=h2.shape
 generalize c.length = n at *
 generalize q.ess = F at *
 generalize S q.nm = N3 at *
 generalize S q.vs = N4 at *
 clear hb1 i1 hv gg l1 l2 h2 hs hQ
 go_enter Tryz.func112,Tryz.ntmps112
 go_wp2_with fail
 refine ca.mono ?_
 rintro e w1 ⟨rfl,k1⟩
 have hb1:=HB.out.trans (k1.mono HB.out.size)
 clear ca
 go_wp2_with fail
 go_ret
 exact ⟨rfl,hb1⟩
set_option maxRecDepth 100000 in
set_option maxHeartbeats 8000000 in
theorem isMet_any (v1 v2:Value) (s:List En) (c:List At) (w:World) (h:Ens w v1 s) (hc:Ats w v2 c) (hL:LimS s) (hC:LimA c) (hv:Vars w) :
  Calls Tryz.prog 84 #[v1,v2] w fun e w'=>e = .returned (.bool (metB s c)) ∧ Below w.heap.size w w':=by
 obtain ⟨sa,cap,rfl⟩:=h.shape
 obtain ⟨ca0,ccap,ec⟩:=hc.shape
 obtain ⟨G,hG⟩:∃ G,metB s c = G:=⟨_,rfl⟩
 have HG:=Lib.hid hG
 rw [hG]
 have H:=Lib.hid h
 have HC:=Lib.hid hc
 have HL:=Lib.hid hL
 have HLC:=Lib.hid hC
 have HV:=Lib.hid hv
 obtain ⟨n,hn⟩:∃ n,s.length = n:=⟨_,rfl⟩
 have HN:=Lib.hid hn
 rw [hn]
 generalize c.length = cn at ec
 subst ec
 clear hn hG h hc hL hC hv
 go_enter Tryz.func84,Tryz.ntmps84
 go_wp2_with fail
 go_loopg [9] n (fun gf s9 wx=>∃ k:Nat,s9 = .int .i64 k ∧ Hid (Below w.heap.size w wx) ∧ Hid (∀ j,j < k → metJ s c j = false) ∧ k ≤ n ∧ n ≤ k + gf)
 case atStart=>exact ⟨0,rfl,Below.refl _ _,Lib.hid (fun j hj=>absurd hj (by omega)),by omega,by omega⟩
 case round =>
  obtain ⟨k,rfl,HBW,HE,hkn,hfu⟩:=hrel
  by_cases hlt:k < n
  ·obtain ⟨g',rfl⟩:∃ g',gk = g' + 1:=⟨gk - 1,by omega⟩
   have hlt':(k:Int) < (n:Int):=by omega
   have hk0:(0:Int) ≤ k:=by omega
   have hkl:k < s.length:=by rw [HN.out]; exact hlt
   obtain ⟨_,a',cap',e1,_,hcells⟩:=H.out.below HBW.out
   simp only [Value.slice.injEq,true_and] at e1
   obtain ⟨rfl,rfl⟩:=e1
   obtain ⟨kb,off,rfl,hcl2⟩:=hcells (by omega)
   obtain ⟨a1,n1,c1,a2,n2,c2,a3,n3,c3,a4,n4,c4,a5,n5,c5,a6,n6,c6,⟨x0,x1,x2,x3,x4,x5,x6,x7,x8,x9,x10⟩,hh⟩:=en_read (hcl2 k hkl)
   rw [Nat.mul_comm 11 k] at x0 x1 x2 x3 x4 x5 x6 x7 x8 x9 x10
   have hlim:=HL.out _ (mem_getD (z:=nEn) hkl)
   have hyes:=fun h=>metB_yes (s:=s) (c:=c) hkl h
   have hmj:metJ s c k = ((s.getD k nEn).cfg && cmet (s.getD k nEn).pk c):=rfl
   obtain ⟨x,hx⟩:∃ x,s.getD k nEn = x:=⟨_,rfl⟩
   rw [hx] at x0 x1 x8 x9 x10 hlim hmj hh
   have hb2:=(Below.refl wr.heap.size wr).alloc (Nat.le_refl _) (.cells #[.string (S x.pk.nm),.string (S x.pk.vs),.slice a1 n1 c1,.slice a2 n2 c2,.slice a3 n3 c3,.slice a4 n4 c4,.slice a5 n5 c5,.slice a6 n6 c6,.bool x.pk.ess,.bool x.cfg,.bool x.hld] 45)
   have i2:=Blk.Is.new wr 45 #[.string (S x.pk.nm),.string (S x.pk.vs),.slice a1 n1 c1,.slice a2 n2 c2,.slice a3 n3 c3,.slice a4 n4 c4,.slice a5 n5 c5,.slice a6 n6 c6,.bool x.pk.ess,.bool x.cfg,.bool x.hld]
   obtain ⟨V,hV⟩:∃ V,wr.alloc (.cells #[.string (S x.pk.nm),.string (S x.pk.vs),.slice a1 n1 c1,.slice a2 n2 c2,.slice a3 n3 c3,.slice a4 n4 c4,.slice a5 n5 c5,.slice a6 n6 c6,.bool x.pk.ess,.bool x.cfg,.bool x.hld] 45) = V:=⟨_,rfl⟩
   rw [hV] at hb2 i2
   have hbV:=HBW.out.trans (hb2.mono HBW.out.size)
   have BV:=Lib.hid hbV
   have y0:=i2.at (i:=0) rfl
   have y1:=i2.at (i:=1) rfl
   have y2:=i2.at (i:=2) rfl
   have y3:=i2.at (i:=3) rfl
   have y4:=i2.at (i:=4) rfl
   have y5:=i2.at (i:=5) rfl
   have y6:=i2.at (i:=6) rfl
   have y7:=i2.at (i:=7) rfl
   have y8:=i2.at (i:=8) rfl
   have y9:=i2.at (i:=9) rfl
   have cm:=meets_any (.agg #[.string (S x.pk.nm),.string (S x.pk.vs),.slice a1 n1 c1,.slice a2 n2 c2,.slice a3 n3 c3,.slice a4 n4 c4,.slice a5 n5 c5,.slice a6 n6 c6,.bool x.pk.ess]) _ x.pk c V ⟨_,_,_,_,_,_,rfl,hh.below hb2⟩ (HC.out.below hbV) hlim HLC.out (HV.out.on hbV)
   have HY:=Lib.hid hyes
   have HMJ:=Lib.hid hmj
   have hu:=hV
   clear hcl2 hcells hx hyes hlim hmj hb2 i2 hbV hV hh HBW
   cases hcf:x.cfg with
   | false =>
    rw [hcf] at x9 y9 hu
    have HE2:Hid (∀ j,j < k + 1 → metJ s c j = false):=Lib.hid fun j hj=>by
     by_cases e:j = k
     ·rw [e,HMJ.out,hcf]; rfl
     ·exact HE.out j (by omega)
    clear HE HY HMJ hcf cm
    go_wp2_with fail
    go_roundg g'
    case measure=>omega
    case rel=>exact ⟨k + 1,by go_num,BV,HE2,by omega,by omega⟩
   | true =>
    rw [hcf] at x9 y9 hu
    cases hm:cmet x.pk c with
    | true =>
     rw [hm] at cm
     have hG:G = true:=by rw [← HG.out]; exact HY.out (by rw [HMJ.out,hcf,hm]; rfl)
     subst hG
     clear HG HY HMJ HE hm hcf
     go_wp2_with fail
     refine cm.mono ?_
     rintro e w4 ⟨rfl,k4⟩
     have hb4:=BV.out.trans (k4.mono BV.out.size)
     clear cm
     go_wp2_with fail
     go_ret
     exact ⟨rfl,hb4⟩
    | false =>
     rw [hm] at cm
     have HE2:Hid (∀ j,j < k + 1 → metJ s c j = false):=Lib.hid fun j hj=>by
      by_cases e:j = k
      ·rw [e,HMJ.out,hm,Bool.and_false]
      ·exact HE.out j (by omega)
     clear HE HY HMJ hm hcf
     go_wp2_with fail
     refine cm.mono ?_
     rintro e w4 ⟨rfl,k4⟩
     have B4:=Lib.hid (BV.out.trans (k4.mono BV.out.size))
     clear cm k4
     go_wp2_with fail
     go_roundg g'
     case measure=>omega
     case rel=>exact ⟨k + 1,by go_num,B4,HE2,by omega,by omega⟩
  ·have hge:¬ (k:Int) < (n:Int):=by omega
   obtain rfl:k = n:=by omega
   have hG:G = false:=by rw [← HG.out]; exact metB_no fun j hj=>HE.out j (by rw [← HN.out]; exact hj)
   subst hG
   clear HG HE
   go_wp2_with fail
   go_ret
   exact ⟨rfl,HBW.out⟩
end Sa
end Go.Proofs.YtgpcilepkmckeaaGreatDoor

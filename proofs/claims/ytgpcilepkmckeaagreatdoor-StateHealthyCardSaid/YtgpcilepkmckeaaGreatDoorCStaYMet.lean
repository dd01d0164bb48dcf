/-
The reference's Met: is a clause met by one of these?
-/
import Derived.Test.YtgpcilepkmckeaaGreatDoorCStaVis
import Derived.Test.YtgpcilepkmckeaaGreatDoorCIxYSat
namespace Go.Proofs.YtgpcilepkmckeaaGreatDoor
open Go.RowKit
set_option linter.unusedSimpArgs false
set_option linter.unusedVariables false
namespace Sa
open Ver (Bs li li_len S S_self S_size S_li)
open Rl (At Pv Ats Pvs Clss Slc LimA LimP LimC Vars aV nA mem_getD)
open Rc (Pk nPk PkV PkB Has En nEn Ens EnC CAt Pks pk_read)
open Ix (sat LimAt ysat_any)
set_option maxRecDepth 100000 in
set_option maxHeartbeats 8000000 in
theorem ymet_any (v1 v2:Value) (c:List At) (l:List Pk) (w:World) (h1:Ats w v1 c) (h2:Pks w v2 l) (hL:∀ x ∈ l,x.Lim) (hC:LimA c) :
  Calls Tryz.prog 25 #[v1,v2] w fun e w'=>e = .returned (.bool (metR l c)) ∧ Below w.heap.size w w':=by
 obtain ⟨sa,scap,rfl⟩:=h1.shape
 obtain ⟨la,lcap,rfl⟩:=h2.shape
 obtain ⟨G,hG⟩:∃ G,metR l c = G:=⟨_,rfl⟩
 have HG:=Lib.hid hG
 rw [hG]
 have H1:=Lib.hid h1
 have H2:=Lib.hid h2
 have HL:=Lib.hid hL
 have HC:=Lib.hid hC
 obtain ⟨m,hm⟩:∃ m,c.length = m:=⟨_,rfl⟩
 have HM:=Lib.hid hm
 obtain ⟨n,hn⟩:∃ n,l.length = n:=⟨_,rfl⟩
 have HN:=Lib.hid hn
 have hm0:=h1.1
 have hn0:=h2.1
 rw [hm] at hm0
 rw [hn] at hn0
 rw [hm,hn]
 clear hm hn hG h1 h2 hL hC
 go_enter Tryz.func25,Tryz.ntmps25
 go_wp2_with fail
 go_loopg [11] m (fun gf s11 wx=>∃ i:Nat,s11 = .int .i64 i ∧ Hid (Below w.heap.size w wx) ∧ Hid (∀ j,j < i → (l.any fun p=>sat p (c.getD j nA)) = false) ∧ i ≤ m ∧ m ≤ i + gf)
 case atStart=>exact ⟨0,rfl,Below.refl _ _,Lib.hid (fun j hj=>absurd hj (by omega)),by omega,by omega⟩
 case round =>
  obtain ⟨i,rfl,HB,HE,him,hfu⟩:=hrel
  by_cases hi:i < m
  ·obtain ⟨g',rfl⟩:∃ g',gk = g' + 1:=⟨gk - 1,by omega⟩
   have hi':(i:Int) < (m:Int):=by omega
   have hi0:(0:Int) ≤ i:=by omega
   have hil:i < c.length:=by rw [HM.out]; exact hi
   obtain ⟨_,a',cap',e1,_,hcells⟩:=H1.out.below HB.out
   rw [HM.out] at e1
   simp only [Value.slice.injEq,true_and] at e1
   obtain ⟨rfl,rfl⟩:=e1
   obtain ⟨kb,off,rfl,hat⟩:=hcells (by omega)
   obtain ⟨x0,x1,x2⟩:=hat i hil
   rw [Nat.mul_comm 3 i] at x0 x1 x2
   have hlim:=HC.out _ (mem_getD (z:=nA) hil)
   obtain ⟨a,ha⟩:∃ a,c.getD i nA = a:=⟨_,rfl⟩
   rw [ha] at x0 x1 x2 hlim
   have hb2:=(Below.refl wr.heap.size wr).alloc (Nat.le_refl _) (.cells #[.string (S a.1),.int .i64 a.2.1,.string (S a.2.2)] 56)
   have i2:=Blk.Is.new wr 56 #[.string (S a.1),.int .i64 a.2.1,.string (S a.2.2)]
   obtain ⟨ba,hba⟩:∃ ba,wr.heap.size = ba:=⟨_,rfl⟩
   obtain ⟨V0,hV0⟩:∃ V0,wr.alloc (.cells #[.string (S a.1),.int .i64 a.2.1,.string (S a.2.2)] 56) = V0:=⟨_,rfl⟩
   rw [hV0] at hb2 i2
   rw [hba] at i2
   have B0:=Lib.hid (HB.out.trans (hb2.mono HB.out.size))
   have IA:=Lib.hid i2
   have HLA:=Lib.hid hlim
   have HAI:=Lib.hid ha
   have HIL:=Lib.hid hil
   have hu:=hV0
   clear hcells hat hlim ha hb2 i2 hV0 HB hil
   go_wp2_with fail
   clear hu x0 x1 x2
   go_loopg [17] n (fun gf s17 wx=>∃ k:Nat,s17 = .int .i64 k ∧ Hid (Below w.heap.size w wx ∧ Blk.Is wx ba 56 #[.string (S a.1),.int .i64 a.2.1,.string (S a.2.2)]) ∧ Hid (∀ j,j < k → sat (l.getD j nPk) a = false) ∧ k ≤ n ∧ n ≤ k + gf)
   case atStart=>exact ⟨0,rfl,Lib.hid ⟨B0.out,IA.out⟩,Lib.hid (fun j hj=>absurd hj (by omega)),by omega,by omega⟩
   case round =>
    clear B0 IA
    obtain ⟨k,rfl,HBI,HR,hkn,hfu3⟩:=hrel
    by_cases hk:k < n
    ·obtain ⟨g3,rfl⟩:∃ g3,gk = g3 + 1:=⟨gk - 1,by omega⟩
     have hk':(k:Int) < (n:Int):=by omega
     have hk0:(0:Int) ≤ k:=by omega
     have hkl:k < l.length:=by rw [HN.out]; exact hk
     obtain ⟨_,a',cap',e1,_,hcells⟩:=H2.out.below HBI.out.1
     rw [HN.out] at e1
     simp only [Value.slice.injEq,true_and] at e1
     obtain ⟨rfl,rfl⟩:=e1
     obtain ⟨kc,offc,rfl,hcl2⟩:=hcells (by omega)
     obtain ⟨a1,n1,c1,a2,n2,c2,a3,n3,c3,a4,n4,c4,a5,n5,c5,a6,n6,c6,⟨x0,x1,x2,x3,x4,x5,x6,x7,x8⟩,hh⟩:=pk_read (hcl2 k hkl)
     rw [Nat.mul_comm 9 k] at x0 x1 x2 x3 x4 x5 x6 x7 x8
     have hlim:=HL.out _ (mem_getD (z:=nPk) hkl)
     obtain ⟨x,hx⟩:∃ x,l.getD k nPk = x:=⟨_,rfl⟩
     rw [hx] at x0 x1 x8 hlim hh
     have hb2:=(Below.refl wr.heap.size wr).alloc (Nat.le_refl _) (.cells #[.string (S x.nm),.string (S x.vs),.slice a1 n1 c1,.slice a2 n2 c2,.slice a3 n3 c3,.slice a4 n4 c4,.slice a5 n5 c5,.slice a6 n6 c6,.bool x.ess] 40)
     have i2:=Blk.Is.new wr 40 #[.string (S x.nm),.string (S x.vs),.slice a1 n1 c1,.slice a2 n2 c2,.slice a3 n3 c3,.slice a4 n4 c4,.slice a5 n5 c5,.slice a6 n6 c6,.bool x.ess]
     obtain ⟨V,hV⟩:∃ V,wr.alloc (.cells #[.string (S x.nm),.string (S x.vs),.slice a1 n1 c1,.slice a2 n2 c2,.slice a3 n3 c3,.slice a4 n4 c4,.slice a5 n5 c5,.slice a6 n6 c6,.bool x.ess] 40) = V:=⟨_,rfl⟩
     rw [hV] at hb2 i2
     have hbV:=HBI.out.1.trans (hb2.mono HBI.out.1.size)
     have iaV:=Rl.is_on HBI.out.2 hb2
     have BV:=Lib.hid hbV
     have IAV:=Lib.hid iaV
     have d0:=iaV.at (i:=0) rfl
     have d1:=iaV.at (i:=1) rfl
     have d2:=iaV.at (i:=2) rfl
     have z0:=i2.at (i:=0) rfl
     have z1:=i2.at (i:=1) rfl
     have z2:=i2.at (i:=2) rfl
     have z3:=i2.at (i:=3) rfl
     have z4:=i2.at (i:=4) rfl
     have z5:=i2.at (i:=5) rfl
     have z6:=i2.at (i:=6) rfl
     have z7:=i2.at (i:=7) rfl
     have z8:=i2.at (i:=8) rfl
     have cs:=ysat_any (.agg #[.string (S x.nm),.string (S x.vs),.slice a1 n1 c1,.slice a2 n2 c2,.slice a3 n3 c3,.slice a4 n4 c4,.slice a5 n5 c5,.slice a6 n6 c6,.bool x.ess]) x a V ⟨_,_,_,_,_,_,rfl,hh.below hb2⟩ hlim HLA.out
     unfold aV at cs
     have hu:=hV
     have HX:=Lib.hid hx
     have HKL:=Lib.hid hkl
     clear hcells hcl2 hb2 i2 hbV iaV hV hlim HBI hx hkl hh
     cases hs:sat x a with
     | true =>
      rw [hs] at cs
      have hG:G = true:=by
       rw [← HG.out]
       refine Rc.any_at (p:=fun a=>l.any fun p=>sat p a) (z:=nA) HIL.out ?_
       show (l.any fun p=>sat p (c.getD i nA)) = true
       rw [HAI.out]
       exact Rc.any_at (p:=fun p=>sat p a) (z:=nPk) HKL.out (by show sat (l.getD k nPk) a = true; rw [HX.out,hs])
      subst hG
      clear HR HE HG hs
      go_wp2_with fail
      refine cs.mono ?_
      rintro e w4 ⟨rfl,k4⟩
      have hb4:=BV.out.trans (k4.mono BV.out.size)
      clear cs
      go_wp2_with fail
      go_ret
      exact ⟨rfl,hb4⟩
     | false =>
      rw [hs] at cs
      have HR2:Hid (∀ j,j < k + 1 → sat (l.getD j nPk) a = false):=Lib.hid fun j hj=>by
       by_cases e:j = k
       ·rw [e,HX.out,hs]
       ·exact HR.out j (by omega)
      clear HR hs
      go_wp2_with fail
      refine cs.mono ?_
      rintro e w4 ⟨rfl,k4⟩
      have B4:=Lib.hid (⟨BV.out.trans (k4.mono BV.out.size),Rl.is_on IAV.out k4⟩:Below w.heap.size w w4 ∧ Blk.Is w4 ba 56 #[.string (S a.1),.int .i64 a.2.1,.string (S a.2.2)])
      clear cs k4
      go_wp2_with fail
      go_roundg g3
      case measure=>omega
      case rel=>exact ⟨k + 1,by go_num,B4,HR2,by omega,by omega⟩
    ·have hge:¬ (k:Int) < (n:Int):=by omega
     obtain rfl:k = n:=by omega
     have HE2:Hid (∀ j,j < i + 1 → (l.any fun p=>sat p (c.getD j nA)) = false):=Lib.hid fun j hj=>by
      by_cases e:j = i
      ·rw [e,HAI.out]
       exact Rc.any_no (p:=fun p=>sat p a) (z:=nPk) fun t ht=>HR.out t (by rw [← HN.out]; exact ht)
      ·exact HE.out j (by omega)
     have B4:=Lib.hid HBI.out.1
     clear HR HE HBI
     go_wp2_with fail
     go_roundg g'
     case measure=>omega
     case rel=>exact ⟨i + 1,by go_num,B4,HE2,by omega,by omega⟩
  ·have hgi:¬ (i:Int) < (m:Int):=by omega
   obtain rfl:i = m:=by omega
   have hG:G = false:=by rw [← HG.out]; exact Rc.any_no (p:=fun a=>l.any fun p=>sat p a) (z:=nA) fun j hj=>HE.out j (by rw [← HM.out]; exact hj)
   subst hG
   clear HE HG
   go_wp2_with fail
   go_ret
   exact ⟨rfl,HB.out⟩
end Sa
end Go.Proofs.YtgpcilepkmckeaaGreatDoor

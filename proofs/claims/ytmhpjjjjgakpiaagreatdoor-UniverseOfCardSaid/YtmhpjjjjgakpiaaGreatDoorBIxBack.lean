/-
The reference's MayAll, MayEntries. Slices of packages that a law writes out. Packages, the last first: a row of the call's own of packages whose lists came in.
-/
import Derived.Test.YtmhpjjjjgakpiaaGreatDoorBRecYMay
import Derived.Test.YtmhpjjjjgakpiaaGreatDoorBIxSat
import Derived.Test.YtmhpjjjjgakpiaaGreatDoorBIxNames
namespace Go.Proofs.YtmhpjjjjgakpiaaGreatDoor
open Go.RowKit
set_option linter.unusedSimpArgs false
set_option linter.unusedVariables false
namespace Rc
open Ver (Bs S S_size S_li sameV)
open Rl (mem_getD tcells)
theorem sameV_turn (a c:Bs):sameV c a = sameV a c:=by
 unfold sameV
 rw [Ver.cmpV_turn a c]
 have:decide (-Ver.cmpV a c = 0) = decide (Ver.cmpV a c = 0):=by
  rw [decide_eq_decide]; omega
 rw [this,Bool.and_comm (Ver.parse c).isSome]
set_option maxRecDepth 100000 in
set_option maxHeartbeats 8000000 in
theorem ymayAll_any (v:Value) (l:List Pk) (w:World) (h:Pks w v l) (hL:∀ x ∈ l,x.Lim)  :
  Calls Tryz.prog 23 #[v] w fun e w'=>e = .returned (.int .i64 (mayAll l)) ∧ Below w.heap.size w w':=by
 obtain ⟨sa,cap,rfl⟩:=h.shape
 obtain ⟨G,hG⟩:∃ G:Int,mayAll l = G:=⟨_,rfl⟩
 have hG2:=hG
 unfold mayAll at hG2
 rw [hG]
 have H:=Lib.hid h
 have HL:=Lib.hid hL
 skip
 have HG:=Lib.hid hG2
 obtain ⟨n,hn⟩:∃ n,l.length = n:=⟨_,rfl⟩
 have HN:=Lib.hid hn
 have hn4:=h.1
 rw [hn] at hn4 ⊢
 rw [hn] at hG2
 clear hn hG h hL 
 by_cases hmost:24 < n
 ·have hm':(24:Int) < (n:Int):=by omega
  rw [if_pos hmost] at hG2
  subst hG2
  clear HG
  go_enter Tryz.func23,Tryz.ntmps23
  go_wp2_with fail
  go_ret
  exact ⟨rfl,Below.refl _ _⟩
 ·have hm':¬ (24:Int) < (n:Int):=by omega
  rw [if_neg hmost] at hG2
  have HG2:=Lib.hid hG2
  clear hG2 HG
  go_enter Tryz.func23,Tryz.ntmps23
  go_wp2_with fail
  go_loopg [17] n (fun gf s1 wx=>∃ k:Nat,s1 = .int .i64 k ∧ Below w.heap.size w wx ∧ Hid (∀ j,j < k → mayK (l.getD j nPk) = 0) ∧ k ≤ n ∧ n ≤ k + gf)
  case atStart=>exact ⟨0,rfl,Below.refl _ _,fun j hj=>absurd hj (by omega),by omega,by omega⟩
  case round =>
   obtain ⟨k,rfl,hbw,HE,hkn,hfu⟩:=hrel
   by_cases hlt:k < n
   ·obtain ⟨g',rfl⟩:∃ g',gk = g' + 1:=⟨gk - 1,by omega⟩
    have hlt':(k:Int) < (n:Int):=by omega
    have hk0:(0:Int) ≤ k:=by omega
    have hkl:k < l.length:=by rw [HN.out]; exact hlt
    obtain ⟨_,a',cap',e1,_,hcells⟩:=H.out.below hbw
    simp only [Value.slice.injEq,true_and] at e1
    obtain ⟨rfl,rfl⟩:=e1
    obtain ⟨kb,off,rfl,hcl2⟩:=hcells (by omega)
    obtain ⟨a1,n1,c1,a2,n2,c2,a3,n3,c3,a4,n4,c4,a5,n5,c5,a6,n6,c6,⟨x0,x1,x2,x3,x4,x5,x6,x7,x8⟩,hh⟩:=pk_read (hcl2 k hkl)
    rw [Nat.mul_comm 9 k] at x0 x1 x2 x3 x4 x5 x6 x7 x8
    have hmem:=mem_getD (z:=nPk) hkl
    have hlim:=HL.out _ hmem
    generalize hx:l.getD k nPk = x at *
    have HX:=Lib.hid hx
    have hb2:=(Below.refl wr.heap.size wr).alloc (Nat.le_refl _) (.cells #[.string (S x.nm),.string (S x.vs),.slice a1 n1 c1,.slice a2 n2 c2,.slice a3 n3 c3,.slice a4 n4 c4,.slice a5 n5 c5,.slice a6 n6 c6,.bool x.ess] 40)
    have HB2:=Lib.hid (hbw.trans (hb2.mono hbw.size))
    have ca:=ymay_any _ x (wr.alloc (.cells #[.string (S x.nm),.string (S x.vs),.slice a1 n1 c1,.slice a2 n2 c2,.slice a3 n3 c3,.slice a4 n4 c4,.slice a5 n5 c5,.slice a6 n6 c6,.bool x.ess] 40)) ⟨_,_,_,_,_,_,rfl,hh.below hb2⟩ hlim
    obtain ⟨M,hM⟩:∃ M,mayK x = M:=⟨_,rfl⟩
    rw [hM] at ca
    have HM:=Lib.hid hM
    have CA:=Lib.hid ca
    have HMEM:=Lib.hid hmem
    clear hb2 hcells hcl2 hx hlim hh hmem hM ca hbw
    by_cases hz:M = 0
    ·subst hz
     go_wp2_with fail
     generalize wr.alloc (.cells #[.string (S x.nm),.string (S x.vs),.slice a1 n1 c1,.slice a2 n2 c2,.slice a3 n3 c3,.slice a4 n4 c4,.slice a5 n5 c5,.slice a6 n6 c6,.bool x.ess] 40) = W at *
     refine CA.out.mono ?_
     rintro e w1 ⟨rfl,k1⟩
     have hb1:=HB2.out.trans (k1.mono HB2.out.size)
     have HE2:Hid (∀ j,j < k + 1 → mayK (l.getD j nPk) = 0):=fun j hj=>by
      by_cases e:j = k
      ·rw [e,HX.out]; exact HM.out
      ·exact HE.out j (by omega)
     clear k1 HB2 CA HE HX HM HMEM
     go_wp2_with fail
     go_roundg g'
     case measure=>omega
     case rel=>exact ⟨k + 1,by go_num,hb1,HE2.out,by omega,by omega⟩
    ·have hne:(M != 0) = true:=by simp [hz]
     have hG:G = M:=by
      have h1:=HG2.out
      have h2:eachK l = M:=by
       have:=eachK_at (z:=nPk) (fun p=>p) (l:=l) (i:=k) (M:=M) (by rw [HN.out]; exact hlt) HE.out (by rw [HX.out]; exact HM.out) hz
       rwa [map_idP] at this
      rw [h2,if_pos hz] at h1
      exact h1.symm
     subst hG
     clear HG2 HM HX HE hz HMEM
     go_wp2_with fail
     generalize wr.alloc (.cells #[.string (S x.nm),.string (S x.vs),.slice a1 n1 c1,.slice a2 n2 c2,.slice a3 n3 c3,.slice a4 n4 c4,.slice a5 n5 c5,.slice a6 n6 c6,.bool x.ess] 40) = W at *
     refine CA.out.mono ?_
     rintro e w1 ⟨rfl,k1⟩
     have hb1:=HB2.out.trans (k1.mono HB2.out.size)
     go_wp2_with fail
     go_ret
     exact ⟨rfl,hb1⟩
   ·have hge:¬ (k:Int) < (n:Int):=by omega
    obtain rfl:k = n:=by omega
    have hz:eachK l = 0:=by
     have:=eachK_all (z:=nPk) (fun p=>p) (l:=l) (fun j hj=>HE.out j (by rw [← HN.out]; exact hj))
     rwa [map_idP] at this
    have hG3:=HG2.out
    rw [hz,if_neg (by simp)] at hG3
    have HG3:=Lib.hid hG3
    clear HG2 hz HE hG3
    have HBW:=Lib.hid hbw
    clear hbw
    go_wp2_with fail
    go_loopg [6,29] k (fun gf s6 s29 wx=>∃ (i m:Nat) (pa:Option Addr) (cp:Nat) (ns:List Bs),s6 = .slice pa m cp ∧ s29 = .int .i64 i ∧ Hid (wx.ownsRow w.heap.size 9 1 (.slice pa m cp) m (tcells ns)) ∧ Below w.heap.size w wx ∧ Hid (∀ j,j < i → (l.take j).any (again (l.getD j nPk)) = false) ∧ Hid (ns.length = m ∧ nmsOf (l.drop i) ns = nmsOf l []) ∧ Hid (∀ t,t ∈ ns ↔ ∃ j,j < i ∧ (l.getD j nPk).nm = t) ∧ m ≤ i ∧ i ≤ k ∧ k ≤ i + gf)
    case atStart=>exact ⟨0,0,none,0,[],rfl,rfl,Lib.hid (World.ownsRow_nil _ _ _ 1),HBW.out,fun j hj=>absurd hj (by omega),Lib.hid ⟨rfl,rfl⟩,Lib.hid (fun t=>⟨fun h=>(by cases h),fun ⟨j,hj,_⟩=>absurd hj (by omega)⟩),by omega,by omega,by omega⟩
    case round =>
     obtain ⟨i,m,pa,cp,ns,rfl,rfl,HO,hbw,HE,HNS,HIN,hmi,hin,hfu2⟩:=hrel
     by_cases hlt:i < k
     ·obtain ⟨g',rfl⟩:∃ g',gk = g' + 1:=⟨gk - 1,by omega⟩
      have hlt':(i:Int) < (k:Int):=by omega
      have hk0:(0:Int) ≤ i:=by omega
      have hkl:i < l.length:=by rw [HN.out]; exact hlt
      obtain ⟨_,a',cap',e1,_,hcells⟩:=H.out.below hbw
      simp only [Value.slice.injEq,true_and] at e1
      obtain ⟨rfl,rfl⟩:=e1
      obtain ⟨kb,off,rfl,hcl2⟩:=hcells (by omega)
      obtain ⟨a1,n1,c1,a2,n2,c2,a3,n3,c3,a4,n4,c4,a5,n5,c5,a6,n6,c6,⟨x0,x1,x2,x3,x4,x5,x6,x7,x8⟩,hh⟩:=pk_read (hcl2 i hkl)
      rw [Nat.mul_comm 9 i] at x0 x1 x2 x3 x4 x5 x6 x7 x8
      have hmem:=mem_getD (z:=nPk) hkl
      have hlim:=(HL.out _ hmem).vs
      have hd:l.drop i = l.getD i nPk :: l.drop (i + 1):=by
       rw [List.drop_eq_getElem_cons hkl,List.getD_eq_getElem?_getD,List.getElem?_eq_getElem hkl]; rfl
      have hE:=HNS.out.2
      rw [hd] at hE
      have hyes:=fun h=>twice_yes (l:=l) hkl h
      have HY:=Lib.hid hyes
      generalize hx:l.getD i nPk = x at *
      have HX:=Lib.hid hx
      have hE2:nmsOf (l.drop (i + 1)) (if x.nm ∈ ns then ns else ns ++ [x.nm]) = nmsOf l []:=hE
      have HE2:=Lib.hid hE2
      have HNL:=Lib.hid HNS.out.1
      have hb2:=(Below.refl wr.heap.size wr).alloc (Nat.le_refl _) (.cells #[.string (S x.nm),.string (S x.vs),.slice a1 n1 c1,.slice a2 n2 c2,.slice a3 n3 c3,.slice a4 n4 c4,.slice a5 n5 c5,.slice a6 n6 c6,.bool x.ess] 40)
      have i2:=Blk.Is.new wr 40 #[.string (S x.nm),.string (S x.vs),.slice a1 n1 c1,.slice a2 n2 c2,.slice a3 n3 c3,.slice a4 n4 c4,.slice a5 n5 c5,.slice a6 n6 c6,.bool x.ess]
      have HB2:=Lib.hid (hbw.trans (hb2.mono hbw.size))
      have HO2:=Lib.hid (Own.owns_below HO.out hb2)
      have HXL:=Lib.hid hlim
      obtain ⟨g0,hg0⟩:∃ g0,wr.heap.size = g0:=⟨_,rfl⟩
      obtain ⟨W,hW⟩:∃ W,wr.alloc (.cells #[.string (S x.nm),.string (S x.vs),.slice a1 n1 c1,.slice a2 n2 c2,.slice a3 n3 c3,.slice a4 n4 c4,.slice a5 n5 c5,.slice a6 n6 c6,.bool x.ess] 40) = W:=⟨_,rfl⟩
      rw [hW] at i2 HB2 HO2
      rw [hg0] at i2
      have HI2:=Lib.hid i2
      clear hb2 i2 hcells hcl2 hx hlim hh hmem hbw hE hE2 hd HO HNS hyes
      go_wp2_with fail
      clear hW hg0
      go_loopg [9,38] i (fun gf s9 s38 wx=>∃ (q:Nat) (b:Bool),s9 = .bool b ∧ s38 = .int .i64 q ∧ Below w.heap.size w wx ∧ Below W.heap.size W wx ∧ Hid (∀ j,j < q → again x (l.getD j nPk) = false) ∧ Hid (b = true ↔ ∃ j,j < q ∧ (l.getD j nPk).nm = x.nm) ∧ q ≤ i ∧ i ≤ q + gf)
      case atStart=>exact ⟨0,false,rfl,rfl,HB2.out,Below.refl _ _,Lib.hid (fun j hj=>absurd hj (by omega)),Lib.hid ⟨fun h=>(by cases h),fun ⟨j,hj,_⟩=>absurd hj (by omega)⟩,by omega,by omega⟩
      case round =>
       obtain ⟨q,b,rfl,rfl,hbw,hbu,HF,HB,hqi,hfu3⟩:=hrel
       by_cases hlq:q < i
       ·obtain ⟨g2,rfl⟩:∃ g2,gk = g2 + 1:=⟨gk - 1,by omega⟩
        have hlq':(q:Int) < (i:Int):=by omega
        have hq0:(0:Int) ≤ q:=by omega
        have hql:q < l.length:=by rw [HN.out]; omega
        obtain ⟨_,a',cap',e1,_,hcells⟩:=H.out.below hbw
        simp only [Value.slice.injEq,true_and] at e1
        obtain ⟨rfl,rfl⟩:=e1
        obtain ⟨kb',off',e3,hcl2⟩:=hcells (by omega)
        simp only [Option.some.injEq,Addr.mk.injEq,and_true] at e3
        obtain ⟨rfl,rfl⟩:=e3
        obtain ⟨p1,r1,d1,p2,r2,d2,p3,r3,d3,p4,r4,d4,p5,r5,d5,p6,r6,d6,⟨y0,y1,y2,y3,y4,y5,y6,y7,y8⟩,_⟩:=pk_read (hcl2 q hql)
        rw [Nat.mul_comm 9 q] at y0 y1 y2 y3 y4 y5 y6 y7 y8
        have hylim:=(HL.out _ (mem_getD (z:=nPk) hql)).vs
        have hb3:=(Below.refl wr.heap.size wr).alloc (Nat.le_refl _) (.cells (#[.string (S (l.getD q nPk).nm),.string (S (l.getD q nPk).vs),.slice p1 r1 d1,.slice p2 r2 d2,.slice p3 r3 d3,.slice p4 r4 d4,.slice p5 r5 d5,.slice p6 r6 d6,.bool (l.getD q nPk).ess]) 40)
        have j3:=Blk.Is.new wr 40 (#[.string (S (l.getD q nPk).nm),.string (S (l.getD q nPk).vs),.slice p1 r1 d1,.slice p2 r2 d2,.slice p3 r3 d3,.slice p4 r4 d4,.slice p5 r5 d5,.slice p6 r6 d6,.bool (l.getD q nPk).ess])
        generalize hy:l.getD q nPk = y at *
        have HYY:=Lib.hid hy
        have hX2:=Rl.is_on (Rl.is_on HI2.out hbu) hb3
        have HB3:=Lib.hid (hbw.trans (hb3.mono hbw.size))
        have HU3:=Lib.hid (hbu.trans (hb3.mono hbu.size))
        have dx0:=hX2.at (i:=0) rfl
        have dx1:=hX2.at (i:=1) rfl
        have f0:=j3.at (i:=0) rfl
        have f1:=j3.at (i:=1) rfl
        have hq:((S y.nm).toList == (S x.nm).toList) = decide (y.nm = x.nm):=Rl.S_beq _ _
        have cs:=fun w=>Ver.ysame_any (S y.vs) (S x.vs) w (by rw [S_size]; omega) (by rw [S_size]; have:=HXL.out; omega)
        rw [S_li,S_li] at cs
        have HAG:Hid (again x y = (decide (y.nm = x.nm) && sameV y.vs x.vs)):=Lib.hid (by
         unfold again
         rw [sameV_turn y.vs x.vs]
         congr 1
         rw [decide_eq_decide]; exact eq_comm)
        have HMEM:Hid (again x y = true → (l.take i).any (again x) = true):=Lib.hid fun h=>by
         refine List.any_eq_true.2 ⟨y,?_,h⟩
         rw [← hy]
         have:(l.take i).getD q nPk = l.getD q nPk:=by
          rw [List.getD_eq_getElem?_getD,List.getD_eq_getElem?_getD,List.getElem?_take,if_pos hlq]
         rw [← this]
         exact mem_getD (by rw [List.length_take]; omega)
        obtain ⟨W3,hW3⟩:∃ W3,wr.alloc (.cells (#[.string (S y.nm),.string (S y.vs),.slice p1 r1 d1,.slice p2 r2 d2,.slice p3 r3 d3,.slice p4 r4 d4,.slice p5 r5 d5,.slice p6 r6 d6,.bool y.ess]) 40) = W3:=⟨_,rfl⟩
        rw [hW3] at HB3 HU3 dx0 dx1 f0 f1
        clear hb3 j3 hX2 hcells hcl2 hy hbw hbu hylim
        by_cases hn:y.nm = x.nm
        ·rw [decide_eq_true hn] at hq
         have HN2:=Lib.hid hn
         cases hv:sameV y.vs x.vs with
         | true =>
          rw [hv] at cs
          have hag:again x y = true:=by rw [HAG.out,decide_eq_true hn,hv]; rfl
          have hG:G = 4:=by
           rw [← HG3.out,if_pos (HY.out (HMEM.out hag))]
          subst hG
          clear HG3 HY HMEM HAG hag hv hn HN2 HF HB HX HE HIN HE2
          go_wp2_with fail
          refine (cs _).mono ?_
          rintro e w1 ⟨rfl,k1⟩
          have hb1:=HB3.out.trans (k1.mono HB3.out.size)
          go_wp2_with fail
          go_ret
          exact ⟨rfl,hb1⟩
         | false =>
          rw [hv] at cs
          have hag:again x y = false:=by rw [HAG.out,hv,Bool.and_false]
          have HF2:Hid (∀ j,j < q + 1 → again x (l.getD j nPk) = false):=fun j hj=>by
           by_cases e:j = q
           ·rw [e,HYY.out]; exact hag
           ·exact HF.out j (by omega)
          have HB4:Hid (true = true ↔ ∃ j,j < q + 1 ∧ (l.getD j nPk).nm = x.nm):=Lib.hid ⟨fun _=>⟨q,by omega,by rw [HYY.out]; exact HN2.out⟩,fun _=>rfl⟩
          clear HMEM HAG hag hv hn HN2 HF HB
          go_wp2_with fail
          refine (cs _).mono ?_
          rintro e w1 ⟨rfl,k1⟩
          have hb1:=HB3.out.trans (k1.mono HB3.out.size)
          have hu1:=HU3.out.trans (k1.mono HU3.out.size)
          clear cs k1
          go_wp2_with fail
          go_roundg g2
          case measure=>omega
          case rel=>exact ⟨q + 1,true,rfl,by go_num,hb1,hu1,HF2,Lib.hid ⟨fun _=>HB4.out.1 trivial,fun _=>rfl⟩,by omega,by omega⟩
        ·rw [decide_eq_false hn] at hq
         have hag:again x y = false:=by rw [HAG.out,decide_eq_false hn,Bool.false_and]
         have HF2:Hid (∀ j,j < q + 1 → again x (l.getD j nPk) = false):=fun j hj=>by
          by_cases e:j = q
          ·rw [e,HYY.out]; exact hag
          ·exact HF.out j (by omega)
         have HB4:Hid (b = true ↔ ∃ j,j < q + 1 ∧ (l.getD j nPk).nm = x.nm):=Lib.hid ⟨fun h=>by
          obtain ⟨j,hj,e⟩:=HB.out.1 h
          exact ⟨j,by omega,e⟩,fun ⟨j,hj,e⟩=>HB.out.2 ⟨j,by
           by_cases e2:j = q
           ·rw [e2,HYY.out] at e; exact absurd e hn
           ·omega,e⟩⟩
         clear HMEM HAG hag hn HF HB cs
         go_wp2_with fail
         go_roundg g2
         case measure=>omega
         case rel=>exact ⟨q + 1,b,rfl,by go_num,HB3.out,HU3.out,HF2,HB4,by omega,by omega⟩
       ·have hgq:¬ (q:Int) < (i:Int):=by omega
        obtain rfl:q = i:=by omega
        have HE3:Hid (∀ j,j < q + 1 → (l.take j).any (again (l.getD j nPk)) = false):=fun j hj=>by
         by_cases e:j = q
         ·rw [e,HX.out]
          refine any_no (z:=nPk) fun t ht=>?_
          have htq:t < q:=by rw [List.length_take] at ht; omega
          have:=HF.out t htq
          rwa [List.getD_eq_getElem?_getD,List.getElem?_take,if_pos htq,← List.getD_eq_getElem?_getD]
         ·exact HE.out j (by omega)
        have HMB:Hid (b = true ↔ x.nm ∈ ns):=Lib.hid (HB.out.trans (HIN.out x.nm).symm)
        have ho3:=Own.owns_below HO2.out hbu
        have HO3:=Lib.hid ho3
        have hX2:=Rl.is_on HI2.out hbu
        have dx0:=hX2.at (i:=0) rfl
        have HBW5:=Lib.hid hbw
        clear hX2 ho3 hbw hbu HF HB HE HI2 HO2
        cases b with
        | true =>
         have hmm:=HMB.out.1 rfl
         have he:=HE2.out
         rw [if_pos hmm] at he
         have HE4:=Lib.hid he
         have HIN2:Hid (∀ t,t ∈ ns ↔ ∃ j,j < q + 1 ∧ (l.getD j nPk).nm = t):=Lib.hid fun t=>⟨fun h=>by
          obtain ⟨j,hj,e⟩:=(HIN.out t).1 h
          exact ⟨j,by omega,e⟩,fun ⟨j,hj,e⟩=>by
          by_cases e2:j = q
          ·rw [e2,HX.out] at e; rw [← e]; exact hmm
          ·exact (HIN.out t).2 ⟨j,by omega,e⟩⟩
         clear hmm he HE2 HIN HMB HX
         go_wp2_with fail
         go_roundg g'
         case measure=>omega
         case rel=>exact ⟨q + 1,m,pa,cp,ns,rfl,by go_num,HO3,HBW5.out,HE3.out,Lib.hid ⟨HNL.out,HE4.out⟩,HIN2.out,by omega,by omega,by omega⟩
        | false =>
         have hmm:x.nm ∉ ns:=fun h=>by simpa using HMB.out.2 h
         have he:=HE2.out
         rw [if_neg hmm] at he
         have HE4:=Lib.hid he
         have HIN2:Hid (∀ t,t ∈ ns ++ [x.nm] ↔ ∃ j,j < q + 1 ∧ (l.getD j nPk).nm = t):=Lib.hid fun t=>by
          rw [List.mem_append,List.mem_singleton]
          constructor
          ·rintro (h | h)
           ·obtain ⟨j,hj,e⟩:=(HIN.out t).1 h
            exact ⟨j,by omega,e⟩
           ·exact ⟨q,by omega,by rw [HX.out,h]⟩
          ·rintro ⟨j,hj,e⟩
           by_cases e2:j = q
           ·rw [e2,HX.out] at e; exact .inr e.symm
           ·exact .inl ((HIN.out t).2 ⟨j,by omega,e⟩)
         obtain ⟨N,hN⟩:∃ N,S x.nm = N:=⟨_,rfl⟩
         rw [hN] at dx0
         have HNN:=Lib.hid hN
         have hb3:=(Below.refl wr.heap.size wr).alloc (Nat.le_refl _) (.cells #[.string N] 9)
         have hc3:=(Blk.Is.new wr 9 #[.string N]).at (i:=0) rfl
         obtain ⟨W3,hW3⟩:∃ W3,wr.alloc (.cells #[.string N] 9) = W3:=⟨_,rfl⟩
         rw [hW3] at hb3 hc3
         have HW3:=Lib.hid hW3
         have HC3:=Lib.hid hc3
         have HO4:=Lib.hid (Own.owns_below HO3.out hb3)
         have HB3:=Lib.hid (HBW5.out.trans (hb3.mono HBW5.out.size))
         have HSZ:=Lib.hid HB3.out.size
         have hk70:m + 1 ≤ 70000:=by omega
         have HT2:=Lib.hid (Rl.tcells_app ns x.nm)
         clear hmm he HE2 HIN HMB HX hW3 hc3 hb3 hN HO3 HBW5
         go_wp2_with (at_builtin; rw [HW3.out]; refine Rl.append_el Tryz.underlying32 Rl.infoText rfl (by decide) rfl (.tmp 55) (.tmp 58) rfl w.heap.size (.slice pa m cp) m (tcells ns) rfl HO4.out wr.heap.size 1 rfl [.string N] rfl (Rl.one_cell HC3.out) (fun u hu=>by simp only [List.mem_singleton] at hu; rw [hu]; rfl) hk70 HSZ.out ?_; intro v' w4 h4 h5; have hb4:=Own.below_grown HB3.out HO4.out h5 HSZ.out; obtain ⟨a4,c4,rfl,_⟩:=Rl.own_shape h4; have H4:=Lib.hid h4; have HB4:=Lib.hid hb4; clear h4 h5 hb4 HW3 HC3 HO4 HB3)
         go_roundg g'
         case measure=>omega
         case rel=>exact ⟨q + 1,m + 1,a4,c4,ns ++ [x.nm],rfl,by go_num,Lib.hid (by rw [HT2.out,HNN.out]; exact H4.out),HB4.out,HE3.out,Lib.hid ⟨by rw [List.length_append,HNL.out]; rfl,HE4.out⟩,HIN2.out,by omega,by omega,by omega⟩
     ·have hge2:¬ (i:Int) < (k:Int):=by omega
      obtain rfl:i = k:=by omega
      have htw:twice l = false:=twice_no fun j hj=>HE.out j (by rw [← HN.out]; exact hj)
      have hG4:=HG3.out
      have hlen:(nmsOf l []).length = m:=by
       have:=HNS.out.2
       rw [List.drop_eq_nil_of_le (by rw [HN.out]; omega)] at this
       rw [← this]; exact HNS.out.1
      rw [htw,if_neg (by simp),hlen] at hG4
      have HBW2:=Lib.hid hbw
      clear htw HE HG3 hbw HNS HIN hlen HO
      by_cases hm10:10 < m
      ·have hm10':(10:Int) < (m:Int):=by omega
       rw [if_pos hm10] at hG4
       subst hG4
       go_wp2_with fail
       go_ret
       exact ⟨rfl,HBW2.out⟩
      ·have hm10':¬ (10:Int) < (m:Int):=by omega
       rw [if_neg hm10] at hG4
       subst hG4
       go_wp2_with fail
       go_ret
       exact ⟨rfl,HBW2.out⟩
set_option maxRecDepth 100000 in
set_option maxHeartbeats 8000000 in
theorem ymayEntries_any (v:Value) (l:List En) (w:World) (h:Ens w v l) (hL:∀ x ∈ l,x.pk.Lim)  :
  Calls Tryz.prog 24 #[v] w fun e w'=>e = .returned (.int .i64 (mayEn l)) ∧ Below w.heap.size w w':=by
 obtain ⟨sa,cap,rfl⟩:=h.shape
 obtain ⟨G,hG⟩:∃ G:Int,mayEn l = G:=⟨_,rfl⟩
 have hG2:=hG
 unfold mayEn at hG2
 rw [hG]
 have H:=Lib.hid h
 have HL:=Lib.hid hL
 skip
 have HG:=Lib.hid hG2
 obtain ⟨n,hn⟩:∃ n,l.length = n:=⟨_,rfl⟩
 have HN:=Lib.hid hn
 have hn4:=h.1
 rw [hn] at hn4 ⊢
 rw [hn] at hG2
 clear hn hG h hL 
 by_cases hmost:10 < n
 ·have hm':(10:Int) < (n:Int):=by omega
  rw [if_pos hmost] at hG2
  subst hG2
  clear HG
  go_enter Tryz.func24,Tryz.ntmps24
  go_wp2_with fail
  go_ret
  exact ⟨rfl,Below.refl _ _⟩
 ·have hm':¬ (10:Int) < (n:Int):=by omega
  rw [if_neg hmost] at hG2
  have HG2:=Lib.hid hG2
  clear hG2 HG
  go_enter Tryz.func24,Tryz.ntmps24
  go_wp2_with fail
  go_loopg [12] n (fun gf s1 wx=>∃ k:Nat,s1 = .int .i64 k ∧ Below w.heap.size w wx ∧ Hid (∀ j,j < k → mayK (l.getD j nEn).pk = 0) ∧ k ≤ n ∧ n ≤ k + gf)
  case atStart=>exact ⟨0,rfl,Below.refl _ _,fun j hj=>absurd hj (by omega),by omega,by omega⟩
  case round =>
   obtain ⟨k,rfl,hbw,HE,hkn,hfu⟩:=hrel
   by_cases hlt:k < n
   ·obtain ⟨g',rfl⟩:∃ g',gk = g' + 1:=⟨gk - 1,by omega⟩
    have hlt':(k:Int) < (n:Int):=by omega
    have hk0:(0:Int) ≤ k:=by omega
    have hkl:k < l.length:=by rw [HN.out]; exact hlt
    obtain ⟨_,a',cap',e1,_,hcells⟩:=H.out.below hbw
    simp only [Value.slice.injEq,true_and] at e1
    obtain ⟨rfl,rfl⟩:=e1
    obtain ⟨kb,off,rfl,hcl2⟩:=hcells (by omega)
    obtain ⟨a1,n1,c1,a2,n2,c2,a3,n3,c3,a4,n4,c4,a5,n5,c5,a6,n6,c6,⟨x0,x1,x2,x3,x4,x5,x6,x7,x8,x9,x10⟩,hh⟩:=en_read (hcl2 k hkl)
    rw [Nat.mul_comm 11 k] at x0 x1 x2 x3 x4 x5 x6 x7 x8 x9 x10
    have hmem:=mem_getD (z:=nEn) hkl
    have hlim:=HL.out _ hmem
    generalize hx:l.getD k nEn = x at *
    have HX:=Lib.hid hx
    have hb2:=(Below.refl wr.heap.size wr).alloc (Nat.le_refl _) (.cells #[.string (S x.pk.nm),.string (S x.pk.vs),.slice a1 n1 c1,.slice a2 n2 c2,.slice a3 n3 c3,.slice a4 n4 c4,.slice a5 n5 c5,.slice a6 n6 c6,.bool x.pk.ess,.bool x.cfg,.bool x.hld] 52)
    have HB2:=Lib.hid (hbw.trans (hb2.mono hbw.size))
    have ca:=ymay_any _ x.pk (wr.alloc (.cells #[.string (S x.pk.nm),.string (S x.pk.vs),.slice a1 n1 c1,.slice a2 n2 c2,.slice a3 n3 c3,.slice a4 n4 c4,.slice a5 n5 c5,.slice a6 n6 c6,.bool x.pk.ess,.bool x.cfg,.bool x.hld] 52)) ⟨_,_,_,_,_,_,rfl,hh.below hb2⟩ hlim
    obtain ⟨M,hM⟩:∃ M,mayK x.pk = M:=⟨_,rfl⟩
    rw [hM] at ca
    have HM:=Lib.hid hM
    have CA:=Lib.hid ca
    have HMEM:=Lib.hid hmem
    clear hb2 hcells hcl2 hx hlim hh hmem hM ca hbw
    by_cases hz:M = 0
    ·subst hz
     go_wp2_with fail
     generalize wr.alloc (.cells #[.string (S x.pk.nm),.string (S x.pk.vs),.slice a1 n1 c1,.slice a2 n2 c2,.slice a3 n3 c3,.slice a4 n4 c4,.slice a5 n5 c5,.slice a6 n6 c6,.bool x.pk.ess,.bool x.cfg,.bool x.hld] 52) = W at *
     refine CA.out.mono ?_
     rintro e w1 ⟨rfl,k1⟩
     have hb1:=HB2.out.trans (k1.mono HB2.out.size)
     have HE2:Hid (∀ j,j < k + 1 → mayK (l.getD j nEn).pk = 0):=fun j hj=>by
      by_cases e:j = k
      ·rw [e,HX.out]; exact HM.out
      ·exact HE.out j (by omega)
     clear k1 HB2 CA HE HX HM HMEM
     go_wp2_with fail
     go_roundg g'
     case measure=>omega
     case rel=>exact ⟨k + 1,by go_num,hb1,HE2.out,by omega,by omega⟩
    ·have hne:(M != 0) = true:=by simp [hz]
     have hG:G = M:=by
      have h1:=HG2.out
      have h2:eachK (l.map En.pk) = M:=eachK_at (z:=nEn) En.pk (i:=k) (by rw [HN.out]; exact hlt) HE.out (by rw [HX.out]; exact HM.out) hz
      rw [h2,if_pos hz] at h1
      exact h1.symm
     subst hG
     clear HG2 HM HX HE hz HMEM
     go_wp2_with fail
     generalize wr.alloc (.cells #[.string (S x.pk.nm),.string (S x.pk.vs),.slice a1 n1 c1,.slice a2 n2 c2,.slice a3 n3 c3,.slice a4 n4 c4,.slice a5 n5 c5,.slice a6 n6 c6,.bool x.pk.ess,.bool x.cfg,.bool x.hld] 52) = W at *
     refine CA.out.mono ?_
     rintro e w1 ⟨rfl,k1⟩
     have hb1:=HB2.out.trans (k1.mono HB2.out.size)
     go_wp2_with fail
     go_ret
     exact ⟨rfl,hb1⟩
   ·have hge:¬ (k:Int) < (n:Int):=by omega
    obtain rfl:k = n:=by omega
    have hz:eachK (l.map En.pk) = 0:=eachK_all (z:=nEn) En.pk (fun j hj=>HE.out j (by rw [← HN.out]; exact hj))
    have hG3:=HG2.out
    rw [hz,if_neg (by simp)] at hG3
    have HG3:=Lib.hid hG3
    clear HG2 hz HE hG3
    have HBW:=Lib.hid hbw
    clear hbw
    go_wp2_with fail
    go_loopg [25] k (fun gf s25 wx=>∃ i:Nat,s25 = .int .i64 i ∧ Below w.heap.size w wx ∧ Hid (∀ j,j < i → 0 < j → geB (l.getD (j - 1) nEn).pk.nm (l.getD j nEn).pk.nm = false) ∧ i ≤ k ∧ k ≤ i + gf)
    case atStart=>exact ⟨0,rfl,HBW.out,fun j hj=>absurd hj (by omega),by omega,by omega⟩
    case round =>
     obtain ⟨i,rfl,hbw,HE,hin,hfu2⟩:=hrel
     by_cases hlt:i < k
     ·obtain ⟨g',rfl⟩:∃ g',gk = g' + 1:=⟨gk - 1,by omega⟩
      have hlt':(i:Int) < (k:Int):=by omega
      have hk0:(0:Int) ≤ i:=by omega
      have hkl:i < l.length:=by rw [HN.out]; exact hlt
      obtain ⟨_,a',cap',e1,_,hcells⟩:=H.out.below hbw
      simp only [Value.slice.injEq,true_and] at e1
      obtain ⟨rfl,rfl⟩:=e1
      obtain ⟨kb,off,rfl,hcl2⟩:=hcells (by omega)
      by_cases hi0:0 < i
      ·have hd:decide ((0:Int) < (i:Int)) = true:=decide_eq_true (by omega)
       have hi1:(i:Int) - 1 = ((i - 1:Nat):Int):=by omega
       have hi2:((i - 1:Nat):Int) < (k:Int):=by omega
       have hi3:(0:Int) ≤ ((i - 1:Nat):Int):=by omega
       have hxa:wr.cell? ⟨kb,off + (i - 1) * 11,none⟩ = some (.string (S (l.getD (i - 1) nEn).pk.nm)):=by
        obtain ⟨a1,n1,c1,a2,n2,c2,a3,n3,c3,a4,n4,c4,a5,n5,c5,a6,n6,c6,⟨c0,_⟩,_⟩:=en_read (hcl2 (i - 1) (by omega))
        rw [Nat.mul_comm 11 (i - 1)] at c0; exact c0
       have hxb:wr.cell? ⟨kb,off + i * 11,none⟩ = some (.string (S (l.getD i nEn).pk.nm)):=by
        obtain ⟨a1,n1,c1,a2,n2,c2,a3,n3,c3,a4,n4,c4,a5,n5,c5,a6,n6,c6,⟨c0,_⟩,_⟩:=en_read (hcl2 i hkl)
        rw [Nat.mul_comm 11 i] at c0; exact c0
       obtain ⟨T,hT⟩:∃ T,geB (l.getD (i - 1) nEn).pk.nm (l.getD i nEn).pk.nm = T:=⟨_,rfl⟩
       have hyes:=fun h=>falls_yes (l:=l) hkl hi0 h
       have hless:Go.Op.bytesLess (S (l.getD (i - 1) nEn).pk.nm).toList (S (l.getD i nEn).pk.nm).toList = !T:=by
        rw [← hT]; unfold geB; rw [Bool.not_not]
       have HY:=Lib.hid hyes
       have HT:=Lib.hid hT
       have HBW3:=Lib.hid hbw
       generalize S (l.getD (i - 1) nEn).pk.nm = A at *
       generalize S (l.getD i nEn).pk.nm = B at *
       clear hcells hcl2 hyes hT hbw
       cases T with
       | true =>
        rw [Bool.not_true] at hless
        have hG:G = 4:=by rw [← HG3.out,if_pos (HY.out HT.out)]
        subst hG
        clear HG3 HY HT HE
        go_wp2_with fail
        go_quiet (fail)
        have hbq:=HBW3.out.trans ((Va.below_drewN wr nq).mono HBW3.out.size)
        go_wp2_with fail
        go_ret
        exact ⟨rfl,hbq⟩
       | false =>
        rw [Bool.not_false] at hless
        have HE2:Hid (∀ j,j < i + 1 → 0 < j → geB (l.getD (j - 1) nEn).pk.nm (l.getD j nEn).pk.nm = false):=fun j hj h0=>by
         by_cases e:j = i
         ·rw [e]; exact HT.out
         ·exact HE.out j (by omega) h0
        clear HY HT HE
        go_wp2_with fail
        go_quiet (fail)
        have hbq:=Lib.hid (HBW3.out.trans ((Va.below_drewN wr nq).mono HBW3.out.size))
        generalize wr.drewN nq = wd at *
        go_wp2_with fail
        go_roundg g'
        case measure=>omega
        case rel=>exact ⟨i + 1,by go_num,hbq.out,HE2.out,by omega,by omega⟩
      ·have hd:decide ((0:Int) < (i:Int)) = false:=decide_eq_false (by omega)
       have HE2:Hid (∀ j,j < i + 1 → 0 < j → geB (l.getD (j - 1) nEn).pk.nm (l.getD j nEn).pk.nm = false):=fun j hj h0=>absurd h0 (by omega)
       have HBW3:=Lib.hid hbw
       clear hcells hcl2 hbw HE
       go_wp2_with fail
       go_quiet (fail)
       have hbq:=Lib.hid (HBW3.out.trans ((Va.below_drewN wr nq).mono HBW3.out.size))
       generalize wr.drewN nq = wd at *
       go_wp2_with fail
       go_roundg g'
       case measure=>omega
       case rel=>exact ⟨i + 1,by go_num,hbq.out,HE2.out,by omega,by omega⟩
     ·have hge2:¬ (i:Int) < (k:Int):=by omega
      obtain rfl:i = k:=by omega
      have htw:falls l = false:=falls_no fun j hj=>HE.out j (by rw [← HN.out]; exact hj)
      have hG4:=HG3.out
      rw [htw,if_neg (by simp)] at hG4
      subst hG4
      have HBW2:=Lib.hid hbw
      clear htw HE HG3 hbw
      go_wp2_with fail
      go_ret
      exact ⟨rfl,HBW2.out⟩
end Rc
end Go.Proofs.YtmhpjjjjgakpiaaGreatDoor
namespace Go.Proofs.YtmhpjjjjgakpiaaGreatDoor
open Go.RowKit
set_option linter.unusedSimpArgs false
set_option linter.unusedVariables false
namespace Ix
theorem range_of {w:World} {g:Nat} {T:TypeId} {cs:Array Value} (hg:Blk.Is w g T cs):w.rangeAt g 0 cs.toList:=fun j v hj=>by
 rw [Nat.zero_add]
 exact hg.at (by rw [← Array.getElem?_toList]; exact hj)
end Ix
end Go.Proofs.YtmhpjjjjgakpiaaGreatDoor
namespace Go.Proofs.YtmhpjjjjgakpiaaGreatDoor
open Go.RowKit
set_option linter.unusedSimpArgs false
set_option linter.unusedVariables false
namespace Ix
open Rc (infoPk)
theorem append_pk {w:World} {ops:Array Oper} {rest:List Oper} {o:Oper} {a:Act} {Q:Exit → Act → World → Prop} (hgd:o.guard = none) (s x:Operand)
  (ho:o.op = .call { callee:=.builtin .append,args:=#[s,x],argTypes:=#[22,22] })
  (B:Nat) (v:Value) (n:Nat) (xs:List Value) (hv:a.eval s = v) (hown:w.ownsRow B 40 9 v n xs) (k:Nat) (c:Nat) (hx:a.eval x = .slice (some ⟨k,0,none⟩) 1 c) (news:List Value) (hnl:news.length = 9) (hc:∀ (j:Nat) u,news[j]? = some u → w.cell? ⟨k,j,none⟩ = some u)
  (ho1:∀ u ∈ news,u.oneCell' = true) (hn:n + 1 ≤ 70000) (hB:B ≤ w.heap.size)
  (h:∀ v' w',w'.ownsRow B 40 9 v' (n + 1) (xs ++ news) → w.grownBy w' v.ownBlock → wpList Tryz.prog ops Q rest (a.put o.dst v') w'):wpList Tryz.prog ops Q (o :: rest) a w:=by
 obtain ⟨i0,hi,hz0,hz1,hz2⟩:=info_parts infoPk
 have hsrc:Src Tryz.prog 9 22 (.slice (some ⟨k,0,none⟩) 1 c) 1 news w:=by
  refine Src.ofSlice w Tryz.underlying22 ⟨k,0,none⟩ 1 c news (by rw [hnl]) (fun j u hj=>?_) ho1
  have:=hc j u hj
  have e:(⟨k,0,none⟩:Addr).add j = ⟨k,j,none⟩:=by cases j <;> simp [Addr.add]
  rw [e]; exact this
 have hmul:(n + 1) * 184 ≤ 70000 * 184:=Nat.mul_le_mul_right _ hn
 refine wpList_plain hgd fun K hK=>?_
 obtain ⟨v',w',hr,h2,h3,h4⟩:=Own.run_append_src (P:=Tryz.prog) 22 22 o.type B 40 i0 _ 9 184 Tryz.underlying22 hi hz0 hz1 hz2 rfl v n xs hown _ 1 news hsrc (by simp only [maxLen]; omega) (by omega) hB
 unfold Oper.wp execOp
 simp only [ho,resolve,invoke,builtin,Sem.run_bind,Sem.run_pure,Result.andThen_ok,List.map_toArray,List.map_cons,List.map_nil,hv,hx,hr]
 exact hK _ _ (h v' w' h2 h3)
end Ix
end Go.Proofs.YtmhpjjjjgakpiaaGreatDoor

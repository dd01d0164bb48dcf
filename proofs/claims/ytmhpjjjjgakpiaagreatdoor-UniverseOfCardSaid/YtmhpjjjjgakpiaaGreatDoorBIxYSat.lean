/-
The reference's Satisfies.
-/
import Derived.Test.YtmhpjjjjgakpiaaGreatDoorBIxMap
namespace Go.Proofs.YtmhpjjjjgakpiaaGreatDoor
open Go.RowKit
set_option linter.unusedSimpArgs false
set_option linter.unusedVariables false
namespace Ix
open Ver (Bs S S_size S_li holdsV)
open Rl (At may aV nP mem_getD)
open Rc (Pk PkV)
theorem holds_empty (r:Int) (y:Bs):holdsV r [] y = false:=by
 have h:(Ver.parse []).isSome = false:=by decide +kernel
 unfold holdsV
 split <;> simp [h]
theorem s_nil:(S []).toList = []:=by decide +kernel
theorem s_not {v:Bs} (h:v ≠ []):¬ (S v).toList = []:=fun e=>by
 have:=Rl.S_beq v []
 rw [e,s_nil] at this
 simp [h] at this
set_option maxRecDepth 100000 in
set_option maxHeartbeats 16000000 in
theorem ysat_any (v:Value) (p:Pk) (a:At) (w:World) (h:PkV w v p) (hL:p.Lim) (ha:LimAt a) :
  Calls Tryz.prog 31 #[v,aV a] w fun e w'=>e = .returned (.bool (sat p a)) ∧ Below w.heap.size w w':=by
 obtain ⟨u1,u2,u3,u4,u5,u6,rfl,hh⟩:=h
 have hb1:=(Below.refl w.heap.size w).alloc (Nat.le_refl _) (.cells #[.string (S p.nm),.string (S p.vs),u1,u2,u3,u4,u5,u6,.bool p.ess] 40)
 have i1:=Blk.Is.new w 40 #[.string (S p.nm),.string (S p.vs),u1,u2,u3,u4,u5,u6,.bool p.ess]
 have hb2:=hb1.alloc hb1.size (.cells #[.string (S a.1),.int .i64 a.2.1,.string (S a.2.2)] 54)
 have i2:=Blk.Is.new (w.alloc (.cells #[.string (S p.nm),.string (S p.vs),u1,u2,u3,u4,u5,u6,.bool p.ess] 40)) 54 #[.string (S a.1),.int .i64 a.2.1,.string (S a.2.2)]
 have i1':=i1.alloc (.cells #[.string (S a.1),.int .i64 a.2.1,.string (S a.2.2)] 54)
 have hsz:(w.alloc (.cells #[.string (S p.nm),.string (S p.vs),u1,u2,u3,u4,u5,u6,.bool p.ess] 40)).heap.size = w.heap.size + 1:=by simp
 rw [hsz] at i2
 obtain ⟨W,hW⟩:∃ W,(w.alloc (.cells #[.string (S p.nm),.string (S p.vs),u1,u2,u3,u4,u5,u6,.bool p.ess] 40)).alloc (.cells #[.string (S a.1),.int .i64 a.2.1,.string (S a.2.2)] 54) = W:=⟨_,rfl⟩
 rw [hW] at hb2 i1' i2
 have hbW:w.heap.size + 2 = W.heap.size:=by rw [← hW]; simp
 have c0:=i1'.at (i:=0) rfl
 have c1:=i1'.at (i:=1) rfl
 have c7:=i1'.at (i:=7) rfl
 have d0:=i2.at (i:=0) rfl
 have d1:=i2.at (i:=1) rfl
 have d2:=i2.at (i:=2) rfl
 have cm:=Rl.ymayAtom_any a W (by have:=ha.1; omega) (by have:=ha.2; omega)
 have CS:=Lib.hid (fun w=>Ver.yholds_any a.2.1 (S p.vs) (S a.2.2) w (by rw [S_size]; have:=hL.vs; omega) (by rw [S_size]; have:=ha.2; omega))
 have CP:=Lib.hid (fun (y:Bs) (hy:y.length ≤ 140737488351232) w=>Ver.yholds_any a.2.1 (S y) (S a.2.2) w (by rw [S_size]; omega) (by rw [S_size]; have:=ha.2; omega))
 have hq:((S p.nm).toList == (S a.1).toList) = decide (p.nm = a.1):=Rl.S_beq _ _
 have HP:=Lib.hid (hh.prv.below hb2)
 have HB:=Lib.hid hb2
 have HL:=Lib.hid hL.prv
 obtain ⟨sa,scap,he6⟩:=hh.prv.shape
 obtain ⟨n,hn⟩:∃ n,p.prv.length = n:=⟨_,rfl⟩
 have HN:=Lib.hid hn
 rw [hn] at he6
 obtain ⟨q,hqq⟩:∃ q,w.heap.size + 1 = q:=⟨_,rfl⟩
 have HI2:=Lib.hid i2
 have hs:sat p a = (may a && ((decide (p.nm = a.1) && holdsV a.2.1 p.vs a.2.2) || p.prv.any (pmeets a))):=rfl
 obtain ⟨G,hG⟩:∃ G,sat p a = G:=⟨_,rfl⟩
 have HG:Hid ((may a && ((decide (p.nm = a.1) && holdsV a.2.1 p.vs a.2.2) || p.prv.any (pmeets a))) = G):=by rw [← hG,hs]; exact rfl
 rw [hG]
 have hu:=hW
 subst he6
 clear hb1 i1 hb2 i1' i2 hsz hs hh hn hG hL ha hW hqq hbW
 unfold aV at *
 go_enter Tryz.func31,Tryz.ntmps31
 cases hm:may a with
 | false =>
  rw [hm] at cm
  have hG:G = false:=by rw [← HG.out,hm]; rfl
  subst hG
  clear HG hq hm
  go_wp2_with fail
  clear hu
  refine cm.mono ?_
  rintro e w1 ⟨rfl,k1⟩
  have hb1:=HB.out.trans (k1.mono HB.out.size)
  clear cm
  go_wp2_with fail
  go_ret
  exact ⟨rfl,hb1⟩
 | true =>
  rw [hm] at cm
  have HG1:Hid (((decide (p.nm = a.1) && holdsV a.2.1 p.vs a.2.2) || p.prv.any (pmeets a)) = G):=by rw [← HG.out,hm,Bool.true_and]; exact rfl
  clear HG hm
  go_wp2_with fail
  clear hu
  refine cm.mono ?_
  rintro e w1 ⟨rfl,k1⟩
  have B1:=Lib.hid (HB.out.trans (k1.mono HB.out.size))
  have P1:=Lib.hid (HP.out.below k1)
  have D1:=Lib.hid (Rl.is_on HI2.out k1)
  replace c0:=Rl.cell_on c0 k1
  replace c1:=Rl.cell_on c1 k1
  replace c7:=Rl.cell_on c7 k1
  replace d0:=Rl.cell_on d0 k1
  replace d1:=Rl.cell_on d1 k1
  replace d2:=Rl.cell_on d2 k1
  clear cm k1 HP HI2 HB
  cases hd:decide (p.nm = a.1) with
  | false =>
   rw [hd] at hq
   have HG2:Hid (p.prv.any (pmeets a) = G):=by rw [← HG1.out,hd]; exact rfl
   clear HG1 hd CS
   go_wp2_with fail
   go_loopg [27] n (fun gf s27 wx=>∃ k:Nat,s27 = .int .i64 k ∧ Hid (Below w1.heap.size w1 wx) ∧ Hid (∀ j,j < k → pmeets a (p.prv.getD j nP) = false) ∧ k ≤ n ∧ n ≤ k + gf)
   case atStart=>exact ⟨0,rfl,Below.refl _ _,Lib.hid (fun j hj=>absurd hj (by omega)),by omega,by omega⟩
   case round =>
    obtain ⟨k,rfl,HBW,HE,hkn,hfu⟩:=hrel
    by_cases hlt:k < n
    ·obtain ⟨g',rfl⟩:∃ g',gk = g' + 1:=⟨gk - 1,by omega⟩
     have hlt':(k:Int) < (n:Int):=by omega
     have hk0:(0:Int) ≤ k:=by omega
     have hkl:k < p.prv.length:=by rw [HN.out]; exact hlt
     obtain ⟨_,a',cap',e1,_,hcells⟩:=P1.out.below HBW.out
     rw [HN.out] at e1
     simp only [Value.slice.injEq,true_and] at e1
     obtain ⟨rfl,rfl⟩:=e1
     obtain ⟨kb,off,rfl,hcl2⟩:=hcells (by omega)
     obtain ⟨x0,x1⟩:=hcl2 k hkl
     rw [Nat.mul_comm 2 k] at x0 x1
     have hlim:=HL.out _ (mem_getD (z:=nP) hkl)
     have hyes:=fun h=>Rc.any_at (p:=pmeets a) (z:=nP) hkl h
     have HY:=Lib.hid hyes
     obtain ⟨y,hy⟩:∃ y,p.prv.getD k nP = y:=⟨_,rfl⟩
     have HY2:Hid (pmeets a y = true → G = true):=by
      intro h
      rw [← HG2.out]
      exact HY.out (by rw [hy]; exact h)
     have HE2:Hid (pmeets a y = false → ∀ j,j < k + 1 → pmeets a (p.prv.getD j nP) = false):=fun h j hj=>by
      by_cases e:j = k
      ·rw [e,hy,h]
      ·exact HE.out j (by omega)
     rw [hy] at x0 x1 hlim
     have hp:pmeets a y = (decide (y.1 = a.1) && (decide (a.2.1 = 0) || holdsV a.2.1 y.2 a.2.2)):=rfl
     have hq2:((S y.1).toList == (S a.1).toList) = decide (y.1 = a.1):=Rl.S_beq _ _
     have hb2:=(Below.refl wr.heap.size wr).alloc (Nat.le_refl _) (.cells #[.string (S y.1),.string (S y.2)] 101)
     have i2:=Blk.Is.new wr 101 #[.string (S y.1),.string (S y.2)]
     obtain ⟨V,hV⟩:∃ V,wr.alloc (.cells #[.string (S y.1),.string (S y.2)] 101) = V:=⟨_,rfl⟩
     rw [hV] at hb2 i2
     have hbV:=HBW.out.trans (hb2.mono HBW.out.size)
     have BV:=Lib.hid hbV
     have hD:=Rl.is_on D1.out hbV
     have b0:=hD.at (i:=0) rfl
     have b1:=hD.at (i:=1) rfl
     have b2:=hD.at (i:=2) rfl
     have z0:=i2.at (i:=0) rfl
     have z1:=i2.at (i:=1) rfl
     have cp:=CP.out y.2 hlim.2 V
     rw [S_li,S_li] at cp
     have hu:=hV
     clear hcells hcl2 hyes HY hy hb2 i2 hbV hD hV hlim HBW HE
     cases hd:decide (y.1 = a.1) with
     | false =>
      rw [hd] at hq2
      have hpf:pmeets a y = false:=by rw [hp,hd]; rfl
      have HE3:=Lib.hid (HE2.out hpf)
      clear HE2 HY2 hp hpf cp hd
      go_wp2_with fail
      go_roundg g'
      case measure=>omega
      case rel=>exact ⟨k + 1,by go_num,BV,HE3,by omega,by omega⟩
     | true =>
      rw [hd] at hq2
      by_cases hr:a.2.1 = 0
      ·have hr':(a.2.1 == 0) = true:=by rw [hr]; rfl
       have hG:=HY2.out (by rw [hp,hd,hr]; rfl)
       subst hG
       clear HE2 HY2 hp cp hd hr
       go_wp2_with fail
       go_ret
       exact ⟨rfl,B1.out.trans (BV.out.mono B1.out.size)⟩
      ·have hr':(a.2.1 == 0) = false:=by simp [hr]
       have hp':pmeets a y = holdsV a.2.1 y.2 a.2.2:=by rw [hp,hd,decide_eq_false hr]; rfl
       by_cases hv0:y.2 = []
       ·have hpf:pmeets a y = false:=by rw [hp',hv0]; exact holds_empty _ _
        have HE3:=Lib.hid (HE2.out hpf)
        have hsn:(S y.2).toList = []:=by rw [hv0]; exact s_nil
        clear HE2 HY2 hp hp' hpf cp hd hr hv0
        go_wp2_with fail
        go_roundg g'
        case measure=>omega
        case rel=>exact ⟨k + 1,by go_num,BV,HE3,by omega,by omega⟩
       ·have hsn:¬ (S y.2).toList = []:=s_not hv0
        have hsm:(S y.2).toList.isEmpty = false:=by rw [List.isEmpty_eq_false_iff]; exact hsn
        clear hp hd hr hv0
        cases hz:holdsV a.2.1 y.2 a.2.2 with
        | true =>
         rw [hz] at cp
         have hG:=HY2.out (by rw [hp',hz])
         subst hG
         clear HE2 HY2 hp' hz
         go_wp2_with fail
         refine cp.mono ?_
         rintro e w4 ⟨rfl,k4⟩
         have hb4:=BV.out.trans (k4.mono BV.out.size)
         clear cp
         go_wp2_with fail
         go_ret
         exact ⟨rfl,B1.out.trans (hb4.mono B1.out.size)⟩
        | false =>
         rw [hz] at cp
         have HE3:=Lib.hid (HE2.out (by rw [hp',hz]))
         clear HE2 HY2 hp' hz
         go_wp2_with fail
         refine cp.mono ?_
         rintro e w4 ⟨rfl,k4⟩
         have B4:=Lib.hid (BV.out.trans (k4.mono BV.out.size))
         clear cp k4
         go_wp2_with fail
         go_roundg g'
         case measure=>omega
         case rel=>exact ⟨k + 1,by go_num,B4,HE3,by omega,by omega⟩
    ·obtain rfl:k = n:=by omega
     have hge:¬ (k:Int) < (k:Int):=by omega
     have hG:G = false:=by rw [← HG2.out]; exact Rc.any_no (z:=nP) fun j hj=>HE.out j (by rw [← HN.out]; exact hj)
     subst hG
     have hbf:=B1.out.trans (HBW.out.mono B1.out.size)
     clear HE HG2 HBW
     go_wp2_with fail
     go_ret
     exact ⟨rfl,hbf⟩
  | true =>
   rw [hd] at hq
   have cs:=CS.out w1
   rw [S_li,S_li] at cs
   cases hh:holdsV a.2.1 p.vs a.2.2 with
   | true =>
    rw [hh] at cs
    have hG:G = true:=by rw [← HG1.out,hd,hh]; rfl
    subst hG
    clear HG1 hd hh CS CP
    go_wp2_with fail
    refine cs.mono ?_
    rintro e w2 ⟨rfl,k2⟩
    have hb2:=B1.out.trans (k2.mono B1.out.size)
    clear cs
    go_wp2_with fail
    go_ret
    exact ⟨rfl,hb2⟩
   | false =>
    rw [hh] at cs
    have HG2:Hid (p.prv.any (pmeets a) = G):=by rw [← HG1.out,hd,hh]; exact rfl
    clear HG1 hd hh CS
    go_wp2_with fail
    refine cs.mono ?_
    rintro e w2 ⟨rfl,k2⟩
    have B2:=Lib.hid (B1.out.trans (k2.mono B1.out.size))
    have P2:=Lib.hid (P1.out.below k2)
    have D2:=Lib.hid (Rl.is_on D1.out k2)
    replace c0:=Rl.cell_on c0 k2
    replace c1:=Rl.cell_on c1 k2
    replace c7:=Rl.cell_on c7 k2
    clear cs k2 P1 D1 B1 d0 d1 d2
    go_wp2_with fail
    go_loopg [27] n (fun gf s27 wx=>∃ k:Nat,s27 = .int .i64 k ∧ Hid (Below w2.heap.size w2 wx) ∧ Hid (∀ j,j < k → pmeets a (p.prv.getD j nP) = false) ∧ k ≤ n ∧ n ≤ k + gf)
    case atStart=>exact ⟨0,rfl,Below.refl _ _,Lib.hid (fun j hj=>absurd hj (by omega)),by omega,by omega⟩
    case round =>
     obtain ⟨k,rfl,HBW,HE,hkn,hfu⟩:=hrel
     by_cases hlt:k < n
     ·obtain ⟨g',rfl⟩:∃ g',gk = g' + 1:=⟨gk - 1,by omega⟩
      have hlt':(k:Int) < (n:Int):=by omega
      have hk0:(0:Int) ≤ k:=by omega
      have hkl:k < p.prv.length:=by rw [HN.out]; exact hlt
      obtain ⟨_,a',cap',e1,_,hcells⟩:=P2.out.below HBW.out
      rw [HN.out] at e1
      simp only [Value.slice.injEq,true_and] at e1
      obtain ⟨rfl,rfl⟩:=e1
      obtain ⟨kb,off,rfl,hcl2⟩:=hcells (by omega)
      obtain ⟨x0,x1⟩:=hcl2 k hkl
      rw [Nat.mul_comm 2 k] at x0 x1
      have hlim:=HL.out _ (mem_getD (z:=nP) hkl)
      have hyes:=fun h=>Rc.any_at (p:=pmeets a) (z:=nP) hkl h
      have HY:=Lib.hid hyes
      obtain ⟨y,hy⟩:∃ y,p.prv.getD k nP = y:=⟨_,rfl⟩
      have HY2:Hid (pmeets a y = true → G = true):=by
       intro h
       rw [← HG2.out]
       exact HY.out (by rw [hy]; exact h)
      have HE2:Hid (pmeets a y = false → ∀ j,j < k + 1 → pmeets a (p.prv.getD j nP) = false):=fun h j hj=>by
       by_cases e:j = k
       ·rw [e,hy,h]
       ·exact HE.out j (by omega)
      rw [hy] at x0 x1 hlim
      have hp:pmeets a y = (decide (y.1 = a.1) && (decide (a.2.1 = 0) || holdsV a.2.1 y.2 a.2.2)):=rfl
      have hq2:((S y.1).toList == (S a.1).toList) = decide (y.1 = a.1):=Rl.S_beq _ _
      have hb2:=(Below.refl wr.heap.size wr).alloc (Nat.le_refl _) (.cells #[.string (S y.1),.string (S y.2)] 101)
      have i2:=Blk.Is.new wr 101 #[.string (S y.1),.string (S y.2)]
      obtain ⟨V,hV⟩:∃ V,wr.alloc (.cells #[.string (S y.1),.string (S y.2)] 101) = V:=⟨_,rfl⟩
      rw [hV] at hb2 i2
      have hbV:=HBW.out.trans (hb2.mono HBW.out.size)
      have BV:=Lib.hid hbV
      have hD:=Rl.is_on D2.out hbV
      have b0:=hD.at (i:=0) rfl
      have b1:=hD.at (i:=1) rfl
      have b2:=hD.at (i:=2) rfl
      have z0:=i2.at (i:=0) rfl
      have z1:=i2.at (i:=1) rfl
      have cp:=CP.out y.2 hlim.2 V
      rw [S_li,S_li] at cp
      have hu:=hV
      clear hcells hcl2 hyes HY hy hb2 i2 hbV hD hV hlim HBW HE
      cases hd:decide (y.1 = a.1) with
      | false =>
       rw [hd] at hq2
       have hpf:pmeets a y = false:=by rw [hp,hd]; rfl
       have HE3:=Lib.hid (HE2.out hpf)
       clear HE2 HY2 hp hpf cp hd
       go_wp2_with fail
       go_roundg g'
       case measure=>omega
       case rel=>exact ⟨k + 1,by go_num,BV,HE3,by omega,by omega⟩
      | true =>
       rw [hd] at hq2
       by_cases hr:a.2.1 = 0
       ·have hr':(a.2.1 == 0) = true:=by rw [hr]; rfl
        have hG:=HY2.out (by rw [hp,hd,hr]; rfl)
        subst hG
        clear HE2 HY2 hp cp hd hr
        go_wp2_with fail
        go_ret
        exact ⟨rfl,B2.out.trans (BV.out.mono B2.out.size)⟩
       ·have hr':(a.2.1 == 0) = false:=by simp [hr]
        have hp':pmeets a y = holdsV a.2.1 y.2 a.2.2:=by rw [hp,hd,decide_eq_false hr]; rfl
        by_cases hv0:y.2 = []
        ·have hpf:pmeets a y = false:=by rw [hp',hv0]; exact holds_empty _ _
         have HE3:=Lib.hid (HE2.out hpf)
         have hsn:(S y.2).toList = []:=by rw [hv0]; exact s_nil
         clear HE2 HY2 hp hp' hpf cp hd hr hv0
         go_wp2_with fail
         go_roundg g'
         case measure=>omega
         case rel=>exact ⟨k + 1,by go_num,BV,HE3,by omega,by omega⟩
        ·have hsn:¬ (S y.2).toList = []:=s_not hv0
         have hsm:(S y.2).toList.isEmpty = false:=by rw [List.isEmpty_eq_false_iff]; exact hsn
         clear hp hd hr hv0
         cases hz:holdsV a.2.1 y.2 a.2.2 with
         | true =>
          rw [hz] at cp
          have hG:=HY2.out (by rw [hp',hz])
          subst hG
          clear HE2 HY2 hp' hz
          go_wp2_with fail
          refine cp.mono ?_
          rintro e w4 ⟨rfl,k4⟩
          have hb4:=BV.out.trans (k4.mono BV.out.size)
          clear cp
          go_wp2_with fail
          go_ret
          exact ⟨rfl,B2.out.trans (hb4.mono B2.out.size)⟩
         | false =>
          rw [hz] at cp
          have HE3:=Lib.hid (HE2.out (by rw [hp',hz]))
          clear HE2 HY2 hp' hz
          go_wp2_with fail
          refine cp.mono ?_
          rintro e w4 ⟨rfl,k4⟩
          have B4:=Lib.hid (BV.out.trans (k4.mono BV.out.size))
          clear cp k4
          go_wp2_with fail
          go_roundg g'
          case measure=>omega
          case rel=>exact ⟨k + 1,by go_num,B4,HE3,by omega,by omega⟩
     ·obtain rfl:k = n:=by omega
      have hge:¬ (k:Int) < (k:Int):=by omega
      have hG:G = false:=by rw [← HG2.out]; exact Rc.any_no (z:=nP) fun j hj=>HE.out j (by rw [← HN.out]; exact hj)
      subst hG
      have hbf:=B2.out.trans (HBW.out.mono B2.out.size)
      clear HE HG2 HBW
      go_wp2_with fail
      go_ret
      exact ⟨rfl,hbf⟩
end Ix
end Go.Proofs.YtmhpjjjjgakpiaaGreatDoor

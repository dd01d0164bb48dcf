/-
The mathematics of the reference's Reached: rounds that mark packages and collect names. The reference's Satisfies. The reference's Reached. The reference's Met: is a clause met by one of these?
-/
import Derived.Test.YtmhpjjjjgakpiaaGreatDoorDUniAsk
import Derived.Test.YtmhpjjjjgakpiaaGreatDoorDUniLight
import Derived.Test.YtmhpjjjjgakpiaaGreatDoorDStaMath
import Derived.Test.YtmhpjjjjgakpiaaGreatDoorDIxMap
import Derived.Test.YtmhpjjjjgakpiaaGreatDoorDUniAt
import Derived.Test.YtmhpjjjjgakpiaaGreatDoorDUniAwake
import Derived.Laws.MakeOwn
import Derived.Laws.OwnMore
namespace Go.Proofs.YtmhpjjjjgakpiaaGreatDoor
open Go.RowKit
set_option linter.unusedSimpArgs false
set_option linter.unusedVariables false
namespace Un
open Ver (Bs)
open Rl (At nA)
open Rc (Pk nPk)
open Ix (sat)
def nmA (all:List Pk) (j:Nat):Bs:=(all.getD j nPk).nm
theorem flat_suc {α:Type} (f:Nat → List α) (k:Nat):(List.range (k + 1)).flatMap f = (List.range k).flatMap f ++ f k:=by
 rw [List.range_succ,List.flatMap_append]
 simp
def outN (all:List Pk) (f:Nat → Bool) (k:Nat):List Pk:=(List.range k).flatMap fun j=>if f j = true then [all.getD j nPk] else []
end Un
end Go.Proofs.YtmhpjjjjgakpiaaGreatDoor
namespace Go.Proofs.YtmhpjjjjgakpiaaGreatDoor
open Go.RowKit
set_option linter.unusedSimpArgs false
set_option linter.unusedVariables false
namespace Ix
open Ver (Bs S S_size S_li holdsV)
open Rl (At may aV nP mem_getD)
open Rc (Pk PkV)
theorem holds_empty (r:Int) (y:Bs):holdsV r [] y = false:=by
 have h:(Ver.parse []).isSome = false:=by decide +kernel
 unfold holdsV
 split <;> simp [h]
theorem s_nil:(S []).toList = []:=by decide +kernel
theorem s_not {v:Bs} (h:v ≠ []):¬ (S v).toList = []:=fun e=>by
 have:=Rl.S_beq v []
 rw [e,s_nil] at this
 simp [h] at this
set_option maxRecDepth 100000 in
set_option maxHeartbeats 16000000 in
theorem ysat_any (v:Value) (p:Pk) (a:At) (w:World) (h:PkV w v p) (hL:p.Lim) (ha:LimAt a) :
  Calls Tryz.prog 31 #[v,aV a] w fun e w'=>e = .returned (.bool (sat p a)) ∧ Below w.heap.size w w':=by
 obtain ⟨u1,u2,u3,u4,u5,u6,rfl,hh⟩:=h
 have hb1:=(Below.refl w.heap.size w).alloc (Nat.le_refl _) (.cells #[.string (S p.nm),.string (S p.vs),u1,u2,u3,u4,u5,u6,.bool p.ess] 40)
 have i1:=Blk.Is.new w 40 #[.string (S p.nm),.string (S p.vs),u1,u2,u3,u4,u5,u6,.bool p.ess]
 have hb2:=hb1.alloc hb1.size (.cells #[.string (S a.1),.int .i64 a.2.1,.string (S a.2.2)] 54)
 have i2:=Blk.Is.new (w.alloc (.cells #[.string (S p.nm),.string (S p.vs),u1,u2,u3,u4,u5,u6,.bool p.ess] 40)) 54 #[.string (S a.1),.int .i64 a.2.1,.string (S a.2.2)]
 have i1':=i1.alloc (.cells #[.string (S a.1),.int .i64 a.2.1,.string (S a.2.2)] 54)
 have hsz:(w.alloc (.cells #[.string (S p.nm),.string (S p.vs),u1,u2,u3,u4,u5,u6,.bool p.ess] 40)).heap.size = w.heap.size + 1:=by simp
 rw [hsz] at i2
 obtain ⟨W,hW⟩:∃ W,(w.alloc (.cells #[.string (S p.nm),.string (S p.vs),u1,u2,u3,u4,u5,u6,.bool p.ess] 40)).alloc (.cells #[.string (S a.1),.int .i64 a.2.1,.string (S a.2.2)] 54) = W:=⟨_,rfl⟩
 rw [hW] at hb2 i1' i2
 have hbW:w.heap.size + 2 = W.heap.size:=by rw [← hW]; simp
 have c0:=i1'.at (i:=0) rfl
 have c1:=i1'.at (i:=1) rfl
 have c7:=i1'.at (i:=7) rfl
 have d0:=i2.at (i:=0) rfl
 have d1:=i2.at (i:=1) rfl
 have d2:=i2.at (i:=2) rfl
 have cm:=Rl.ymayAtom_any a W (by have:=ha.1; omega) (by have:=ha.2; omega)
 have CS:=Lib.hid (fun w=>Ver.yholds_any a.2.1 (S p.vs) (S a.2.2) w (by rw [S_size]; have:=hL.vs; omega) (by rw [S_size]; have:=ha.2; omega))
 have CP:=Lib.hid (fun (y:Bs) (hy:y.length ≤ 140737488351232) w=>Ver.yholds_any a.2.1 (S y) (S a.2.2) w (by rw [S_size]; omega) (by rw [S_size]; have:=ha.2; omega))
 have hq:((S p.nm).toList == (S a.1).toList) = decide (p.nm = a.1):=Rl.S_beq _ _
 have HP:=Lib.hid (hh.prv.below hb2)
 have HB:=Lib.hid hb2
 have HL:=Lib.hid hL.prv
 obtain ⟨sa,scap,he6⟩:=hh.prv.shape
 obtain ⟨n,hn⟩:∃ n,p.prv.length = n:=⟨_,rfl⟩
 have HN:=Lib.hid hn
 rw [hn] at he6
 obtain ⟨q,hqq⟩:∃ q,w.heap.size + 1 = q:=⟨_,rfl⟩
 have HI2:=Lib.hid i2
 have hs:sat p a = (may a && ((decide (p.nm = a.1) && holdsV a.2.1 p.vs a.2.2) || p.prv.any (pmeets a))):=rfl
 obtain ⟨G,hG⟩:∃ G,sat p a = G:=⟨_,rfl⟩
 have HG:Hid ((may a && ((decide (p.nm = a.1) && holdsV a.2.1 p.vs a.2.2) || p.prv.any (pmeets a))) = G):=by rw [← hG,hs]; exact rfl
 rw [hG]
 have hu:=hW
 subst he6
 clear hb1 i1 hb2 i1' i2 hsz hs hh hn hG hL ha hW hqq hbW
 unfold aV at *
 go_enter Tryz.func31,Tryz.ntmps31
 cases hm:may a with
 | false =>
  rw [hm] at cm
  have hG:G = false:=by rw [← HG.out,hm]; rfl
  subst hG
  clear HG hq hm
  go_wp2_with fail
  clear hu
  refine cm.mono ?_
  rintro e w1 ⟨rfl,k1⟩
  have hb1:=HB.out.trans (k1.mono HB.out.size)
  clear cm
  go_wp2_with fail
  go_ret
  exact ⟨rfl,hb1⟩
 | true =>
  rw [hm] at cm
  have HG1:Hid (((decide (p.nm = a.1) && holdsV a.2.1 p.vs a.2.2) || p.prv.any (pmeets a)) = G):=by rw [← HG.out,hm,Bool.true_and]; exact rfl
  clear HG hm
  go_wp2_with fail
  clear hu
  refine cm.mono ?_
  rintro e w1 ⟨rfl,k1⟩
  have B1:=Lib.hid (HB.out.trans (k1.mono HB.out.size))
  have P1:=Lib.hid (HP.out.below k1)
  have D1:=Lib.hid (Rl.is_on HI2.out k1)
  replace c0:=Rl.cell_on c0 k1
  replace c1:=Rl.cell_on c1 k1
  replace c7:=Rl.cell_on c7 k1
  replace d0:=Rl.cell_on d0 k1
  replace d1:=Rl.cell_on d1 k1
  replace d2:=Rl.cell_on d2 k1
  clear cm k1 HP HI2 HB
  cases hd:decide (p.nm = a.1) with
  | false =>
   rw [hd] at hq
   have HG2:Hid (p.prv.any (pmeets a) = G):=by rw [← HG1.out,hd]; exact rfl
   clear HG1 hd CS
   go_wp2_with fail
   go_loopg [27] n (fun gf s27 wx=>∃ k:Nat,s27 = .int .i64 k ∧ Hid (Below w1.heap.size w1 wx) ∧ Hid (∀ j,j < k → pmeets a (p.prv.getD j nP) = false) ∧ k ≤ n ∧ n ≤ k + gf)
   case atStart=>exact ⟨0,rfl,Below.refl _ _,Lib.hid (fun j hj=>absurd hj (by omega)),by omega,by omega⟩
   case round =>
    obtain ⟨k,rfl,HBW,HE,hkn,hfu⟩:=hrel
    by_cases hlt:k < n
    ·obtain ⟨g',rfl⟩:∃ g',gk = g' + 1:=⟨gk - 1,by omega⟩
     have hlt':(k:Int) < (n:Int):=by omega
     have hk0:(0:Int) ≤ k:=by omega
     have hkl:k < p.prv.length:=by rw [HN.out]; exact hlt
     obtain ⟨_,a',cap',e1,_,hcells⟩:=P1.out.below HBW.out
     rw [HN.out] at e1
     simp only [Value.slice.injEq,true_and] at e1
     obtain ⟨rfl,rfl⟩:=e1
     obtain ⟨kb,off,rfl,hcl2⟩:=hcells (by omega)
     obtain ⟨x0,x1⟩:=hcl2 k hkl
     rw [Nat.mul_comm 2 k] at x0 x1
     have hlim:=HL.out _ (mem_getD (z:=nP) hkl)
     have hyes:=fun h=>Rc.any_at (p:=pmeets a) (z:=nP) hkl h
     have HY:=Lib.hid hyes
     obtain ⟨y,hy⟩:∃ y,p.prv.getD k nP = y:=⟨_,rfl⟩
     have HY2:Hid (pmeets a y = true → G = true):=by
      intro h
      rw [← HG2.out]
      exact HY.out (by rw [hy]; exact h)
     have HE2:Hid (pmeets a y = false → ∀ j,j < k + 1 → pmeets a (p.prv.getD j nP) = false):=fun h j hj=>by
      by_cases e:j = k
      ·rw [e,hy,h]
      ·exact HE.out j (by omega)
     rw [hy] at x0 x1 hlim
     have hp:pmeets a y = (decide (y.1 = a.1) && (decide (a.2.1 = 0) || holdsV a.2.1 y.2 a.2.2)):=rfl
     have hq2:((S y.1).toList == (S a.1).toList) = decide (y.1 = a.1):=Rl.S_beq _ _
     have hb2:=(Below.refl wr.heap.size wr).alloc (Nat.le_refl _) (.cells #[.string (S y.1),.string (S y.2)] 101)
     have i2:=Blk.Is.new wr 101 #[.string (S y.1),.string (S y.2)]
     obtain ⟨V,hV⟩:∃ V,wr.alloc (.cells #[.string (S y.1),.string (S y.2)] 101) = V:=⟨_,rfl⟩
     rw [hV] at hb2 i2
     have hbV:=HBW.out.trans (hb2.mono HBW.out.size)
     have BV:=Lib.hid hbV
     have hD:=Rl.is_on D1.out hbV
     have b0:=hD.at (i:=0) rfl
     have b1:=hD.at (i:=1) rfl
     have b2:=hD.at (i:=2) rfl
     have z0:=i2.at (i:=0) rfl
     have z1:=i2.at (i:=1) rfl
     have cp:=CP.out y.2 hlim.2 V
     rw [S_li,S_li] at cp
     have hu:=hV
     clear hcells hcl2 hyes HY hy hb2 i2 hbV hD hV hlim HBW HE
     cases hd:decide (y.1 = a.1) with
     | false =>
      rw [hd] at hq2
      have hpf:pmeets a y = false:=by rw [hp,hd]; rfl
      have HE3:=Lib.hid (HE2.out hpf)
      clear HE2 HY2 hp hpf cp hd
      go_wp2_with fail
      go_roundg g'
      case measure=>omega
      case rel=>exact ⟨k + 1,by go_num,BV,HE3,by omega,by omega⟩
     | true =>
      rw [hd] at hq2
      by_cases hr:a.2.1 = 0
      ·have hr':(a.2.1 == 0) = true:=by rw [hr]; rfl
       have hG:=HY2.out (by rw [hp,hd,hr]; rfl)
       subst hG
       clear HE2 HY2 hp cp hd hr
       go_wp2_with fail
       go_ret
       exact ⟨rfl,B1.out.trans (BV.out.mono B1.out.size)⟩
      ·have hr':(a.2.1 == 0) = false:=by simp [hr]
       have hp':pmeets a y = holdsV a.2.1 y.2 a.2.2:=by rw [hp,hd,decide_eq_false hr]; rfl
       by_cases hv0:y.2 = []
       ·have hpf:pmeets a y = false:=by rw [hp',hv0]; exact holds_empty _ _
        have HE3:=Lib.hid (HE2.out hpf)
        have hsn:(S y.2).toList = []:=by rw [hv0]; exact s_nil
        clear HE2 HY2 hp hp' hpf cp hd hr hv0
        go_wp2_with fail
        go_roundg g'
        case measure=>omega
        case rel=>exact ⟨k + 1,by go_num,BV,HE3,by omega,by omega⟩
       ·have hsn:¬ (S y.2).toList = []:=s_not hv0
        have hsm:(S y.2).toList.isEmpty = false:=by rw [List.isEmpty_eq_false_iff]; exact hsn
        clear hp hd hr hv0
        cases hz:holdsV a.2.1 y.2 a.2.2 with
        | true =>
         rw [hz] at cp
         have hG:=HY2.out (by rw [hp',hz])
         subst hG
         clear HE2 HY2 hp' hz
         go_wp2_with fail
         refine cp.mono ?_
         rintro e w4 ⟨rfl,k4⟩
         have hb4:=BV.out.trans (k4.mono BV.out.size)
         clear cp
         go_wp2_with fail
         go_ret
         exact ⟨rfl,B1.out.trans (hb4.mono B1.out.size)⟩
        | false =>
         rw [hz] at cp
         have HE3:=Lib.hid (HE2.out (by rw [hp',hz]))
         clear HE2 HY2 hp' hz
         go_wp2_with fail
         refine cp.mono ?_
         rintro e w4 ⟨rfl,k4⟩
         have B4:=Lib.hid (BV.out.trans (k4.mono BV.out.size))
         clear cp k4
         go_wp2_with fail
         go_roundg g'
         case measure=>omega
         case rel=>exact ⟨k + 1,by go_num,B4,HE3,by omega,by omega⟩
    ·obtain rfl:k = n:=by omega
     have hge:¬ (k:Int) < (k:Int):=by omega
     have hG:G = false:=by rw [← HG2.out]; exact Rc.any_no (z:=nP) fun j hj=>HE.out j (by rw [← HN.out]; exact hj)
     subst hG
     have hbf:=B1.out.trans (HBW.out.mono B1.out.size)
     clear HE HG2 HBW
     go_wp2_with fail
     go_ret
     exact ⟨rfl,hbf⟩
  | true =>
   rw [hd] at hq
   have cs:=CS.out w1
   rw [S_li,S_li] at cs
   cases hh:holdsV a.2.1 p.vs a.2.2 with
   | true =>
    rw [hh] at cs
    have hG:G = true:=by rw [← HG1.out,hd,hh]; rfl
    subst hG
    clear HG1 hd hh CS CP
    go_wp2_with fail
    refine cs.mono ?_
    rintro e w2 ⟨rfl,k2⟩
    have hb2:=B1.out.trans (k2.mono B1.out.size)
    clear cs
    go_wp2_with fail
    go_ret
    exact ⟨rfl,hb2⟩
   | false =>
    rw [hh] at cs
    have HG2:Hid (p.prv.any (pmeets a) = G):=by rw [← HG1.out,hd,hh]; exact rfl
    clear HG1 hd hh CS
    go_wp2_with fail
    refine cs.mono ?_
    rintro e w2 ⟨rfl,k2⟩
    have B2:=Lib.hid (B1.out.trans (k2.mono B1.out.size))
    have P2:=Lib.hid (P1.out.below k2)
    have D2:=Lib.hid (Rl.is_on D1.out k2)
    replace c0:=Rl.cell_on c0 k2
    replace c1:=Rl.cell_on c1 k2
    replace c7:=Rl.cell_on c7 k2
    clear cs k2 P1 D1 B1 d0 d1 d2
    go_wp2_with fail
    go_loopg [27] n (fun gf s27 wx=>∃ k:Nat,s27 = .int .i64 k ∧ Hid (Below w2.heap.size w2 wx) ∧ Hid (∀ j,j < k → pmeets a (p.prv.getD j nP) = false) ∧ k ≤ n ∧ n ≤ k + gf)
    case atStart=>exact ⟨0,rfl,Below.refl _ _,Lib.hid (fun j hj=>absurd hj (by omega)),by omega,by omega⟩
    case round =>
     obtain ⟨k,rfl,HBW,HE,hkn,hfu⟩:=hrel
     by_cases hlt:k < n
     ·obtain ⟨g',rfl⟩:∃ g',gk = g' + 1:=⟨gk - 1,by omega⟩
      have hlt':(k:Int) < (n:Int):=by omega
      have hk0:(0:Int) ≤ k:=by omega
      have hkl:k < p.prv.length:=by rw [HN.out]; exact hlt
      obtain ⟨_,a',cap',e1,_,hcells⟩:=P2.out.below HBW.out
      rw [HN.out] at e1
      simp only [Value.slice.injEq,true_and] at e1
      obtain ⟨rfl,rfl⟩:=e1
      obtain ⟨kb,off,rfl,hcl2⟩:=hcells (by omega)
      obtain ⟨x0,x1⟩:=hcl2 k hkl
      rw [Nat.mul_comm 2 k] at x0 x1
      have hlim:=HL.out _ (mem_getD (z:=nP) hkl)
      have hyes:=fun h=>Rc.any_at (p:=pmeets a) (z:=nP) hkl h
      have HY:=Lib.hid hyes
      obtain ⟨y,hy⟩:∃ y,p.prv.getD k nP = y:=⟨_,rfl⟩
      have HY2:Hid (pmeets a y = true → G = true):=by
       intro h
       rw [← HG2.out]
       exact HY.out (by rw [hy]; exact h)
      have HE2:Hid (pmeets a y = false → ∀ j,j < k + 1 → pmeets a (p.prv.getD j nP) = false):=fun h j hj=>by
       by_cases e:j = k
       ·rw [e,hy,h]
       ·exact HE.out j (by omega)
      rw [hy] at x0 x1 hlim
      have hp:pmeets a y = (decide (y.1 = a.1) && (decide (a.2.1 = 0) || holdsV a.2.1 y.2 a.2.2)):=rfl
      have hq2:((S y.1).toList == (S a.1).toList) = decide (y.1 = a.1):=Rl.S_beq _ _
      have hb2:=(Below.refl wr.heap.size wr).alloc (Nat.le_refl _) (.cells #[.string (S y.1),.string (S y.2)] 101)
      have i2:=Blk.Is.new wr 101 #[.string (S y.1),.string (S y.2)]
      obtain ⟨V,hV⟩:∃ V,wr.alloc (.cells #[.string (S y.1),.string (S y.2)] 101) = V:=⟨_,rfl⟩
      rw [hV] at hb2 i2
      have hbV:=HBW.out.trans (hb2.mono HBW.out.size)
      have BV:=Lib.hid hbV
      have hD:=Rl.is_on D2.out hbV
      have b0:=hD.at (i:=0) rfl
      have b1:=hD.at (i:=1) rfl
      have b2:=hD.at (i:=2) rfl
      have z0:=i2.at (i:=0) rfl
      have z1:=i2.at (i:=1) rfl
      have cp:=CP.out y.2 hlim.2 V
      rw [S_li,S_li] at cp
      have hu:=hV
      clear hcells hcl2 hyes HY hy hb2 i2 hbV hD hV hlim HBW HE
      cases hd:decide (y.1 = a.1) with
      | false =>
       rw [hd] at hq2
       have hpf:pmeets a y = false:=by rw [hp,hd]; rfl
       have HE3:=Lib.hid (HE2.out hpf)
       clear HE2 HY2 hp hpf cp hd
       go_wp2_with fail
       go_roundg g'
       case measure=>omega
       case rel=>exact ⟨k + 1,by go_num,BV,HE3,by omega,by omega⟩
      | true =>
       rw [hd] at hq2
       by_cases hr:a.2.1 = 0
       ·have hr':(a.2.1 == 0) = true:=by rw [hr]; rfl
        have hG:=HY2.out (by rw [hp,hd,hr]; rfl)
        subst hG
        clear HE2 HY2 hp cp hd hr
        go_wp2_with fail
        go_ret
        exact ⟨rfl,B2.out.trans (BV.out.mono B2.out.size)⟩
       ·have hr':(a.2.1 == 0) = false:=by simp [hr]
        have hp':pmeets a y = holdsV a.2.1 y.2 a.2.2:=by rw [hp,hd,decide_eq_false hr]; rfl
        by_cases hv0:y.2 = []
        ·have hpf:pmeets a y = false:=by rw [hp',hv0]; exact holds_empty _ _
         have HE3:=Lib.hid (HE2.out hpf)
         have hsn:(S y.2).toList = []:=by rw [hv0]; exact s_nil
         clear HE2 HY2 hp hp' hpf cp hd hr hv0
         go_wp2_with fail
         go_roundg g'
         case measure=>omega
         case rel=>exact ⟨k + 1,by go_num,BV,HE3,by omega,by omega⟩
        ·have hsn:¬ (S y.2).toList = []:=s_not hv0
         have hsm:(S y.2).toList.isEmpty = false:=by rw [List.isEmpty_eq_false_iff]; exact hsn
         clear hp hd hr hv0
         cases hz:holdsV a.2.1 y.2 a.2.2 with
         | true =>
          rw [hz] at cp
          have hG:=HY2.out (by rw [hp',hz])
          subst hG
          clear HE2 HY2 hp' hz
          go_wp2_with fail
          refine cp.mono ?_
          rintro e w4 ⟨rfl,k4⟩
          have hb4:=BV.out.trans (k4.mono BV.out.size)
          clear cp
          go_wp2_with fail
          go_ret
          exact ⟨rfl,B2.out.trans (hb4.mono B2.out.size)⟩
         | false =>
          rw [hz] at cp
          have HE3:=Lib.hid (HE2.out (by rw [hp',hz]))
          clear HE2 HY2 hp' hz
          go_wp2_with fail
          refine cp.mono ?_
          rintro e w4 ⟨rfl,k4⟩
          have B4:=Lib.hid (BV.out.trans (k4.mono BV.out.size))
          clear cp k4
          go_wp2_with fail
          go_roundg g'
          case measure=>omega
          case rel=>exact ⟨k + 1,by go_num,B4,HE3,by omega,by omega⟩
     ·obtain rfl:k = n:=by omega
      have hge:¬ (k:Int) < (k:Int):=by omega
      have hG:G = false:=by rw [← HG2.out]; exact Rc.any_no (z:=nP) fun j hj=>HE.out j (by rw [← HN.out]; exact hj)
      subst hG
      have hbf:=B2.out.trans (HBW.out.mono B2.out.size)
      clear HE HG2 HBW
      go_wp2_with fail
      go_ret
      exact ⟨rfl,hbf⟩
end Ix
end Go.Proofs.YtmhpjjjjgakpiaaGreatDoor
namespace Go.Proofs.YtmhpjjjjgakpiaaGreatDoor
open Go.RowKit
set_option linter.unusedSimpArgs false
set_option linter.unusedVariables false
namespace Un
open Ver (Bs S S_size)
open Rl (At Slc Ats Clss LimA nA aV mem_getD)
open Rc (Pk nPk En nEn Pks Ens PkV PkC Has In Acc append_big infoPk in_low)
open Ix (LimAt sat MayP)
def mk (all:List Pk) (f:Nat → Bool) (W:List Bs) (i:Nat):Nat → Bool:=fun j=>f j || (decide (j < i) && decide (nmA all j ∈ W))
end Un
end Go.Proofs.YtmhpjjjjgakpiaaGreatDoor
namespace Go.Proofs.YtmhpjjjjgakpiaaGreatDoor
open Go.RowKit
set_option linter.unusedSimpArgs false
set_option linter.unusedVariables false
namespace Sa
open Ver (S)
open Rl (At Ats LimA aV nA mem_getD)
open Rc (Pk nPk Pks pk_read)
open Ix (sat ysat_any)
set_option maxRecDepth 100000 in
set_option maxHeartbeats 8000000 in
theorem ymet_any (v1 v2:Value) (c:List At) (l:List Pk) (w:World) (h1:Ats w v1 c) (h2:Pks w v2 l) (hL:∀ x ∈ l,x.Lim) (hC:LimA c) :
  Calls Tryz.prog 18 #[v1,v2] w fun e w'=>e = .returned (.bool (metR l c)) ∧ Below w.heap.size w w':=by
 obtain ⟨sa,scap,rfl⟩:=h1.shape
 obtain ⟨la,lcap,rfl⟩:=h2.shape
 obtain ⟨G,hG⟩:∃ G,metR l c = G:=⟨_,rfl⟩
 have HG:=Lib.hid hG
 rw [hG]
 have H1:=Lib.hid h1
 have H2:=Lib.hid h2
 have HL:=Lib.hid hL
 have HC:=Lib.hid hC
 obtain ⟨m,hm⟩:∃ m,c.length = m:=⟨_,rfl⟩
 have HM:=Lib.hid hm
 obtain ⟨n,hn⟩:∃ n,l.length = n:=⟨_,rfl⟩
 have HN:=Lib.hid hn
 have hm0:=h1.1
 have hn0:=h2.1
 rw [hm] at hm0
 rw [hn] at hn0
 rw [hm,hn]
 clear hm hn hG h1 h2 hL hC
 go_enter Tryz.func18,Tryz.ntmps18
 go_wp2_with fail
 go_loopg [11] m (fun gf s11 wx=>∃ i:Nat,s11 = .int .i64 i ∧ Hid (Below w.heap.size w wx) ∧ Hid (∀ j,j < i → (l.any fun p=>sat p (c.getD j nA)) = false) ∧ i ≤ m ∧ m ≤ i + gf)
 case atStart=>exact ⟨0,rfl,Below.refl _ _,Lib.hid (fun j hj=>absurd hj (by omega)),by omega,by omega⟩
 case round =>
  obtain ⟨i,rfl,HB,HE,him,hfu⟩:=hrel
  by_cases hi:i < m
  ·obtain ⟨g',rfl⟩:∃ g',gk = g' + 1:=⟨gk - 1,by omega⟩
   have hi':(i:Int) < (m:Int):=by omega
   have hi0:(0:Int) ≤ i:=by omega
   have hil:i < c.length:=by rw [HM.out]; exact hi
   obtain ⟨_,a',cap',e1,_,hcells⟩:=H1.out.below HB.out
   rw [HM.out] at e1
   simp only [Value.slice.injEq,true_and] at e1
   obtain ⟨rfl,rfl⟩:=e1
   obtain ⟨kb,off,rfl,hat⟩:=hcells (by omega)
   obtain ⟨x0,x1,x2⟩:=hat i hil
   rw [Nat.mul_comm 3 i] at x0 x1 x2
   have hlim:=HC.out _ (mem_getD (z:=nA) hil)
   obtain ⟨a,ha⟩:∃ a,c.getD i nA = a:=⟨_,rfl⟩
   rw [ha] at x0 x1 x2 hlim
   have hb2:=(Below.refl wr.heap.size wr).alloc (Nat.le_refl _) (.cells #[.string (S a.1),.int .i64 a.2.1,.string (S a.2.2)] 54)
   have i2:=Blk.Is.new wr 54 #[.string (S a.1),.int .i64 a.2.1,.string (S a.2.2)]
   obtain ⟨ba,hba⟩:∃ ba,wr.heap.size = ba:=⟨_,rfl⟩
   obtain ⟨V0,hV0⟩:∃ V0,wr.alloc (.cells #[.string (S a.1),.int .i64 a.2.1,.string (S a.2.2)] 54) = V0:=⟨_,rfl⟩
   rw [hV0] at hb2 i2
   rw [hba] at i2
   have B0:=Lib.hid (HB.out.trans (hb2.mono HB.out.size))
   have IA:=Lib.hid i2
   have HLA:=Lib.hid hlim
   have HAI:=Lib.hid ha
   have HIL:=Lib.hid hil
   have hu:=hV0
   clear hcells hat hlim ha hb2 i2 hV0 HB hil
   go_wp2_with fail
   clear hu x0 x1 x2
   go_loopg [17] n (fun gf s17 wx=>∃ k:Nat,s17 = .int .i64 k ∧ Hid (Below w.heap.size w wx ∧ Blk.Is wx ba 54 #[.string (S a.1),.int .i64 a.2.1,.string (S a.2.2)]) ∧ Hid (∀ j,j < k → sat (l.getD j nPk) a = false) ∧ k ≤ n ∧ n ≤ k + gf)
   case atStart=>exact ⟨0,rfl,Lib.hid ⟨B0.out,IA.out⟩,Lib.hid (fun j hj=>absurd hj (by omega)),by omega,by omega⟩
   case round =>
    clear B0 IA
    obtain ⟨k,rfl,HBI,HR,hkn,hfu3⟩:=hrel
    by_cases hk:k < n
    ·obtain ⟨g3,rfl⟩:∃ g3,gk = g3 + 1:=⟨gk - 1,by omega⟩
     have hk':(k:Int) < (n:Int):=by omega
     have hk0:(0:Int) ≤ k:=by omega
     have hkl:k < l.length:=by rw [HN.out]; exact hk
     obtain ⟨_,a',cap',e1,_,hcells⟩:=H2.out.below HBI.out.1
     rw [HN.out] at e1
     simp only [Value.slice.injEq,true_and] at e1
     obtain ⟨rfl,rfl⟩:=e1
     obtain ⟨kc,offc,rfl,hcl2⟩:=hcells (by omega)
     obtain ⟨a1,n1,c1,a2,n2,c2,a3,n3,c3,a4,n4,c4,a5,n5,c5,a6,n6,c6,⟨x0,x1,x2,x3,x4,x5,x6,x7,x8⟩,hh⟩:=pk_read (hcl2 k hkl)
     rw [Nat.mul_comm 9 k] at x0 x1 x2 x3 x4 x5 x6 x7 x8
     have hlim:=HL.out _ (mem_getD (z:=nPk) hkl)
     obtain ⟨x,hx⟩:∃ x,l.getD k nPk = x:=⟨_,rfl⟩
     rw [hx] at x0 x1 x8 hlim hh
     have hb2:=(Below.refl wr.heap.size wr).alloc (Nat.le_refl _) (.cells #[.string (S x.nm),.string (S x.vs),.slice a1 n1 c1,.slice a2 n2 c2,.slice a3 n3 c3,.slice a4 n4 c4,.slice a5 n5 c5,.slice a6 n6 c6,.bool x.ess] 40)
     have i2:=Blk.Is.new wr 40 #[.string (S x.nm),.string (S x.vs),.slice a1 n1 c1,.slice a2 n2 c2,.slice a3 n3 c3,.slice a4 n4 c4,.slice a5 n5 c5,.slice a6 n6 c6,.bool x.ess]
     obtain ⟨V,hV⟩:∃ V,wr.alloc (.cells #[.string (S x.nm),.string (S x.vs),.slice a1 n1 c1,.slice a2 n2 c2,.slice a3 n3 c3,.slice a4 n4 c4,.slice a5 n5 c5,.slice a6 n6 c6,.bool x.ess] 40) = V:=⟨_,rfl⟩
     rw [hV] at hb2 i2
     have hbV:=HBI.out.1.trans (hb2.mono HBI.out.1.size)
     have iaV:=Rl.is_on HBI.out.2 hb2
     have BV:=Lib.hid hbV
     have IAV:=Lib.hid iaV
     have d0:=iaV.at (i:=0) rfl
     have d1:=iaV.at (i:=1) rfl
     have d2:=iaV.at (i:=2) rfl
     have z0:=i2.at (i:=0) rfl
     have z1:=i2.at (i:=1) rfl
     have z2:=i2.at (i:=2) rfl
     have z3:=i2.at (i:=3) rfl
     have z4:=i2.at (i:=4) rfl
     have z5:=i2.at (i:=5) rfl
     have z6:=i2.at (i:=6) rfl
     have z7:=i2.at (i:=7) rfl
     have z8:=i2.at (i:=8) rfl
     have cs:=ysat_any (.agg #[.string (S x.nm),.string (S x.vs),.slice a1 n1 c1,.slice a2 n2 c2,.slice a3 n3 c3,.slice a4 n4 c4,.slice a5 n5 c5,.slice a6 n6 c6,.bool x.ess]) x a V ⟨_,_,_,_,_,_,rfl,hh.below hb2⟩ hlim HLA.out
     unfold aV at cs
     have hu:=hV
     have HX:=Lib.hid hx
     have HKL:=Lib.hid hkl
     clear hcells hcl2 hb2 i2 hbV iaV hV hlim HBI hx hkl hh
     cases hs:sat x a with
     | true =>
      rw [hs] at cs
      have hG:G = true:=by
       rw [← HG.out]
       refine Rc.any_at (p:=fun a=>l.any fun p=>sat p a) (z:=nA) HIL.out ?_
       show (l.any fun p=>sat p (c.getD i nA)) = true
       rw [HAI.out]
       exact Rc.any_at (p:=fun p=>sat p a) (z:=nPk) HKL.out (by show sat (l.getD k nPk) a = true; rw [HX.out,hs])
      subst hG
      clear HR HE HG hs
      go_wp2_with fail
      refine cs.mono ?_
      rintro e w4 ⟨rfl,k4⟩
      have hb4:=BV.out.trans (k4.mono BV.out.size)
      clear cs
      go_wp2_with fail
      go_ret
      exact ⟨rfl,hb4⟩
     | false =>
      rw [hs] at cs
      have HR2:Hid (∀ j,j < k + 1 → sat (l.getD j nPk) a = false):=Lib.hid fun j hj=>by
       by_cases e:j = k
       ·rw [e,HX.out,hs]
       ·exact HR.out j (by omega)
      clear HR hs
      go_wp2_with fail
      refine cs.mono ?_
      rintro e w4 ⟨rfl,k4⟩
      have B4:=Lib.hid (⟨BV.out.trans (k4.mono BV.out.size),Rl.is_on IAV.out k4⟩:Below w.heap.size w w4 ∧ Blk.Is w4 ba 54 #[.string (S a.1),.int .i64 a.2.1,.string (S a.2.2)])
      clear cs k4
      go_wp2_with fail
      go_roundg g3
      case measure=>omega
      case rel=>exact ⟨k + 1,by go_num,B4,HR2,by omega,by omega⟩
    ·have hge:¬ (k:Int) < (n:Int):=by omega
     obtain rfl:k = n:=by omega
     have HE2:Hid (∀ j,j < i + 1 → (l.any fun p=>sat p (c.getD j nA)) = false):=Lib.hid fun j hj=>by
      by_cases e:j = i
      ·rw [e,HAI.out]
       exact Rc.any_no (p:=fun p=>sat p a) (z:=nPk) fun t ht=>HR.out t (by rw [← HN.out]; exact ht)
      ·exact HE.out j (by omega)
     have B4:=Lib.hid HBI.out.1
     clear HR HE HBI
     go_wp2_with fail
     go_roundg g'
     case measure=>omega
     case rel=>exact ⟨i + 1,by go_num,B4,HE2,by omega,by omega⟩
  ·have hgi:¬ (i:Int) < (m:Int):=by omega
   obtain rfl:i = m:=by omega
   have hG:G = false:=by rw [← HG.out]; exact Rc.any_no (p:=fun a=>l.any fun p=>sat p a) (z:=nA) fun j hj=>HE.out j (by rw [← HM.out]; exact hj)
   subst hG
   clear HE HG
   go_wp2_with fail
   go_ret
   exact ⟨rfl,HB.out⟩
end Sa
end Go.Proofs.YtmhpjjjjgakpiaaGreatDoor

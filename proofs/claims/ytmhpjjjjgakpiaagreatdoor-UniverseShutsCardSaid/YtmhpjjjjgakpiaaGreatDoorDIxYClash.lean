/-
The reference's forbids and Clash.
-/
import Derived.Test.YtmhpjjjjgakpiaaGreatDoorDStaYMet
import Derived.Test.YtmhpjjjjgakpiaaGreatDoorDTextTexts
import Derived.Test.YtmhpjjjjgakpiaaGreatDoorDRecMay
namespace Go.Proofs.YtmhpjjjjgakpiaaGreatDoor
open Go.RowKit
set_option linter.unusedSimpArgs false
set_option linter.unusedVariables false
namespace Ix
open Ver (S)
open Rl (At Ats LimA aV nA mem_getD)
open Rc (Pk PkV)
theorem index_two (cs:Array Value) (j:Nat) (hj:j < 2) (v:Value) (hv:cs[j]? = some v) (w:World):(Instr.index 127 (.agg cs) (.int .i64 j)).run Tryz.prog w = .ok v w :=
 Held.run_index_one (e:=37) (n:=2) (by kernel_rfl) Tryz.underlying37 rfl (by kernel_rfl) hj hv w
def two (p:Pk):List (List At):=[p.con,p.brk]
theorem against_two (p q:Pk):against p q = (two p).any (fun c=>c.any (sat q)):=by unfold against two; simp
set_option maxRecDepth 100000 in
set_option maxHeartbeats 8000000 in
theorem yforbids_any (v1 v2:Value) (p q:Pk) (w:World) (h1:PkV w v1 p) (h2:PkV w v2 q) (l1:p.Lim) (l2:q.Lim) :
  Calls Tryz.prog 58 #[v1,v2] w fun e w'=>e = .returned (.bool (against p q)) ∧ Below w.heap.size w w':=by
 obtain ⟨u1,u2,u3,u4,u5,u6,rfl,hh⟩:=h1
 obtain ⟨y1,y2,y3,y4,y5,y6,rfl,gg⟩:=h2
 have hb1:=(Below.refl w.heap.size w).alloc (Nat.le_refl _) (.cells #[.string (S p.nm),.string (S p.vs),u1,u2,u3,u4,u5,u6,.bool p.ess] 40)
 have i1:=Blk.Is.new w 40 #[.string (S p.nm),.string (S p.vs),u1,u2,u3,u4,u5,u6,.bool p.ess]
 have hb2:=hb1.alloc hb1.size (.cells #[.string (S q.nm),.string (S q.vs),y1,y2,y3,y4,y5,y6,.bool q.ess] 40)
 have i2:=Blk.Is.new (w.alloc (.cells #[.string (S p.nm),.string (S p.vs),u1,u2,u3,u4,u5,u6,.bool p.ess] 40)) 40 #[.string (S q.nm),.string (S q.vs),y1,y2,y3,y4,y5,y6,.bool q.ess]
 have i1':=i1.alloc (.cells #[.string (S q.nm),.string (S q.vs),y1,y2,y3,y4,y5,y6,.bool q.ess] 40)
 have hsz:(w.alloc (.cells #[.string (S p.nm),.string (S p.vs),u1,u2,u3,u4,u5,u6,.bool p.ess] 40)).heap.size = w.heap.size + 1:=by simp
 rw [hsz] at i2
 obtain ⟨W,hW⟩:∃ W,(w.alloc (.cells #[.string (S p.nm),.string (S p.vs),u1,u2,u3,u4,u5,u6,.bool p.ess] 40)).alloc (.cells #[.string (S q.nm),.string (S q.vs),y1,y2,y3,y4,y5,y6,.bool q.ess] 40) = W:=⟨_,rfl⟩
 rw [hW] at hb2 i1' i2
 have c5:=i1'.at (i:=5) rfl
 have c6:=i1'.at (i:=6) rfl
 have HC:=Lib.hid (hh.con.below hb2)
 have HK:=Lib.hid (hh.brk.below hb2)
 have HI2:=Lib.hid i2
 have HG:=Lib.hid (gg.below hb2)
 have HB:=Lib.hid hb2
 have LL:Hid (∀ c ∈ two p,LimA c):=fun c hc=>by
  unfold two at hc
  simp only [List.mem_cons,List.not_mem_nil,or_false] at hc
  rcases hc with rfl | rfl
  ·exact l1.con
  ·exact l1.brk
 have L2:=Lib.hid l2
 obtain ⟨s4,t4,e4⟩:=hh.con.shape
 obtain ⟨s5,t5,e5⟩:=hh.brk.shape
 generalize p.con.length = n4 at e4
 generalize p.brk.length = n5 at e5
 obtain ⟨s1,r1,e1⟩:=gg.pre.shape
 generalize q.pre.length = m1 at e1
 obtain ⟨s2,r2,e2⟩:=gg.dep.shape
 generalize q.dep.length = m2 at e2
 obtain ⟨s3,r3,e3⟩:=gg.rcm.shape
 generalize q.rcm.length = m3 at e3
 obtain ⟨s6,r4,e6⟩:=gg.con.shape
 generalize q.con.length = m4 at e6
 obtain ⟨s7,r5,e7⟩:=gg.brk.shape
 generalize q.brk.length = m5 at e7
 obtain ⟨s8,r6,e8⟩:=gg.prv.shape
 generalize q.prv.length = m6 at e8
 subst e4 e5 e1 e2 e3 e6 e7 e8
 obtain ⟨G,hG⟩:∃ G,against p q = G:=⟨_,rfl⟩
 have HGG:Hid ((two p).any (fun c=>c.any (sat q)) = G):=by rw [← hG,against_two]; exact rfl
 rw [hG]
 obtain ⟨b2,hb2e⟩:∃ b,w.heap.size + 1 = b:=⟨_,rfl⟩
 have HBE:=Lib.hid hb2e
 have hu:=hW
 clear hb1 i1 hb2 i1' i2 hsz hh gg l1 l2 hG hW hb2e
 go_enter Tryz.func58,Tryz.ntmps58
 go_wp2_with fail
 clear hu c5 c6
 go_loopg [14] 2 (fun gf s14 wx=>∃ i:Nat,s14 = .int .i64 i ∧ Hid (Below W.heap.size W wx) ∧ Hid (∀ j,j < i → ((two p).getD j []).any (sat q) = false) ∧ i ≤ 2 ∧ 2 ≤ i + gf)
 case atStart=>exact ⟨0,rfl,Below.refl _ _,Lib.hid (fun j hj=>absurd hj (by omega)),by omega,by omega⟩
 case round =>
  obtain ⟨i,rfl,HBW,HE,hi2,hfu⟩:=hrel
  by_cases hi:i < 2
  ·obtain ⟨g',rfl⟩:∃ g',gk = g' + 1:=⟨gk - 1,by omega⟩
   have hi':(i:Int) < 2:=by omega
   obtain ⟨xa,xm,xc,hv,hcl⟩:∃ xa xm xc,(#[.slice s4 n4 t4,.slice s5 n5 t5]:Array Value)[i]? = some (.slice xa xm xc) ∧ Ats W (.slice xa xm xc) ((two p).getD i []):=by
    match i,hi with
    | 0,_=>exact ⟨_,_,_,rfl,HC.out⟩
    | 1,_=>exact ⟨_,_,_,rfl,HK.out⟩
   have hidx:=fun w=>index_two #[.slice s4 n4 t4,.slice s5 n5 t5] i hi _ hv w
   have hlim:=LL.out _ (mem_getD (z:=[]) (show i < (two p).length from hi))
   obtain ⟨cl,hcl0⟩:∃ cl,(two p).getD i [] = cl:=⟨_,rfl⟩
   rw [hcl0] at hcl hlim
   have HCL:=Lib.hid hcl0
   obtain ⟨_,_,em⟩:=hcl.shape
   simp only [Value.slice.injEq] at em
   have HM:=Lib.hid em.2.1
   have HA:=Lib.hid hcl
   have HLI:=Lib.hid hlim
   have hxb:xm ≤ 1152921504606846976:=by rw [HM.out]; exact hcl.1
   obtain ⟨wo,hwo⟩:∃ wo,wr = wo:=⟨_,rfl⟩
   subst hwo
   clear hcl hcl0 em hv hlim
   go_wp2_with fail
   go_loopg [19] xm (fun gf s19 wx=>∃ k:Nat,s19 = .int .i64 k ∧ Hid (Below W.heap.size W wx) ∧ Hid (∀ j,j < k → sat q (cl.getD j nA) = false) ∧ k ≤ xm ∧ xm ≤ k + gf)
   case atStart=>exact ⟨0,rfl,HBW,Lib.hid (fun j hj=>absurd hj (by omega)),by omega,by omega⟩
   case round =>
    obtain ⟨k,rfl,HBX,HR,hkm,hfu3⟩:=hrel
    by_cases hk:k < xm
    ·obtain ⟨g3,rfl⟩:∃ g3,gk = g3 + 1:=⟨gk - 1,by omega⟩
     have hk':(k:Int) < (xm:Int):=by omega
     have hk0:(0:Int) ≤ k:=by omega
     have hkl:k < cl.length:=by rw [← HM.out]; exact hk
     obtain ⟨_,a',cap',e1,_,hcells⟩:=HA.out.below HBX.out
     rw [← HM.out] at e1 hcells
     simp only [Value.slice.injEq,true_and] at e1
     obtain ⟨rfl,rfl⟩:=e1
     obtain ⟨kb,off,rfl,hcl2⟩:=hcells (by omega)
     obtain ⟨x0,x1,x2⟩:=hcl2 k hk
     rw [Nat.mul_comm 3 k] at x0 x1 x2
     have hlim:=HLI.out _ (mem_getD (z:=nA) hkl)
     obtain ⟨x,hx⟩:∃ x,cl.getD k nA = x:=⟨_,rfl⟩
     rw [hx] at x0 x1 x2 hlim
     have hb2:=(Below.refl wr.heap.size wr).alloc (Nat.le_refl _) (.cells #[.string (S x.1),.int .i64 x.2.1,.string (S x.2.2)] 54)
     have i2:=Blk.Is.new wr 54 #[.string (S x.1),.int .i64 x.2.1,.string (S x.2.2)]
     obtain ⟨V,hV⟩:∃ V,wr.alloc (.cells #[.string (S x.1),.int .i64 x.2.1,.string (S x.2.2)] 54) = V:=⟨_,rfl⟩
     rw [hV] at hb2 i2
     have hbV:=HBX.out.trans (hb2.mono HBX.out.size)
     have BV:=Lib.hid hbV
     have hD:=Rl.is_on HI2.out hbV
     have d0:=hD.at (i:=0) rfl
     have d1:=hD.at (i:=1) rfl
     have d2:=hD.at (i:=2) rfl
     have d3:=hD.at (i:=3) rfl
     have d4:=hD.at (i:=4) rfl
     have d5:=hD.at (i:=5) rfl
     have d6:=hD.at (i:=6) rfl
     have d7:=hD.at (i:=7) rfl
     have d8:=hD.at (i:=8) rfl
     have z0:=i2.at (i:=0) rfl
     have z1:=i2.at (i:=1) rfl
     have z2:=i2.at (i:=2) rfl
     have cs:=ysat_any (.agg #[.string (S q.nm),.string (S q.vs),.slice s1 m1 r1,.slice s2 m2 r2,.slice s3 m3 r3,.slice s6 m4 r4,.slice s7 m5 r5,.slice s8 m6 r6,.bool q.ess]) q x V ⟨_,_,_,_,_,_,rfl,HG.out.below hbV⟩ L2.out hlim
     unfold aV at cs
     have hu:=hV
     have HX:=Lib.hid hx
     have HKL:=Lib.hid hkl
     clear hcells hcl2 hb2 i2 hbV hD hV hlim HBX hx hkl
     cases hs:sat q x with
     | true =>
      rw [hs] at cs
      have hG:G = true:=by
       rw [← HGG.out]
       refine Rc.any_at (p:=fun c=>c.any (sat q)) (z:=[]) (show i < (two p).length from hi) ?_
       show ((two p).getD i []).any (sat q) = true
       rw [HCL.out]
       exact Rc.any_at (p:=sat q) (z:=nA) HKL.out (by rw [HX.out]; exact hs)
      subst hG
      clear HR HE HGG hs
      go_wp2_with fail
      refine cs.mono ?_
      rintro e w4 ⟨rfl,k4⟩
      have hb4:=BV.out.trans (k4.mono BV.out.size)
      clear cs
      go_wp2_with fail
      go_ret
      exact ⟨rfl,HB.out.trans (hb4.mono HB.out.size)⟩
     | false =>
      rw [hs] at cs
      have HR2:Hid (∀ j,j < k + 1 → sat q (cl.getD j nA) = false):=Lib.hid fun j hj=>by
       by_cases e:j = k
       ·rw [e,HX.out,hs]
       ·exact HR.out j (by omega)
      clear HR hs
      go_wp2_with fail
      refine cs.mono ?_
      rintro e w4 ⟨rfl,k4⟩
      have B4:=Lib.hid (BV.out.trans (k4.mono BV.out.size))
      clear cs k4
      go_wp2_with fail
      go_roundg g3
      case measure=>omega
      case rel=>exact ⟨k + 1,by go_num,B4,HR2,by omega,by omega⟩
    ·have hge:¬ (k:Int) < (xm:Int):=by omega
     obtain rfl:k = xm:=by omega
     have HE2:Hid (∀ j,j < i + 1 → ((two p).getD j []).any (sat q) = false):=Lib.hid fun j hj=>by
      by_cases e:j = i
      ·rw [e,HCL.out]
       exact Rc.any_no (z:=nA) fun t ht=>HR.out t (by rw [HM.out]; exact ht)
      ·exact HE.out j (by omega)
     clear HR HE
     go_wp2_with fail
     go_roundg g'
     case measure=>omega
     case rel=>exact ⟨i + 1,by go_num,HBX,HE2,by omega,by omega⟩
  ·have hgi:¬ (i:Int) < 2:=by omega
   obtain rfl:i = 2:=by omega
   have hG:G = false:=by rw [← HGG.out]; exact Rc.any_no (p:=fun c=>c.any (sat q)) (z:=[]) fun j hj=>HE.out j hj
   subst hG
   have hbf:=HB.out.trans (HBW.out.mono HB.out.size)
   clear HE HGG HBW
   go_wp2_with fail
   go_ret
   exact ⟨rfl,hbf⟩
set_option maxRecDepth 100000 in
set_option maxHeartbeats 4000000 in
theorem yclash_any (v1 v2:Value) (p q:Pk) (w:World) (h1:PkV w v1 p) (h2:PkV w v2 q) (l1:p.Lim) (l2:q.Lim) :
  Calls Tryz.prog 37 #[v1,v2] w fun e w'=>e = .returned (.bool (clash p q)) ∧ Below w.heap.size w w':=by
 obtain ⟨u1,u2,u3,u4,u5,u6,rfl,hh⟩:=h1
 obtain ⟨y1,y2,y3,y4,y5,y6,rfl,gg⟩:=h2
 have hb1:=(Below.refl w.heap.size w).alloc (Nat.le_refl _) (.cells #[.string (S p.nm),.string (S p.vs),u1,u2,u3,u4,u5,u6,.bool p.ess] 40)
 have i1:=Blk.Is.new w 40 #[.string (S p.nm),.string (S p.vs),u1,u2,u3,u4,u5,u6,.bool p.ess]
 have hb2:=hb1.alloc hb1.size (.cells #[.string (S q.nm),.string (S q.vs),y1,y2,y3,y4,y5,y6,.bool q.ess] 40)
 have i2:=Blk.Is.new (w.alloc (.cells #[.string (S p.nm),.string (S p.vs),u1,u2,u3,u4,u5,u6,.bool p.ess] 40)) 40 #[.string (S q.nm),.string (S q.vs),y1,y2,y3,y4,y5,y6,.bool q.ess]
 have i1':=i1.alloc (.cells #[.string (S q.nm),.string (S q.vs),y1,y2,y3,y4,y5,y6,.bool q.ess] 40)
 have hsz:(w.alloc (.cells #[.string (S p.nm),.string (S p.vs),u1,u2,u3,u4,u5,u6,.bool p.ess] 40)).heap.size = w.heap.size + 1:=by simp
 rw [hsz] at i2
 obtain ⟨W,hW⟩:∃ W,(w.alloc (.cells #[.string (S p.nm),.string (S p.vs),u1,u2,u3,u4,u5,u6,.bool p.ess] 40)).alloc (.cells #[.string (S q.nm),.string (S q.vs),y1,y2,y3,y4,y5,y6,.bool q.ess] 40) = W:=⟨_,rfl⟩
 rw [hW] at hb2 i1' i2
 have HP:=Lib.hid (show PkV W (.agg #[.string (S p.nm),.string (S p.vs),u1,u2,u3,u4,u5,u6,.bool p.ess]) p from ⟨_,_,_,_,_,_,rfl,hh.below hb2⟩)
 have HQ:=Lib.hid (show PkV W (.agg #[.string (S q.nm),.string (S q.vs),y1,y2,y3,y4,y5,y6,.bool q.ess]) q from ⟨_,_,_,_,_,_,rfl,gg.below hb2⟩)
 have c0:=i1'.at (i:=0) rfl
 have c1:=i1'.at (i:=1) rfl
 have c2:=i1'.at (i:=2) rfl
 have c3:=i1'.at (i:=3) rfl
 have c4:=i1'.at (i:=4) rfl
 have c5:=i1'.at (i:=5) rfl
 have c6:=i1'.at (i:=6) rfl
 have c7:=i1'.at (i:=7) rfl
 have c8:=i1'.at (i:=8) rfl
 have d0:=i2.at (i:=0) rfl
 have d1:=i2.at (i:=1) rfl
 have d2:=i2.at (i:=2) rfl
 have d3:=i2.at (i:=3) rfl
 have d4:=i2.at (i:=4) rfl
 have d5:=i2.at (i:=5) rfl
 have d6:=i2.at (i:=6) rfl
 have d7:=i2.at (i:=7) rfl
 have d8:=i2.at (i:=8) rfl
 have ca:=yforbids_any _ _ p q W HP.out HQ.out l1 l2
 have CBH:Hid (∀ w':World,Below W.heap.size W w' → Calls Tryz.prog 58 #[.agg #[.string (S q.nm),.string (S q.vs),y1,y2,y3,y4,y5,y6,.bool q.ess],.agg #[.string (S p.nm),.string (S p.vs),u1,u2,u3,u4,u5,u6,.bool p.ess]] w' fun e w''=>e = .returned (.bool (against q p)) ∧ Below w'.heap.size w' w''):=fun w' hb=>yforbids_any _ _ q p w' (HQ.out.below hb) (HP.out.below hb) l2 l1
 have hs:clash p q = (!decide (p.nm = q.nm) && (against p q || against q p)):=rfl
 have hq:((S p.nm).toList == (S q.nm).toList) = decide (p.nm = q.nm):=Rl.S_beq _ _
 rw [hs]
 have HB:=Lib.hid hb2
 obtain ⟨s1,t1,e1⟩:=hh.pre.shape
 generalize p.pre.length = n1 at e1
 obtain ⟨s2,t2,e2⟩:=hh.dep.shape
 generalize p.dep.length = n2 at e2
 obtain ⟨s3,t3,e3⟩:=hh.rcm.shape
 generalize p.rcm.length = n3 at e3
 obtain ⟨s4,t4,e4⟩:=hh.con.shape
 generalize p.con.length = n4 at e4
 obtain ⟨s5,t5,e5⟩:=hh.brk.shape
 generalize p.brk.length = n5 at e5
 obtain ⟨s6,t6,e6⟩:=hh.prv.shape
 generalize p.prv.length = n6 at e6
 obtain ⟨s7,t7,e7⟩:=gg.pre.shape
 generalize q.pre.length = n7 at e7
 obtain ⟨s8,t8,e8⟩:=gg.dep.shape
 generalize q.dep.length = n8 at e8
 obtain ⟨s9,t9,e9⟩:=gg.rcm.shape
 generalize q.rcm.length = n9 at e9
 obtain ⟨s10,t10,e10⟩:=gg.con.shape
 generalize q.con.length = n10 at e10
 obtain ⟨s11,t11,e11⟩:=gg.brk.shape
 generalize q.brk.length = n11 at e11
 obtain ⟨s12,t12,e12⟩:=gg.prv.shape
 generalize q.prv.length = n12 at e12
 clear hb1 i1 hb2 i1' i2 hsz hs hh gg l1 l2 HP HQ
 generalize against p q = A at *
 generalize against q p = B at *
 generalize p.ess = E at *
 generalize q.ess = F at *
 generalize S p.nm = N1 at *
 generalize S p.vs = N2 at *
 generalize S q.nm = N3 at *
 generalize S q.vs = N4 at *
 subst e1 e2 e3 e4 e5 e6 e7 e8 e9 e10 e11 e12
 cases hd:decide (p.nm = q.nm) with
 | true =>
  rw [hd] at hq
  rw [Bool.not_true,Bool.false_and]
  clear ca hd
  go_enter Tryz.func37,Tryz.ntmps37
  go_wp2_with fail
  go_ret
  exact ⟨rfl,HB.out⟩
 | false =>
 rw [hd] at hq
 rw [Bool.not_false,Bool.true_and]
 clear hd
 cases A with
 | true =>
  rw [Bool.true_or]
  go_enter Tryz.func37,Tryz.ntmps37
  go_wp2_with fail
  refine ca.mono ?_
  rintro e w1 ⟨rfl,k1⟩
  have hb1:=HB.out.trans (k1.mono HB.out.size)
  clear ca
  go_wp2_with fail
  go_ret
  exact ⟨rfl,hb1⟩
 | false =>
  rw [Bool.false_or]
  go_enter Tryz.func37,Tryz.ntmps37
  go_wp2_with fail
  refine ca.mono ?_
  rintro e w1 ⟨rfl,k1⟩
  have hb1:=Lib.hid (HB.out.trans (k1.mono HB.out.size))
  have c0':=Rl.cell_on c0 k1
  have c1':=Rl.cell_on c1 k1
  have c2':=Rl.cell_on c2 k1
  have c3':=Rl.cell_on c3 k1
  have c4':=Rl.cell_on c4 k1
  have c5':=Rl.cell_on c5 k1
  have c6':=Rl.cell_on c6 k1
  have c7':=Rl.cell_on c7 k1
  have c8':=Rl.cell_on c8 k1
  have d0':=Rl.cell_on d0 k1
  have d1':=Rl.cell_on d1 k1
  have d2':=Rl.cell_on d2 k1
  have d3':=Rl.cell_on d3 k1
  have d4':=Rl.cell_on d4 k1
  have d5':=Rl.cell_on d5 k1
  have d6':=Rl.cell_on d6 k1
  have d7':=Rl.cell_on d7 k1
  have d8':=Rl.cell_on d8 k1
  have cb:=CBH.out w1 k1
  clear ca k1 c0 d0 c1 d1 c2 d2 c3 d3 c4 d4 c5 d5 c6 d6 c7 d7 c8 d8
  go_wp2_with fail
  refine cb.mono ?_
  rintro e w2 ⟨rfl,k2⟩
  have hb2:=hb1.out.trans (k2.mono hb1.out.size)
  clear cb
  go_wp2_with fail
  go_ret
  exact ⟨rfl,hb2⟩
end Ix
end Go.Proofs.YtmhpjjjjgakpiaaGreatDoor

/-
Clash: who may not be there with whom.
-/
import Derived.Test.YtelofmeapplfpaaGreatDoorAIxSat
namespace Go.Proofs.YtelofmeapplfpaaGreatDoor
open Go.RowKit
set_option linter.unusedSimpArgs false
set_option linter.unusedVariables false
namespace Ix
open Ver (S)
open Rl (At Ats LimA Vars may aV nA mem_getD)
open Rc (Pk PkV PkB)
set_option maxRecDepth 100000 in
set_option maxHeartbeats 2000000 in
theorem againstFn_any (a:At) (g:Nat) (q:Pk) (w:World) (hg:PkB w g q) (h1:LimAt a) (hq:q.Lim) (hv:Vars w) :
  Calls Tryz.prog 71 #[aV a,.pointer (some ⟨g,0,none⟩)] w fun e w'=>e = .returned (.bool (sat q a)) ∧ Below w.heap.size w w':=by
 obtain ⟨a1,n1,c1,a2,n2,c2,a3,n3,c3,a4,n4,c4,a5,n5,c5,a6,n6,c6,i0,h2⟩:=hg
 have hb1:=(Below.refl w.heap.size w).alloc (Nat.le_refl _) (.cells #[.string (S a.1),.int .i64 a.2.1,.string (S a.2.2)] 28)
 have i1:=Blk.Is.new w 28 #[.string (S a.1),.int .i64 a.2.1,.string (S a.2.2)]
 have i0':=i0.alloc (.cells #[.string (S a.1),.int .i64 a.2.1,.string (S a.2.2)] 28)
 have ca:=satisfies_any _ q a _ ⟨_,_,_,_,_,_,rfl,h2.below hb1⟩ hq h1 (hv.on hb1)
 unfold aV at *
 obtain ⟨W,hW⟩:∃ W,w.alloc (.cells #[.string (S a.1),.int .i64 a.2.1,.string (S a.2.2)] 28) = W:=⟨_,rfl⟩
 rw [hW] at hb1 i1 i0' ca
 have c0x:=i0'.at (i:=0) rfl
 have c1x:=i0'.at (i:=1) rfl
 have c2x:=i0'.at (i:=2) rfl
 have c3x:=i0'.at (i:=3) rfl
 have c4x:=i0'.at (i:=4) rfl
 have c5x:=i0'.at (i:=5) rfl
 have c6x:=i0'.at (i:=6) rfl
 have c7x:=i0'.at (i:=7) rfl
 have c8x:=i0'.at (i:=8) rfl
 have d0x:=i1.at (i:=0) rfl
 have d1x:=i1.at (i:=1) rfl
 have d2x:=i1.at (i:=2) rfl
 have HB:=Lib.hid hb1
 clear hb1 i1 i0' i0 hv h1 h2 hq
 generalize sat q a = T at *
 go_enter Tryz.func71,Tryz.ntmps71
 go_wp2_with fail
 refine ca.mono ?_
 rintro e w1 ⟨rfl,k1⟩
 have hb1:=HB.out.trans (k1.mono HB.out.size)
 clear ca
 go_wp2_with fail
 go_ret
 exact ⟨rfl,hb1⟩
set_option maxRecDepth 100000 in
set_option maxHeartbeats 8000000 in
theorem indexAtom_any (v:Value) (l:List At) (g:Nat) (q:Pk) (w:World) (h:Ats w v l) (hg:PkB w g q) (hL:LimA l) (hq:q.Lim) (hm:Vars w) :
  Calls Tryz.prog 104 #[v,.func (.func 71) #[] #[.pointer (some ⟨g,0,none⟩)]] w fun e w'=>∃ i:Int,e = .returned (.int .i64 i) ∧ (0 ≤ i ↔ l.any (sat q) = true) ∧ Below w.heap.size w w':=by
 obtain ⟨sa,cap,rfl⟩:=h.shape
 obtain ⟨G,hG⟩:∃ G,l.any (sat q) = G:=⟨_,rfl⟩
 have HG:=Lib.hid hG
 rw [hG]
 have H:=Lib.hid h
 have HPB:=Lib.hid hg
 have HL:=Lib.hid hL
 have HM:=Lib.hid hm
 obtain ⟨n,hn⟩:∃ n,l.length = n:=⟨_,rfl⟩
 have HN:=Lib.hid hn
 rw [hn]
 clear hn hG h hg hL hm
 go_enter Tryz.func104,Tryz.ntmps104
 go_wp2_with fail
 go_loopg [8] n (fun gf s8 wx=>∃ k:Nat,s8 = .int .i64 k ∧ Below w.heap.size w wx ∧ Hid (∀ j,j < k → sat q (l.getD j nA) = false) ∧ k ≤ n ∧ n ≤ k + gf)
 case atStart=>exact ⟨0,rfl,Below.refl _ _,fun j hj=>absurd hj (by omega),by omega,by omega⟩
 case round =>
  obtain ⟨k,rfl,hbw,HE,hkn,hfu⟩:=hrel
  by_cases hlt:k < n
  ·obtain ⟨g',rfl⟩:∃ g',gk = g' + 1:=⟨gk - 1,by omega⟩
   have hlt':(k:Int) < (n:Int):=by omega
   have hk0:(0:Int) ≤ k:=by omega
   have hkl:k < l.length:=by rw [HN.out]; exact hlt
   obtain ⟨_,a',cap',e1,_,hcells⟩:=H.out.below hbw
   simp only [Value.slice.injEq,true_and] at e1
   obtain ⟨rfl,rfl⟩:=e1
   obtain ⟨kb,off,rfl,hcl2⟩:=hcells (by omega)
   obtain ⟨x0,x1,x2⟩:=hcl2 k hkl
   rw [Nat.mul_comm 3 k] at x0 x1 x2
   have hmem:=mem_getD (z:=nA) hkl
   have hlim:=HL.out _ hmem
   have ca:=againstFn_any (l.getD k nA) g q wr (HPB.out.below hbw) hlim hq (HM.out.on hbw)
   have hyes:=fun h=>Rc.any_at (p:=sat q) (z:=nA) hkl h
   have HY:=Lib.hid hyes
   unfold aV at ca
   generalize hx:l.getD k nA = x at *
   have HX:=Lib.hid hx
   have HBW:=Lib.hid hbw
   clear hcl2 hcells hx hyes hmem hlim hbw
   cases hw:sat q x with
   | true =>
    rw [hw] at ca
    have hG:G = true:=by rw [← HG.out]; exact HY.out hw
    subst hG
    clear HG HY HX HE hw
    go_wp2_with fail
    refine ca.mono ?_
    rintro e w1 ⟨rfl,k1⟩
    have hb1:=HBW.out.trans (k1.mono HBW.out.size)
    go_wp2_with fail
    go_ret
    exact ⟨k,rfl,by simp [hk0],hb1⟩
   | false =>
    rw [hw] at ca
    have HE2:Hid (∀ j,j < k + 1 → sat q (l.getD j nA) = false):=fun j hj=>by
     by_cases e:j = k
     ·rw [e,HX.out,hw]
     ·exact HE.out j (by omega)
    clear HY HX HE hw
    go_wp2_with fail
    refine ca.mono ?_
    rintro e w1 ⟨rfl,k1⟩
    have hb1:=HBW.out.trans (k1.mono HBW.out.size)
    clear ca k1
    go_wp2_with fail
    go_roundg g'
    case measure=>omega
    case rel=>exact ⟨k + 1,by go_num,hb1,HE2.out,by omega,by omega⟩
  ·have hge:¬ (k:Int) < (n:Int):=by omega
   obtain rfl:k = n:=by omega
   have hG:G = false:=by rw [← HG.out]; exact Rc.any_no (z:=nA) fun j hj=>HE.out j (by rw [← HN.out]; exact hj)
   subst hG
   clear HG HE
   have HBW:=Lib.hid hbw
   clear hbw
   go_wp2_with fail
   go_ret
   exact ⟨-1,rfl,by simp,HBW.out⟩
set_option maxRecDepth 100000 in
theorem containsAtom_any (v:Value) (l:List At) (g:Nat) (q:Pk) (w:World) (h:Ats w v l) (hg:PkB w g q) (hL:LimA l) (hq:q.Lim) (hm:Vars w) :
  Calls Tryz.prog 72 #[v,.func (.func 71) #[] #[.pointer (some ⟨g,0,none⟩)]] w fun e w'=>e = .returned (.bool (l.any (sat q))) ∧ Below w.heap.size w w':=by
 have ca:=indexAtom_any v l g q w h hg hL hq hm
 obtain ⟨sa,cap,rfl⟩:=h.shape
 generalize l.any (sat q) = G at *
 generalize l.length = n at *
 clear h hg hL hm
 go_enter Tryz.func72,Tryz.ntmps72
 go_wp2_with fail
 refine ca.mono ?_
 rintro e w1 ⟨i,rfl,hi,k1⟩
 clear ca
 cases G with
 | true =>
  have h0:(0:Int) ≤ i:=hi.2 rfl
  clear hi
  go_wp2_with fail
  go_ret
  exact ⟨rfl,k1⟩
 | false =>
  have h0:¬ (0:Int) ≤ i:=fun h=>by simpa using hi.1 h
  clear hi
  go_wp2_with fail
  go_ret
  exact ⟨by simp; omega,k1⟩
set_option maxRecDepth 100000 in
set_option maxHeartbeats 4000000 in
theorem isAgainst_any (v1 v2:Value) (p q:Pk) (w:World) (h1:PkV w v1 p) (h2:PkV w v2 q) (l1:p.Lim) (l2:q.Lim) (hv:Vars w) :
  Calls Tryz.prog 40 #[v1,v2] w fun e w'=>e = .returned (.bool (against p q)) ∧ Below w.heap.size w w':=by
 obtain ⟨u1,u2,u3,u4,u5,u6,rfl,hh⟩:=h1
 obtain ⟨y1,y2,y3,y4,y5,y6,rfl,gg⟩:=h2
 have hb1:=(Below.refl w.heap.size w).alloc (Nat.le_refl _) (.cells #[.string (S p.nm),.string (S p.vs),u1,u2,u3,u4,u5,u6,.bool p.ess] 26)
 have i1:=Blk.Is.new w 26 #[.string (S p.nm),.string (S p.vs),u1,u2,u3,u4,u5,u6,.bool p.ess]
 have hb2:=hb1.alloc hb1.size (.cells #[.string (S q.nm),.string (S q.vs),y1,y2,y3,y4,y5,y6,.bool q.ess] 26)
 have i2:=Blk.Is.new (w.alloc (.cells #[.string (S p.nm),.string (S p.vs),u1,u2,u3,u4,u5,u6,.bool p.ess] 26)) 26 #[.string (S q.nm),.string (S q.vs),y1,y2,y3,y4,y5,y6,.bool q.ess]
 have i1':=i1.alloc (.cells #[.string (S q.nm),.string (S q.vs),y1,y2,y3,y4,y5,y6,.bool q.ess] 26)
 have hsz:(w.alloc (.cells #[.string (S p.nm),.string (S p.vs),u1,u2,u3,u4,u5,u6,.bool p.ess] 26)).heap.size = w.heap.size + 1:=by simp
 rw [hsz] at i2
 obtain ⟨W,hW⟩:∃ W,(w.alloc (.cells #[.string (S p.nm),.string (S p.vs),u1,u2,u3,u4,u5,u6,.bool p.ess] 26)).alloc (.cells #[.string (S q.nm),.string (S q.vs),y1,y2,y3,y4,y5,y6,.bool q.ess] 26) = W:=⟨_,rfl⟩
 rw [hW] at hb2 i1' i2
 have HQ:Hid (PkB W (w.heap.size + 1) q):=by
  obtain ⟨b1,d1,rfl⟩:=gg.pre.shape
  obtain ⟨b2,d2,rfl⟩:=gg.dep.shape
  obtain ⟨b3,d3,rfl⟩:=gg.rcm.shape
  obtain ⟨b4,d4,rfl⟩:=gg.con.shape
  obtain ⟨b5,d5,rfl⟩:=gg.brk.shape
  obtain ⟨b6,d6,rfl⟩:=gg.prv.shape
  exact ⟨_,_,_,_,_,_,_,_,_,_,_,_,_,_,_,_,_,_,i2,gg.below hb2⟩
 have HV:=Lib.hid (hv.on hb2)
 have c5:=i1'.at (i:=5) rfl
 have c6:=i1'.at (i:=6) rfl
 have HC:=Lib.hid (hh.con.below hb2)
 have HK:=Lib.hid (hh.brk.below hb2)
 have LC:=Lib.hid l1.con
 have LK:=Lib.hid l1.brk
 have CA:∀ w':World,Below W.heap.size W w' → ∀ v l,Ats W v l → LimA l → Calls Tryz.prog 72 #[v,.func (.func 71) #[] #[.pointer (some ⟨w.heap.size + 1,0,none⟩)]] w' fun e w''=>e = .returned (.bool (l.any (sat q))) ∧ Below w'.heap.size w' w'':=fun w' hb v l hl hL=>containsAtom_any v l _ q w' (hl.below hb) (HQ.out.below hb) hL l2 (HV.out.on hb)
 have ca:=CA W (Below.refl _ _) _ _ HC.out LC.out
 have CB:∀ w':World,Below W.heap.size W w' → _:=fun w' hb=>CA w' hb _ _ HK.out LK.out
 have hs:against p q = (p.con.any (sat q) || p.brk.any (sat q)):=rfl
 rw [hs]
 have HB:=Lib.hid hb2
 have CBH:=Lib.hid CB
 obtain ⟨s4,t4,e4⟩:=hh.con.shape
 obtain ⟨s5,t5,e5⟩:=hh.brk.shape
 generalize p.con.length = n4 at e4
 generalize p.brk.length = n5 at e5
 clear hb1 i1 hb2 i1' i2 hsz hs hv hh gg l1 l2 CA CB
 generalize p.con.any (sat q) = A at *
 generalize p.brk.any (sat q) = B at *
 generalize p.ess = E at *
 generalize q.ess = F at *
 generalize S p.nm = N1 at *
 generalize S p.vs = N2 at *
 generalize S q.nm = N3 at *
 generalize S q.vs = N4 at *
 subst e4 e5
 cases A with
 | true =>
  rw [Bool.true_or]
  go_enter Tryz.func40,Tryz.ntmps40
  go_wp2_with fail
  refine ca.mono ?_
  rintro e w1 ⟨rfl,k1⟩
  have hb1:=HB.out.trans (k1.mono HB.out.size)
  clear ca
  go_wp2_with fail
  go_ret
  exact ⟨rfl,hb1⟩
 | false =>
  rw [Bool.false_or]
  go_enter Tryz.func40,Tryz.ntmps40
  go_wp2_with fail
  refine ca.mono ?_
  rintro e w1 ⟨rfl,k1⟩
  have hb1:=Lib.hid (HB.out.trans (k1.mono HB.out.size))
  have c6':=Rl.cell_on c6 k1
  have cb:=CBH.out w1 k1
  clear ca c5 c6 k1
  go_wp2_with fail
  refine cb.mono ?_
  rintro e w2 ⟨rfl,k2⟩
  have hb2:=hb1.out.trans (k2.mono hb1.out.size)
  clear cb
  go_wp2_with fail
  go_ret
  exact ⟨rfl,hb2⟩
set_option maxRecDepth 100000 in
set_option maxHeartbeats 4000000 in
theorem clash_any (v1 v2:Value) (p q:Pk) (w:World) (h1:PkV w v1 p) (h2:PkV w v2 q) (l1:p.Lim) (l2:q.Lim) (hv:Vars w) :
  Calls Tryz.prog 13 #[v1,v2] w fun e w'=>e = .returned (.bool (clash p q)) ∧ Below w.heap.size w w':=by
 obtain ⟨u1,u2,u3,u4,u5,u6,rfl,hh⟩:=h1
 obtain ⟨y1,y2,y3,y4,y5,y6,rfl,gg⟩:=h2
 have hb1:=(Below.refl w.heap.size w).alloc (Nat.le_refl _) (.cells #[.string (S p.nm),.string (S p.vs),u1,u2,u3,u4,u5,u6,.bool p.ess] 26)
 have i1:=Blk.Is.new w 26 #[.string (S p.nm),.string (S p.vs),u1,u2,u3,u4,u5,u6,.bool p.ess]
 have hb2:=hb1.alloc hb1.size (.cells #[.string (S q.nm),.string (S q.vs),y1,y2,y3,y4,y5,y6,.bool q.ess] 26)
 have i2:=Blk.Is.new (w.alloc (.cells #[.string (S p.nm),.string (S p.vs),u1,u2,u3,u4,u5,u6,.bool p.ess] 26)) 26 #[.string (S q.nm),.string (S q.vs),y1,y2,y3,y4,y5,y6,.bool q.ess]
 have i1':=i1.alloc (.cells #[.string (S q.nm),.string (S q.vs),y1,y2,y3,y4,y5,y6,.bool q.ess] 26)
 have hsz:(w.alloc (.cells #[.string (S p.nm),.string (S p.vs),u1,u2,u3,u4,u5,u6,.bool p.ess] 26)).heap.size = w.heap.size + 1:=by simp
 rw [hsz] at i2
 obtain ⟨W,hW⟩:∃ W,(w.alloc (.cells #[.string (S p.nm),.string (S p.vs),u1,u2,u3,u4,u5,u6,.bool p.ess] 26)).alloc (.cells #[.string (S q.nm),.string (S q.vs),y1,y2,y3,y4,y5,y6,.bool q.ess] 26) = W:=⟨_,rfl⟩
 rw [hW] at hb2 i1' i2
 have HV:=Lib.hid (hv.on hb2)
 have HP:=Lib.hid (show PkV W (.agg #[.string (S p.nm),.string (S p.vs),u1,u2,u3,u4,u5,u6,.bool p.ess]) p from ⟨_,_,_,_,_,_,rfl,hh.below hb2⟩)
 have HQ:=Lib.hid (show PkV W (.agg #[.string (S q.nm),.string (S q.vs),y1,y2,y3,y4,y5,y6,.bool q.ess]) q from ⟨_,_,_,_,_,_,rfl,gg.below hb2⟩)
 have c0:=i1'.at (i:=0) rfl
 have c1:=i1'.at (i:=1) rfl
 have c2:=i1'.at (i:=2) rfl
 have c3:=i1'.at (i:=3) rfl
 have c4:=i1'.at (i:=4) rfl
 have c5:=i1'.at (i:=5) rfl
 have c6:=i1'.at (i:=6) rfl
 have c7:=i1'.at (i:=7) rfl
 have c8:=i1'.at (i:=8) rfl
 have d0:=i2.at (i:=0) rfl
 have d1:=i2.at (i:=1) rfl
 have d2:=i2.at (i:=2) rfl
 have d3:=i2.at (i:=3) rfl
 have d4:=i2.at (i:=4) rfl
 have d5:=i2.at (i:=5) rfl
 have d6:=i2.at (i:=6) rfl
 have d7:=i2.at (i:=7) rfl
 have d8:=i2.at (i:=8) rfl
 have ca:=isAgainst_any _ _ p q W HP.out HQ.out l1 l2 HV.out
 have CBH:Hid (∀ w':World,Below W.heap.size W w' → Calls Tryz.prog 40 #[.agg #[.string (S q.nm),.string (S q.vs),y1,y2,y3,y4,y5,y6,.bool q.ess],.agg #[.string (S p.nm),.string (S p.vs),u1,u2,u3,u4,u5,u6,.bool p.ess]] w' fun e w''=>e = .returned (.bool (against q p)) ∧ Below w'.heap.size w' w''):=fun w' hb=>isAgainst_any _ _ q p w' (HQ.out.below hb) (HP.out.below hb) l2 l1 (HV.out.on hb)
 have hs:clash p q = (!decide (p.nm = q.nm) && (against p q || against q p)):=rfl
 have hq:((S p.nm).toList == (S q.nm).toList) = decide (p.nm = q.nm):=Rl.S_beq _ _
 rw [hs]
 have HB:=Lib.hid hb2
 obtain ⟨s1,t1,e1⟩:=hh.pre.shape
 generalize p.pre.length = n1 at e1
 obtain ⟨s2,t2,e2⟩:=hh.dep.shape
 generalize p.dep.length = n2 at e2
 obtain ⟨s3,t3,e3⟩:=hh.rcm.shape
 generalize p.rcm.length = n3 at e3
 obtain ⟨s4,t4,e4⟩:=hh.con.shape
 generalize p.con.length = n4 at e4
 obtain ⟨s5,t5,e5⟩:=hh.brk.shape
 generalize p.brk.length = n5 at e5
 obtain ⟨s6,t6,e6⟩:=hh.prv.shape
 generalize p.prv.length = n6 at e6
 obtain ⟨s7,t7,e7⟩:=gg.pre.shape
 generalize q.pre.length = n7 at e7
 obtain ⟨s8,t8,e8⟩:=gg.dep.shape
 generalize q.dep.length = n8 at e8
 obtain ⟨s9,t9,e9⟩:=gg.rcm.shape
 generalize q.rcm.length = n9 at e9
 obtain ⟨s10,t10,e10⟩:=gg.con.shape
 generalize q.con.length = n10 at e10
 obtain ⟨s11,t11,e11⟩:=gg.brk.shape
 generalize q.brk.length = n11 at e11
 obtain ⟨s12,t12,e12⟩:=gg.prv.shape
 generalize q.prv.length = n12 at e12
 clear hb1 i1 hb2 i1' i2 hsz hs hv hh gg l1 l2 HP HQ
 generalize against p q = A at *
 generalize against q p = B at *
 generalize p.ess = E at *
 generalize q.ess = F at *
 generalize S p.nm = N1 at *
 generalize S p.vs = N2 at *
 generalize S q.nm = N3 at *
 generalize S q.vs = N4 at *
 subst e1 e2 e3 e4 e5 e6 e7 e8 e9 e10 e11 e12
 cases hd:decide (p.nm = q.nm) with
 | true =>
  rw [hd] at hq
  rw [Bool.not_true,Bool.false_and]
  clear ca hd
  go_enter Tryz.func13,Tryz.ntmps13
  go_wp2_with fail
  go_ret
  exact ⟨rfl,HB.out⟩
 | false =>
 rw [hd] at hq
 rw [Bool.not_false,Bool.true_and]
 clear hd
 cases A with
 | true =>
  rw [Bool.true_or]
  go_enter Tryz.func13,Tryz.ntmps13
  go_wp2_with fail
  refine ca.mono ?_
  rintro e w1 ⟨rfl,k1⟩
  have hb1:=HB.out.trans (k1.mono HB.out.size)
  clear ca
  go_wp2_with fail
  go_ret
  exact ⟨rfl,hb1⟩
 | false =>
  rw [Bool.false_or]
  go_enter Tryz.func13,Tryz.ntmps13
  go_wp2_with fail
  refine ca.mono ?_
  rintro e w1 ⟨rfl,k1⟩
  have hb1:=Lib.hid (HB.out.trans (k1.mono HB.out.size))
  have c0':=Rl.cell_on c0 k1
  have c1':=Rl.cell_on c1 k1
  have c2':=Rl.cell_on c2 k1
  have c3':=Rl.cell_on c3 k1
  have c4':=Rl.cell_on c4 k1
  have c5':=Rl.cell_on c5 k1
  have c6':=Rl.cell_on c6 k1
  have c7':=Rl.cell_on c7 k1
  have c8':=Rl.cell_on c8 k1
  have d0':=Rl.cell_on d0 k1
  have d1':=Rl.cell_on d1 k1
  have d2':=Rl.cell_on d2 k1
  have d3':=Rl.cell_on d3 k1
  have d4':=Rl.cell_on d4 k1
  have d5':=Rl.cell_on d5 k1
  have d6':=Rl.cell_on d6 k1
  have d7':=Rl.cell_on d7 k1
  have d8':=Rl.cell_on d8 k1
  have cb:=CBH.out w1 k1
  clear ca k1 c0 d0 c1 d1 c2 d2 c3 d3 c4 d4 c5 d5 c6 d6 c7 d7 c8 d8
  go_wp2_with fail
  refine cb.mono ?_
  rintro e w2 ⟨rfl,k2⟩
  have hb2:=hb1.out.trans (k2.mono hb1.out.size)
  clear cb
  go_wp2_with fail
  go_ret
  exact ⟨rfl,hb2⟩
end Ix
end Go.Proofs.YtelofmeapplfpaaGreatDoor

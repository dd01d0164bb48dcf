/-
The law IndexTurned.
-/
import Derived.Test.YtelofmeapplfpaaGreatDoorCIxPerm
import Derived.Test.YtelofmeapplfpaaGreatDoorCIxBack
import Derived.Test.YtelofmeapplfpaaGreatDoorCIxInts
import Derived.Test.YtelofmeapplfpaaGreatDoorCIxNew
import Derived.Test.YtelofmeapplfpaaGreatDoorCIxLight
import Derived.Test.YtelofmeapplfpaaGreatDoorCRecSame
import Derived.Test.YtelofmeapplfpaaGreatDoorCReg
import Derived.Test.YtelofmeapplfpaaGreatDoorCHeld
import Derived.OrdersHeld
import Derived.Deep.MidRow
namespace Go.Proofs.YtelofmeapplfpaaGreatDoor
open Go.RowKit
set_option linter.unusedSimpArgs false
set_option linter.unusedVariables false
namespace Ix
open Ver (Bs S S_li S_size cmpV holdsV)
open Rl (At Pv Vars aV may nmB isV mem_getD)
open Rc (Pk nPk Pks PkV PkC Has mayAll)
theorem eqP_self (p:Pk):Rc.eqP p p = true:=by unfold Rc.eqP; simp
theorem any_take {an:List Nat} {f:Nat → Bool} {r y:Nat} (h:an[r]? = some y):(an.take (r + 1)).any f = ((an.take r).any f || f y):=by
 obtain ⟨h1,h2⟩:=List.getElem?_eq_some_iff.1 h
 rw [List.take_succ_eq_append_getElem h1,List.any_append,h2]
 simp
theorem rev_at {l:List Pk} {k:Nat} (hk:k < l.length):l.reverse.take (k + 1) = l.reverse.take k ++ [l.getD (l.length - 1 - k) nPk]:=by
 have hr:k < l.reverse.length:=by rw [List.length_reverse]; exact hk
 rw [List.take_succ_eq_append_getElem hr]
 congr 2
 rw [List.getElem_reverse,List.getD_eq_getElem?_getD,List.getElem?_eq_getElem (by omega)]
 rfl
set_option maxRecDepth 100000 in
set_option maxHeartbeats 16000000 in
theorem turned_walk (v0:Value) (l:List Pk) (a:At) (w:World) (hp:Pks w v0 l) (hL:∀ x ∈ l,x.Lim) (ha:LimAt a) (hv:Vars w) :
  Calls Tryz.prog 6 #[v0,aV a] w fun e w'=>e = .returned (.bool true) ∧ Below w.heap.size w w':=by
 obtain ⟨sa,cap,rfl⟩:=hp.shape
 have hb1:=(Below.refl w.heap.size w).alloc (Nat.le_refl _) (.cells #[.string (S a.1),.int .i64 a.2.1,.string (S a.2.2)] 28)
 have i1:=Blk.Is.new w 28 #[.string (S a.1),.int .i64 a.2.1,.string (S a.2.2)]
 obtain ⟨W,hW⟩:∃ W,w.alloc (.cells #[.string (S a.1),.int .i64 a.2.1,.string (S a.2.2)] 28) = W:=⟨_,rfl⟩
 rw [hW] at hb1 i1
 have hsW:W.heap.size = w.heap.size + 1:=by rw [← hW]; simp
 have cl:=Rc.light_any _ l W (hp.below hb1)
 have hn0:=hp.1
 have H:=Lib.hid (hp.below hb1)
 have HLI:=Lib.hid hL
 have LA:=Lib.hid ha
 have GV:=Lib.hid (hv.on hb1)
 have HB:=Lib.hid hb1
 have HA:=Lib.hid i1
 have HSW:=Lib.hid hsW
 obtain ⟨n,hn⟩:∃ n,l.length = n:=⟨_,rfl⟩
 have HN:=Lib.hid hn
 rw [hn] at hn0 cl ⊢
 obtain ⟨b1,hb1'⟩:∃ b1,Rc.lightB l = b1:=⟨_,rfl⟩
 rw [hb1'] at cl
 unfold aV
 clear hp hb1 i1 hv hL ha hn hb1' hsW
 cases b1 with
 | false =>
  go_enter Tryz.func6,Tryz.ntmps6
  go_wp2_with fail
  clear hW
  refine cl.mono ?_
  rintro e w1 ⟨rfl,k1⟩
  have B1:=Lib.hid k1
  clear cl k1
  have ca:=awake_any w1 (GV.out.on B1.out)
  go_wp2_with fail
  refine ca.mono ?_
  rintro e w99 ⟨rfl,k99⟩
  have hb:=HB.out.trans ((B1.out.trans (k99.mono B1.out.size)).mono HB.out.size)
  clear ca
  go_wp2_with fail
  go_ret
  exact ⟨rfl,hb⟩
 | true =>
  go_enter Tryz.func6,Tryz.ntmps6
  go_wp2_with fail
  clear hW
  refine cl.mono ?_
  rintro e w1 ⟨rfl,k1⟩
  have B1:=Lib.hid k1
  clear cl k1
  by_cases h24:24 < n
  ·have h24':(24:Int) < (n:Int):=by omega
   have ca:=awake_any w1 (GV.out.on B1.out)
   go_wp2_with fail
   refine ca.mono ?_
   rintro e w99 ⟨rfl,k99⟩
   have hb:=HB.out.trans ((B1.out.trans (k99.mono B1.out.size)).mono HB.out.size)
   clear ca
   go_wp2_with fail
   go_ret
   exact ⟨rfl,hb⟩
  ·have h24':¬ (24:Int) < (n:Int):=by omega
   have hn24:n ≤ 24:=by omega
   clear h24
   go_wp2_with fail
   go_loopg [5,33] n (fun gf s5 s33 wx=>∃ (k:Nat) (pa:Option Addr) (pc:Nat),s5 = .slice pa k pc ∧ s33 = .int .i64 k ∧ Hid (Bk W W.heap.size wx (.slice pa k pc) (l.reverse.take k)) ∧ Hid (Below W.heap.size W wx) ∧ k ≤ n ∧ n ≤ k + gf)
   case atStart=>exact ⟨0,none,0,rfl,rfl,Lib.hid (Bk.nil _ _ _),B1,by omega,by omega⟩
   case round =>
    obtain ⟨k,pa,pc,rfl,rfl,HK,HBW,hkn,hfu⟩:=hrel
    have hlenk:(l.reverse.take k).length = k:=by rw [List.length_take,List.length_reverse,HN.out]; omega
    by_cases hlt:k < n
    ·obtain ⟨g',rfl⟩:∃ g',gk = g' + 1:=⟨gk - 1,by omega⟩
     have hlt':(k:Int) < (n:Int):=by omega
     obtain ⟨j,hj⟩:∃ j,n - 1 - k = j:=⟨_,rfl⟩
     have hj1:(n:Int) - 1 - (k:Int) = (j:Int):=by omega
     have hjn:(j:Int) < (n:Int):=by omega
     have hj0:(0:Int) ≤ (j:Int):=by omega
     have hjl:j < l.length:=by rw [HN.out]; omega
     obtain ⟨_,a',cap',e1,_,hcells⟩:=H.out
     rw [HN.out] at e1
     simp only [Value.slice.injEq,true_and] at e1
     obtain ⟨rfl,rfl⟩:=e1
     obtain ⟨kb,off,rfl,hcl2⟩:=hcells (by omega)
     obtain ⟨a1,n1,c1,a2,n2,c2,a3,n3,c3,a4,n4,c4,a5,n5,c5,a6,n6,c6,⟨x0,x1,x2,x3,x4,x5,x6,x7,x8⟩,hh⟩:=Rc.pk_read (hcl2 j hjl)
     rw [Nat.mul_comm 9 j] at x0 x1 x2 x3 x4 x5 x6 x7 x8
     replace x0:=Rl.cell_on x0 HBW.out
     replace x1:=Rl.cell_on x1 HBW.out
     replace x2:=Rl.cell_on x2 HBW.out
     replace x3:=Rl.cell_on x3 HBW.out
     replace x4:=Rl.cell_on x4 HBW.out
     replace x5:=Rl.cell_on x5 HBW.out
     replace x6:=Rl.cell_on x6 HBW.out
     replace x7:=Rl.cell_on x7 HBW.out
     replace x8:=Rl.cell_on x8 HBW.out
     have hrv:=rev_at (l:=l) (k:=k) (by rw [HN.out]; exact hlt)
     rw [HN.out,hj] at hrv
     obtain ⟨x,hx⟩:∃ x,l.getD j nPk = x:=⟨_,rfl⟩
     rw [hx] at x0 x1 x8 hh hrv
     have HRV:=Lib.hid hrv
     obtain ⟨cs,q1,q2,q3⟩:=HK.out
     rw [hlenk] at q1 q2
     have hba:=(Below.refl wr.heap.size wr).alloc (Nat.le_refl _) (.cells #[.string (S x.nm),.string (S x.vs),.slice a1 n1 c1,.slice a2 n2 c2,.slice a3 n3 c3,.slice a4 n4 c4,.slice a5 n5 c5,.slice a6 n6 c6,.bool x.ess] 26)
     have ia:=Blk.Is.new wr 26 #[.string (S x.nm),.string (S x.vs),.slice a1 n1 c1,.slice a2 n2 c2,.slice a3 n3 c3,.slice a4 n4 c4,.slice a5 n5 c5,.slice a6 n6 c6,.bool x.ess]
     obtain ⟨V,hV⟩:∃ V,wr.alloc (.cells #[.string (S x.nm),.string (S x.vs),.slice a1 n1 c1,.slice a2 n2 c2,.slice a3 n3 c3,.slice a4 n4 c4,.slice a5 n5 c5,.slice a6 n6 c6,.bool x.ess] 26) = V:=⟨_,rfl⟩
     rw [hV] at hba ia
     have HOWN:=Lib.hid (Own.owns_below q2 hba)
     have HIA:=Lib.hid ia
     have BV:=Lib.hid (HBW.out.trans (hba.mono HBW.out.size))
     have HSZ:=Lib.hid (Nat.le_trans HBW.out.size hba.size)
     have Q1:=Lib.hid q1
     have Q3:=Lib.hid q3
     have HP:Hid (∀ u,Below W.heap.size W u → PkC u [.string (S x.nm),.string (S x.vs),.slice a1 n1 c1,.slice a2 n2 c2,.slice a3 n3 c3,.slice a4 n4 c4,.slice a5 n5 c5,.slice a6 n6 c6,.bool x.ess] x):=Lib.hid fun u hu=>⟨_,_,_,_,_,_,rfl,hh.below hu⟩
     have hk70:k + 1 ≤ 70000:=by omega
     have HLK:=Lib.hid hlenk
     have HWV:=Lib.hid hV
     have FIN:Hid (∀ v' w9,w9.ownsRow W.heap.size 26 9 v' (k + 1) (cs.flatten ++ [.string (S x.nm),.string (S x.vs),.slice a1 n1 c1,.slice a2 n2 c2,.slice a3 n3 c3,.slice a4 n4 c4,.slice a5 n5 c5,.slice a6 n6 c6,.bool x.ess]) → V.grownBy w9 (Value.slice pa k pc).ownBlock → ∃ a9 c9,v' = .slice a9 (k + 1) c9 ∧ Bk W W.heap.size w9 (.slice a9 (k + 1) c9) (l.reverse.take (k + 1)) ∧ Below W.heap.size W w9):=Lib.hid fun v' w9 h2 h3=>by
      have hb9:=Own.below_grown BV.out HOWN.out h3 HSZ.out
      obtain ⟨a9,c9,e9,_⟩:=Rl.own_shape h2
      subst e9
      refine ⟨a9,c9,rfl,?_,hb9⟩
      rw [HRV.out]
      exact Bk.more (w0:=W) (ys:=l.reverse.take k) (p:=x) (c:=[.string (S x.nm),.string (S x.vs),.slice a1 n1 c1,.slice a2 n2 c2,.slice a3 n3 c3,.slice a4 n4 c4,.slice a5 n5 c5,.slice a6 n6 c6,.bool x.ess]) (by rw [HLK.out]; exact Q1.out) Q3.out (by rw [HLK.out]; exact h2) rfl HP.out
     clear hcells hcl2 hh hx hrv q1 q2 q3 hba ia hV HK HBW hj hjl hlenk
     go_wp2_with (at_builtin; rw [HWV.out]; refine append_pk rfl (.tmp 36) (.tmp 45) rfl W.heap.size (.slice pa k pc) k cs.flatten rfl HOWN.out wr.heap.size 1 rfl [.string (S x.nm),.string (S x.vs),.slice a1 n1 c1,.slice a2 n2 c2,.slice a3 n3 c3,.slice a4 n4 c4,.slice a5 n5 c5,.slice a6 n6 c6,.bool x.ess] rfl (fun j u hj=>HIA.out.at (by rw [← Array.getElem?_toList]; exact hj)) (fun u hu=>by simp only [List.mem_cons,List.not_mem_nil,or_false] at hu; rcases hu with rfl | rfl | rfl | rfl | rfl | rfl | rfl | rfl | rfl <;> rfl) hk70 HSZ.out ?_; intro v' w9 h2 h3; obtain ⟨a9,c9,e9,hbk,hb9⟩:=FIN.out v' w9 h2 h3; subst e9; have HBK:=Lib.hid hbk; have HB9:=Lib.hid hb9; clear hbk hb9 h2 h3)
     go_roundg g'
     case measure=>omega
     case rel=>exact ⟨k + 1,a9,c9,rfl,by go_num,HBK,HB9,by omega,by omega⟩
    ·obtain rfl:k = n:=by omega
     have hge:¬ (k:Int) < (k:Int):=by omega
     have hrv:l.reverse.take k = l.reverse:=List.take_of_length_le (by rw [List.length_reverse,HN.out]; exact Nat.le_refl _)
     have hpb:=HK.out
     rw [hrv] at hpb
     have hpk:=hpb.pks HBW.out (by rw [List.length_reverse,HN.out]; omega)
     have HLR:Hid (∀ x ∈ l.reverse,x.Lim):=Lib.hid fun x hx=>HLI.out x (List.mem_reverse.1 hx)
     have HPK:=Lib.hid hpk
     have VR:=Lib.hid (GV.out.on HBW.out)
     have HPL:=Lib.hid (H.out.below HBW.out)
     clear hrv hpb hpk HK
     by_cases hm:mayAll l = 0
     ·have hmr:mayAll l.reverse = 0:=(mayAll_perm (List.reverse_perm l)).2 hm
      have c1:=new_yes _ l wr HPL.out HLI.out VR.out hm
      rw [HN.out] at c1
      have HM:=Lib.hid hm
      have HMR:=Lib.hid hmr
      clear hm hmr
      go_wp2_with fail
      refine c1.mono ?_
      rintro e w2 ⟨pb,xs,rfl,hso,hix,k2⟩
      have B2:=Lib.hid (HBW.out.trans (k2.mono HBW.out.size))
      have c2:=new_yes _ l.reverse w2 (HPK.out.below k2) HLR.out (VR.out.on k2) HMR.out
      have HSO:=Lib.hid hso
      have HIX:=Lib.hid hix
      clear c1 hso hix k2
      go_wp2_with fail
      refine c2.mono ?_
      rintro e w3 ⟨pb2,ys,rfl,hso2,hix2,k3⟩
      have hxy:=sorts_one (mayAll_of HM.out) (List.reverse_perm l) HSO.out hso2
      subst hxy
      have B3:=Lib.hid (B2.out.trans (k3.mono B2.out.size))
      have X3:=Lib.hid (Idx.below HIX.out k3)
      have Y3:=Lib.hid hix2
      have XN:Hid (xs.length = k):=by rw [HSO.out.1.length_eq]; exact HN.out
      have XL:Hid (∀ x ∈ xs,x.Lim):=Lib.hid fun x hx=>HLI.out x (HSO.out.1.mem_iff.1 hx)
      have XF:Hid (∀ x ∈ xs,Few x):=Lib.hid fun x hx=>((mayAll_of HM.out).each x (HSO.out.1.mem_iff.1 hx)).few
      have GV3:=Lib.hid (GV.out.on B3.out)
      clear c2 hso2 hix2 k3 B2 HIX HPK HPL VR HBW
      go_wp2_with fail
      go_loopg [75] k (fun gf s75 wx=>∃ q:Nat,s75 = .int .i64 q ∧ Hid (Below w3.heap.size w3 wx) ∧ q ≤ k ∧ k ≤ q + gf)
      case atStart=>exact ⟨0,rfl,Lib.hid (Below.refl _ _),by omega,by omega⟩
      case round =>
       obtain ⟨q,rfl,HBX,hqk,hfu2⟩:=hrel
       by_cases hlq:q < k
       ·obtain ⟨g2,rfl⟩:∃ g2,gk = g2 + 1:=⟨gk - 1,by omega⟩
        have hlq':(q:Int) < (k:Int):=by omega
        have c1:=at_yes pb xs q wr (Idx.below X3.out HBX.out) XF.out (by rw [XN.out]; exact hlq)
        obtain ⟨x,hx⟩:∃ x,xs.getD q nPk = x:=⟨_,rfl⟩
        have HX:=Lib.hid hx
        rw [hx] at c1
        clear hx
        go_wp2_with fail
        refine c1.mono ?_
        rintro e u1 ⟨v1,rfl,hv1,k1⟩
        have hbu:=HBX.out.trans (k1.mono HBX.out.size)
        obtain ⟨y1,y2,y3,y4,y5,y6,rfl,hh1⟩:=hv1
        obtain ⟨sa1,sc1,se1⟩:=hh1.pre.shape
        generalize x.pre.length = sn1 at se1
        obtain ⟨sa2,sc2,se2⟩:=hh1.dep.shape
        generalize x.dep.length = sn2 at se2
        obtain ⟨sa3,sc3,se3⟩:=hh1.rcm.shape
        generalize x.rcm.length = sn3 at se3
        obtain ⟨sa4,sc4,se4⟩:=hh1.con.shape
        generalize x.con.length = sn4 at se4
        obtain ⟨sa5,sc5,se5⟩:=hh1.brk.shape
        generalize x.brk.length = sn5 at se5
        obtain ⟨sa6,sc6,se6⟩:=hh1.prv.shape
        generalize x.prv.length = sn6 at se6
        subst se1 se2 se3 se4 se5 se6
        have hba:=(Below.refl u1.heap.size u1).alloc (Nat.le_refl _) (.cells #[.string (S x.nm),.string (S x.vs),.slice sa1 sn1 sc1,.slice sa2 sn2 sc2,.slice sa3 sn3 sc3,.slice sa4 sn4 sc4,.slice sa5 sn5 sc5,.slice sa6 sn6 sc6,.bool x.ess] 26)
        have ia:=Blk.Is.new u1 26 #[.string (S x.nm),.string (S x.vs),.slice sa1 sn1 sc1,.slice sa2 sn2 sc2,.slice sa3 sn3 sc3,.slice sa4 sn4 sc4,.slice sa5 sn5 sc5,.slice sa6 sn6 sc6,.bool x.ess]
        obtain ⟨V1,hV1⟩:∃ V1,u1.alloc (.cells #[.string (S x.nm),.string (S x.vs),.slice sa1 sn1 sc1,.slice sa2 sn2 sc2,.slice sa3 sn3 sc3,.slice sa4 sn4 sc4,.slice sa5 sn5 sc5,.slice sa6 sn6 sc6,.bool x.ess] 26) = V1:=⟨_,rfl⟩
        rw [hV1] at hba ia
        have BV1:=Lib.hid (hbu.trans (hba.mono hbu.size))
        have IA1:=Lib.hid ia
        have HH1:=Lib.hid (hh1.below hba)
        have c2:=at_yes pb2 xs q V1 (Idx.below Y3.out BV1.out) XF.out (by rw [XN.out]; exact hlq)
        rw [HX.out] at c2
        have hu:=hV1
        clear c1 k1 hbu hh1 hba ia hV1
        go_wp2_with fail
        clear hu
        refine c2.mono ?_
        rintro e u2 ⟨v2,rfl,hv2,k2⟩
        have hbu:=BV1.out.trans (k2.mono BV1.out.size)
        obtain ⟨z1,z2,z3,z4,z5,z6,rfl,hh2⟩:=hv2
        obtain ⟨ra1,rc1,re1⟩:=hh2.pre.shape
        generalize x.pre.length = rn1 at re1
        obtain ⟨ra2,rc2,re2⟩:=hh2.dep.shape
        generalize x.dep.length = rn2 at re2
        obtain ⟨ra3,rc3,re3⟩:=hh2.rcm.shape
        generalize x.rcm.length = rn3 at re3
        obtain ⟨ra4,rc4,re4⟩:=hh2.con.shape
        generalize x.con.length = rn4 at re4
        obtain ⟨ra5,rc5,re5⟩:=hh2.brk.shape
        generalize x.brk.length = rn5 at re5
        obtain ⟨ra6,rc6,re6⟩:=hh2.prv.shape
        generalize x.prv.length = rn6 at re6
        subst re1 re2 re3 re4 re5 re6
        have hba:=(Below.refl u2.heap.size u2).alloc (Nat.le_refl _) (.cells #[.string (S x.nm),.string (S x.vs),.slice ra1 rn1 rc1,.slice ra2 rn2 rc2,.slice ra3 rn3 rc3,.slice ra4 rn4 rc4,.slice ra5 rn5 rc5,.slice ra6 rn6 rc6,.bool x.ess] 26)
        have ib:=Blk.Is.new u2 26 #[.string (S x.nm),.string (S x.vs),.slice ra1 rn1 rc1,.slice ra2 rn2 rc2,.slice ra3 rn3 rc3,.slice ra4 rn4 rc4,.slice ra5 rn5 rc5,.slice ra6 rn6 rc6,.bool x.ess]
        obtain ⟨V2,hV2⟩:∃ V2,u2.alloc (.cells #[.string (S x.nm),.string (S x.vs),.slice ra1 rn1 rc1,.slice ra2 rn2 rc2,.slice ra3 rn3 rc3,.slice ra4 rn4 rc4,.slice ra5 rn5 rc5,.slice ra6 rn6 rc6,.bool x.ess] 26) = V2:=⟨_,rfl⟩
        rw [hV2] at hba ib
        have BV2:=Lib.hid (hbu.trans (hba.mono hbu.size))
        have ja:=Rl.is_on (Rl.is_on IA1.out k2) hba
        have cs:=Rc.ysame_any (.agg #[.string (S x.nm),.string (S x.vs),.slice sa1 sn1 sc1,.slice sa2 sn2 sc2,.slice sa3 sn3 sc3,.slice sa4 sn4 sc4,.slice sa5 sn5 sc5,.slice sa6 sn6 sc6,.bool x.ess]) (.agg #[.string (S x.nm),.string (S x.vs),.slice ra1 rn1 rc1,.slice ra2 rn2 rc2,.slice ra3 rn3 rc3,.slice ra4 rn4 rc4,.slice ra5 rn5 rc5,.slice ra6 rn6 rc6,.bool x.ess]) x x V2 ⟨_,_,_,_,_,_,rfl,(HH1.out.below k2).below hba⟩ ⟨_,_,_,_,_,_,rfl,hh2.below hba⟩
        rw [eqP_self] at cs
        have cc0:=ja.at (i:=0) rfl
        have dd0:=ib.at (i:=0) rfl
        have cc1:=ja.at (i:=1) rfl
        have dd1:=ib.at (i:=1) rfl
        have cc2:=ja.at (i:=2) rfl
        have dd2:=ib.at (i:=2) rfl
        have cc3:=ja.at (i:=3) rfl
        have dd3:=ib.at (i:=3) rfl
        have cc4:=ja.at (i:=4) rfl
        have dd4:=ib.at (i:=4) rfl
        have cc5:=ja.at (i:=5) rfl
        have dd5:=ib.at (i:=5) rfl
        have cc6:=ja.at (i:=6) rfl
        have dd6:=ib.at (i:=6) rfl
        have cc7:=ja.at (i:=7) rfl
        have dd7:=ib.at (i:=7) rfl
        have cc8:=ja.at (i:=8) rfl
        have dd8:=ib.at (i:=8) rfl
        have hu:=hV2
        clear c2 k2 hbu hh2 hba ib ja hV2
        go_wp2_with fail
        clear hu cc0 dd0 cc1 dd1 cc2 dd2 cc3 dd3 cc4 dd4 cc5 dd5 cc6 dd6 cc7 dd7 cc8 dd8
        refine cs.mono ?_
        rintro e u3 ⟨rfl,k3⟩
        have BV3:=Lib.hid (BV2.out.trans (k3.mono BV2.out.size))
        clear cs k3
        go_wp2_with fail
        go_roundg g2
        case measure=>omega
        case rel=>exact ⟨q + 1,by go_num,BV3,by omega,by omega⟩
       ·obtain rfl:q = k:=by omega
        have hge:¬ (q:Int) < (q:Int):=by omega
        have BR:=Lib.hid (B3.out.trans (HBX.out.mono B3.out.size))
        have hA:=Rl.is_on HA.out BR.out
        have d0:=hA.at (i:=0) rfl
        have es:S [] = ⟨#[]⟩:=rfl
        have cm:=meets_any pb xs (a.1,0,[]) wr (Idx.below X3.out HBX.out) XL.out (by rw [XN.out]; omega) ⟨LA.out.1,by show 0 ≤ _; omega⟩ (GV3.out.on HBX.out)
        unfold aV at cm
        simp only [es] at cm
        obtain ⟨an,han⟩:∃ an,mt xs (a.1,0,[]) = an:=⟨_,rfl⟩
        rw [han] at cm
        have HAN:=Lib.hid han
        have ANL:Hid (an.length ≤ 60000):=by rw [← han]; exact Nat.le_trans (mt_len _ _) (by rw [XN.out]; omega)
        clear hA es han
        go_wp2_with fail
        clear d0
        refine cm.mono ?_
        rintro e u1 ⟨va,rfl,hoa,k1⟩
        have B1u:=Lib.hid (HBX.out.trans (k1.mono HBX.out.size))
        have hia:=ints_of hoa ANL.out
        have hA:=Rl.is_on HA.out (BR.out.trans (k1.mono BR.out.size))
        have d0:=hA.at (i:=0) rfl
        have d1:=hA.at (i:=1) rfl
        have d2:=hA.at (i:=2) rfl
        have cm2:=meets_any pb xs a u1 (Idx.below X3.out B1u.out) XL.out (by rw [XN.out]; omega) LA.out (GV3.out.on B1u.out)
        unfold aV at cm2
        obtain ⟨ml,hml⟩:∃ ml,mt xs a = ml:=⟨_,rfl⟩
        rw [hml] at cm2
        have HML:=Lib.hid hml
        have MLL:Hid (ml.length ≤ 60000):=by rw [← hml]; exact Nat.le_trans (mt_len _ _) (by rw [XN.out]; omega)
        have SUB:Hid (∀ i ∈ ml,i ∈ an):=Lib.hid fun i hi=>by rw [← HAN.out]; exact mt_any (by rw [HML.out]; exact hi)
        have HIA:=Lib.hid hia
        obtain ⟨aa,ac,rfl,_⟩:=Rl.own_shape hoa
        clear cm hA hml hia hoa k1
        go_wp2_with fail
        clear d0 d1 d2
        refine cm2.mono ?_
        rintro e wm ⟨vm,rfl,hom,k2⟩
        have B2u:=Lib.hid (B1u.out.trans (k2.mono B1u.out.size))
        have HIM:=Lib.hid (ints_of hom MLL.out)
        have HIA2:=Lib.hid (HIA.out.below k2)
        obtain ⟨ma,mc,rfl,_⟩:=Rl.own_shape hom
        obtain ⟨m,hm⟩:∃ m,ml.length = m:=⟨_,rfl⟩
        obtain ⟨n2,hn2⟩:∃ n2,an.length = n2:=⟨_,rfl⟩
        have HMM:=Lib.hid hm
        have HNN:=Lib.hid hn2
        rw [hm] at HIM ⊢
        rw [hn2] at HIA2 ⊢
        have m60:m ≤ 60000:=by rw [← hm]; exact MLL.out
        have n60:n2 ≤ 60000:=by rw [← hn2]; exact ANL.out
        clear cm2 hom k2 hm hn2 HIA
        go_wp2_with fail
        go_loopg [112] m (fun gf s112 wx=>∃ q:Nat,s112 = .int .i64 q ∧ wm = wx ∧ q ≤ m ∧ m ≤ q + gf)
        case atStart=>exact ⟨0,rfl,rfl,by omega,by omega⟩
        case round =>
         obtain ⟨t,rfl,rfl,htm,hfu3⟩:=hrel
         by_cases htl:t < m
         ·obtain ⟨g3,rfl⟩:∃ g3,gk = g3 + 1:=⟨gk - 1,by omega⟩
          have htl':(t:Int) < (m:Int):=by omega
          have ht0:(0:Int) ≤ t:=by omega
          obtain ⟨i,hi⟩:∃ i,ml[t]? = some i:=⟨ml[t]'(by rw [HMM.out]; exact htl),List.getElem?_eq_getElem _⟩
          obtain ⟨_,a',c',e1,_,hc⟩:=HIM.out
          simp only [Value.slice.injEq] at e1
          obtain ⟨rfl,hmx,rfl⟩:=e1
          clear hmx
          obtain ⟨R,rfl,hcell⟩:=hc (by rw [HMM.out]; omega)
          have y0:=hcell t i hi
          have INA:Hid (i ∈ an):=Lib.hid (SUB.out i (List.mem_of_getElem? hi))
          clear hc hcell hi
          go_wp2_with fail
          clear y0
          go_loopg [19,118] n2 (fun gf s19 s118 wx=>∃ (r:Nat) (b:Bool),s19 = .bool b ∧ s118 = .int .i64 r ∧ wm = wx ∧ Hid (b = (an.take r).any (fun y=>decide (i = y))) ∧ r ≤ n2 ∧ n2 ≤ r + gf)
          case atStart=>exact ⟨0,false,rfl,rfl,rfl,Lib.hid (by simp),by omega,by omega⟩
          case round =>
           obtain ⟨r,b,rfl,rfl,rfl,HBB,hrn,hfu4⟩:=hrel
           by_cases hrl:r < n2
           ·obtain ⟨g4,rfl⟩:∃ g4,gk = g4 + 1:=⟨gk - 1,by omega⟩
            have hrl':(r:Int) < (n2:Int):=by omega
            have hr0:(0:Int) ≤ r:=by omega
            obtain ⟨y,hy⟩:∃ y,an[r]? = some y:=⟨an[r]'(by rw [HNN.out]; exact hrl),List.getElem?_eq_getElem _⟩
            obtain ⟨_,a',c',e1,_,hc⟩:=HIA2.out
            simp only [Value.slice.injEq] at e1
            obtain ⟨rfl,hmx,rfl⟩:=e1
            clear hmx
            obtain ⟨R2,rfl,hcell⟩:=hc (by rw [HNN.out]; omega)
            have z0:=hcell r y hy
            have hany:=any_take (f:=fun y=>decide (i = y)) hy
            have HANY:=Lib.hid hany
            clear hc hcell hy hany
            cases b with
            | true =>
             have HB2:Hid (true = (an.take (r + 1)).any (fun y=>decide (i = y))):=Lib.hid (by rw [HANY.out,← HBB.out]; rfl)
             clear HBB HANY
             go_wp2_with fail
             go_roundg g4
             case measure=>omega
             case rel=>exact ⟨r + 1,true,rfl,by go_num,rfl,HB2,by omega,by omega⟩
            | false =>
             by_cases hiy:i = y
             ·have he:((i:Int) == (y:Int)) = true:=by rw [hiy]; simp
              have HB2:Hid (true = (an.take (r + 1)).any (fun y=>decide (i = y))):=Lib.hid (by rw [HANY.out,← HBB.out,decide_eq_true hiy]; rfl)
              clear HBB HANY hiy
              go_wp2_with fail
              go_roundg g4
              case measure=>omega
              case rel=>exact ⟨r + 1,true,rfl,by go_num,rfl,HB2,by omega,by omega⟩
             ·have he:((i:Int) == (y:Int)) = false:=by rw [beq_eq_false_iff_ne]; omega
              have HB2:Hid (false = (an.take (r + 1)).any (fun y=>decide (i = y))):=Lib.hid (by rw [HANY.out,← HBB.out,decide_eq_false hiy]; rfl)
              clear HBB HANY hiy
              go_wp2_with fail
              go_roundg g4
              case measure=>omega
              case rel=>exact ⟨r + 1,false,rfl,by go_num,rfl,HB2,by omega,by omega⟩
           ·obtain rfl:r = n2:=by omega
            have hgr:¬ (r:Int) < (r:Int):=by omega
            have hbt:b = true:=by
             rw [HBB.out,List.take_of_length_le (by rw [HNN.out]; exact Nat.le_refl _)]
             exact List.any_eq_true.2 ⟨i,INA.out,decide_eq_true rfl⟩
            subst hbt
            clear HBB
            go_wp2_with fail
            go_roundg g3
            case measure=>omega
            case rel=>exact ⟨t + 1,by go_num,rfl,by omega,by omega⟩
         ·obtain rfl:t = m:=by omega
          have hgt:¬ (t:Int) < (t:Int):=by omega
          have KA:Hid (∀ u,Below wm.heap.size wm u → u.rangeAt w.heap.size 0 [.string (S a.1),.int .i64 a.2.1,.string (S a.2.2)]):=Lib.hid fun u hu=>range_of (Rl.is_on HA.out (B3.out.trans ((B2u.out.trans (hu.mono B2u.out.size)).mono B3.out.size)))
          have z3:(Tryz.prog.info? 28).map (·.size) = some 3:=by kernel_rfl
          have Z3:=Lib.hid z3
          have BB:=Lib.hid (B3.out.trans (B2u.out.mono B3.out.size))
          have CX:Hid (∀ u,Below wm.heap.size wm u → Calls Tryz.prog 29 #[.pointer (some ⟨pb,0,none⟩),.agg #[.string (S a.1),.int .i64 a.2.1,.string (S a.2.2)]] u fun e w'=>∃ v,e = .returned v ∧ Ints w' v ml ∧ Below u.heap.size u w'):=Lib.hid fun u hu=>by
           have h:=meets_any pb xs a u (Idx.below X3.out (B2u.out.trans (hu.mono B2u.out.size))) XL.out (by rw [XN.out]; omega) LA.out (GV3.out.on (B2u.out.trans (hu.mono B2u.out.size)))
           rw [HML.out] at h
           exact h.mono fun e w' ⟨v,h1,h2,h3⟩=>⟨v,h1,ints_of h2 MLL.out,h3⟩
          have CY:Hid (∀ u,Below wm.heap.size wm u → Calls Tryz.prog 29 #[.pointer (some ⟨pb2,0,none⟩),.agg #[.string (S a.1),.int .i64 a.2.1,.string (S a.2.2)]] u fun e w'=>∃ v,e = .returned v ∧ Ints w' v ml ∧ Below u.heap.size u w'):=Lib.hid fun u hu=>by
           have h:=meets_any pb2 xs a u (Idx.below Y3.out (B2u.out.trans (hu.mono B2u.out.size))) XL.out (by rw [XN.out]; omega) LA.out (GV3.out.on (B2u.out.trans (hu.mono B2u.out.size)))
           rw [HML.out] at h
           exact h.mono fun e w' ⟨v,h1,h2,h3⟩=>⟨v,h1,ints_of h2 MLL.out,h3⟩
          have GVU:=Lib.hid (GV3.out.on B2u.out)
          clear z3
          go_upto_region 34 with fail
          refine wp_region_held (S:=fun u=>Below wm.heap.size wm u) (by kernel_rfl) ?_
          have hS0:Below wm.heap.size wm wm.drew:=(Below.refl _ _).drew
          change wpAnyH _ _ _ _ _ 11 _ _ wm.drew
          generalize wm.drew = u0 at *
          refine wpAnyH_take (i:=0) (v:=.pointer (some ⟨pb,0,none⟩)) rfl (by kernel_rfl) (by kernel_rfl) (by kernel_rfl) (fun _ _ _ h=>h) (.inl ⟨rfl,fun w _=>rfl⟩) hS0 ?_
          simp only [Act.put,List.getElem_toArray,List.getElem_cons_zero,List.getElem_cons_succ,List.setIfInBounds_toArray,List.set_cons_zero,List.set_cons_succ]
          refine wpAnyH_take (i:=1) (v:=.agg [.string (S a.1),.int .i64 a.2.1,.string (S a.2.2)].toArray) rfl (by kernel_rfl) (by kernel_rfl) (by kernel_rfl) (fun _ _ _ h=>h) (yieldsIf_load_mid rfl 28 (.tmp 3) rfl w.heap.size 0 rfl _ _ KA.out Tryz.underlying28 rfl Z3.out) hS0 ?_
          simp only [Act.put,List.getElem_toArray,List.getElem_cons_zero,List.getElem_cons_succ,List.setIfInBounds_toArray,List.set_cons_zero,List.set_cons_succ]
          refine wpAnyH_take (i:=3) (v:=.pointer (some ⟨pb2,0,none⟩)) rfl (by kernel_rfl) (by kernel_rfl) (by kernel_rfl) (fun _ _ _ h=>h) (.inl ⟨rfl,fun w _=>rfl⟩) hS0 ?_
          simp only [Act.put,List.getElem_toArray,List.getElem_cons_zero,List.getElem_cons_succ,List.setIfInBounds_toArray,List.set_cons_zero,List.set_cons_succ]
          refine wpAnyH_take (i:=4) (v:=.agg [.string (S a.1),.int .i64 a.2.1,.string (S a.2.2)].toArray) rfl (by kernel_rfl) (by kernel_rfl) (by kernel_rfl) (fun _ _ _ h=>h) (yieldsIf_load_mid rfl 28 (.tmp 3) rfl w.heap.size 0 rfl _ _ KA.out Tryz.underlying28 rfl Z3.out) hS0 ?_
          simp only [Act.put,List.getElem_toArray,List.getElem_cons_zero,List.getElem_cons_succ,List.setIfInBounds_toArray,List.set_cons_zero,List.set_cons_succ]
          have cx:=CX.out u0 hS0
          refine wpAnyH_all (rs:=[2]) (by kernel_rfl) (by simp) ?_
          intro i hi
          obtain rfl:=List.mem_singleton.1 hi
          refine Reg.wpOp_list rfl ?_
          go_wp2_with fail
          refine cx.mono ?_
          rintro e u1 ⟨va,rfl,hva,k1⟩
          go_wp2_with fail
          change _ ∧ _
          have hS1:Below wm.heap.size wm u1:=hS0.trans (k1.mono hS0.size)
          refine ⟨hS1,?_⟩
          clear cx
          have cx:=CY.out u1 hS1
          refine wpAnyH_all (rs:=[5]) (by kernel_rfl) (by simp) ?_
          intro i hi
          obtain rfl:=List.mem_singleton.1 hi
          refine Reg.wpOp_list rfl ?_
          go_wp2_with fail
          refine cx.mono ?_
          rintro e u2 ⟨vb,rfl,hvb,k2⟩
          go_wp2_with fail
          change _ ∧ _
          have hS2:Below wm.heap.size wm u2:=hS1.trans (k2.mono hS1.size)
          refine ⟨hS2,?_⟩
          clear cx
          have cx:=sameInts_any va vb ml u2 (hva.below k2) hvb
          refine wpAnyH_all (rs:=[6]) (by kernel_rfl) (by simp) ?_
          intro i hi
          obtain rfl:=List.mem_singleton.1 hi
          refine Reg.wpOp_list rfl ?_
          go_wp2_with fail
          refine cx.mono ?_
          rintro e u3 ⟨rfl,k3⟩
          go_wp2_with fail
          change _ ∧ _
          have hS3:Below wm.heap.size wm u3:=hS2.trans (k3.mono hS2.size)
          refine ⟨hS3,?_⟩
          clear cx
          refine wpAnyH_all (rs:=[7]) (by kernel_rfl) (by simp) ?_
          intro i hi
          obtain rfl:=List.mem_singleton.1 hi
          refine Reg.wpOp_list rfl ?_
          go_wp2_with fail
          change _ ∧ _
          refine ⟨hS3,?_⟩
          have cx:=awake_any u3 (GVU.out.on hS3)
          refine wpAnyH_all (rs:=[8]) (by kernel_rfl) (by simp) ?_
          intro i hi
          obtain rfl:=List.mem_singleton.1 hi
          refine Reg.wpOp_list rfl ?_
          go_wp2_with fail
          refine cx.mono ?_
          rintro e u4 ⟨rfl,k4⟩
          go_wp2_with fail
          change _ ∧ _
          have hS4:Below wm.heap.size wm u4:=hS3.trans (k4.mono hS3.size)
          refine ⟨hS4,?_⟩
          clear cx
          refine wpAnyH_all (rs:=[9]) (by kernel_rfl) (by simp) ?_
          intro i hi
          obtain rfl:=List.mem_singleton.1 hi
          refine Reg.wpOp_list rfl ?_
          go_wp2_with fail
          change _ ∧ _
          refine ⟨hS4,?_⟩
          refine wpAnyH_all (rs:=[10]) (by kernel_rfl) (by simp) ?_
          intro i hi
          obtain rfl:=List.mem_singleton.1 hi
          refine Reg.wpOp_list rfl ?_
          go_wp2_with fail
          change _ ∧ _
          refine ⟨hS4,?_⟩
          refine wpAnyH_done (by kernel_rfl) ?_ _
          have hbz:=HB.out.trans ((BB.out.trans (hS4.mono BB.out.size)).mono HB.out.size)
          clear hS0 hS1 hS2 hS3 hS4
          go_wp2_with fail
          go_ret
          exact ⟨rfl,hbz⟩
     ·have hmr:mayAll l.reverse ≠ 0:=fun h=>hm ((mayAll_perm (List.reverse_perm l)).1 h)
      have c1:=new_no _ l wr HPL.out HLI.out VR.out hm
      rw [HN.out] at c1
      have hne1:(mayAll l != 0) = true:=by simp [hm]
      have hne2:(mayAll l.reverse != 0) = true:=by simp [hmr]
      have HMR:=Lib.hid hmr
      clear hm hmr
      generalize mayAll l = E1 at *
      go_wp2_with fail
      refine c1.mono ?_
      rintro e w2 ⟨rfl,k2⟩
      have B2:=Lib.hid (HBW.out.trans (k2.mono HBW.out.size))
      have c2:=new_no _ l.reverse w2 (HPK.out.below k2) HLR.out (VR.out.on k2) HMR.out
      clear HMR
      generalize mayAll l.reverse = E2 at *
      clear c1 k2
      go_wp2_with fail
      refine c2.mono ?_
      rintro e w3 ⟨rfl,k3⟩
      have B3:=Lib.hid (B2.out.trans (k3.mono B2.out.size))
      clear c2 k3
      have ca:=awake_any w3 (GV.out.on B3.out)
      go_wp2_with fail
      refine ca.mono ?_
      rintro e w99 ⟨rfl,k99⟩
      have hb:=HB.out.trans ((B3.out.trans (k99.mono B3.out.size)).mono HB.out.size)
      clear ca
      go_wp2_with fail
      go_ret
      exact ⟨rfl,hb⟩
end Ix
end Go.Proofs.YtelofmeapplfpaaGreatDoor

/-
The law IndexFinds.
-/
import Derived.Test.YtelofmeapplfpaaGreatDoorDIxAt
import Derived.Test.YtelofmeapplfpaaGreatDoorDIxNew
import Derived.Test.YtelofmeapplfpaaGreatDoorDIxAwake
import Derived.Test.YtelofmeapplfpaaGreatDoorDIxYSat
import Derived.Test.YtelofmeapplfpaaGreatDoorDIxYSort
import Derived.Test.YtelofmeapplfpaaGreatDoorDIxYNames
import Derived.Test.YtelofmeapplfpaaGreatDoorDRecSame
import Derived.Test.YtelofmeapplfpaaGreatDoorDRecYAll
namespace Go.Proofs.YtelofmeapplfpaaGreatDoor
open Go.RowKit
set_option linter.unusedSimpArgs false
set_option linter.unusedVariables false
namespace Ix
open Ver (Bs S S_li S_size)
open Rl (At Pv Vars aV mem_getD)
open Rc (Pk nPk Pks PkV PkC Has mayAll nmsOf)
theorem eqP_own (p:Pk):Rc.eqP p p = true:=by unfold Rc.eqP; simp
theorem apart_turn {a b:Option Nat} (h:a = none ∨ a ≠ b):b = none ∨ b ≠ a:=by
 cases b with
 | none=>exact .inl rfl
 | some j =>
  refine .inr fun e=>?_
  rcases h with h | h
  ·rw [h] at e; cases e
  ·exact h e.symm
theorem two_rows {w w4:World} {B:Nat} {v v' u:Value} {n m:Nat} {XS YS:List Value} (hv:w.ownsRow B 3 1 v n XS) (hu:w.ownsRow B 3 1 u m YS) (hap:v.ownBlock = none ∨ v.ownBlock ≠ u.ownBlock) (hg:w.grownBy w4 v.ownBlock) (hl:∀ k,v'.ownBlock = some k → v.ownBlock = some k ∨ w.heap.size ≤ k) :
  w4.ownsRow B 3 1 u m YS ∧ (v'.ownBlock = none ∨ v'.ownBlock ≠ u.ownBlock):=by
 have hc:Blk.Chg (fun j=>v.ownBlock = some j) w w4:=(Blk.Chg.refl _ w).grown hg fun j hj _=>hj
 have hno:∀ j,u.ownBlock = some j → ¬ v.ownBlock = some j:=fun j hj hs=>by
  rcases hap with h | h
  ·rw [h] at hs; cases hs
  ·exact h (hs.trans hj.symm)
 refine ⟨hc.owns hu hno,?_⟩
 cases hv':v'.ownBlock with
 | none=>exact .inl rfl
 | some j =>
  refine .inr fun e=>?_
  rcases hl j hv' with h | h
  ·exact hno j e.symm h
  ·have:=(Rl.own_lt hu e.symm).2
   omega
theorem is_grown {w w4:World} {B:Nat} {v:Value} {n:Nat} {XS:List Value} (hv:w.ownsRow B 3 1 v n XS) (hg:w.grownBy w4 v.ownBlock) {b:Nat} {cs:Array Value} (hi:Blk.Is w b 26 cs):Blk.Is w4 b 26 cs:=by
 have hc:Blk.Chg (fun j=>v.ownBlock = some j) w w4:=(Blk.Chg.refl _ w).grown hg fun j hj _=>hj
 refine hc.is hi fun hs=>?_
 obtain ⟨cs',h⟩:=Rl.own_is hv hs
 exact absurd (hi.inj h).1 (by decide)
def fo (xs:List Pk) (nm:Bs) (k:Nat):List Nat:=pl (ff xs false nm) k
def fm (xs:List Pk) (a:At) (k:Nat):List Nat:=pl (fun i=>sat (xs.getD i nPk) a) k
theorem pl_len (f:Nat → Bool) (k:Nat):(pl f k).length ≤ k:=by
 unfold pl
 exact Nat.le_trans (List.length_filter_le _ _) (by rw [List.length_range]; exact Nat.le_refl _)
theorem geq_no {w:World} {z:Int} (h:z < 0):(binOp BinOp.geq 3 (.int .i64 z) (.int .i64 0)).run Tryz.prog w = .ok (.bool false) w:=by
 have h0:decide ((0:Int) ≤ z) = false:=decide_eq_false (by omega)
 simp [go_sem,h0]
 try omega
theorem max_no {w:World} {z:Int} (h:z < 0):(Builtin.max_ #[3,3] 3 #[.int .i64 0,.int .i64 z]).run Tryz.prog w = .ok (.int .i64 0) w:=by
 rw [run_max_int2,if_neg (by omega)]
theorem gk_mem {xs:List Pk} {x:Bs}:gK xs xs.length false x ≠ [] ↔ ∃ p ∈ xs,p.nm = x:=by
 unfold gK pl
 constructor
 ·intro h
  obtain ⟨i,hi⟩:=List.exists_mem_of_ne_nil _ h
  obtain ⟨h1,h2⟩:=List.mem_filter.1 hi
  exact ⟨_,mem_getD (List.mem_range.1 h1),of_decide_eq_true h2⟩
 ·rintro ⟨p,hp,rfl⟩
  obtain ⟨i,hi⟩:=List.mem_iff_getElem?.1 hp
  refine List.ne_nil_of_mem (a:=i) (List.mem_filter.2 ⟨List.mem_range.2 (List.getElem?_eq_some_iff.1 hi).1,?_⟩)
  unfold ff
  rw [get_getD hi]
  exact decide_eq_true rfl
set_option maxRecDepth 100000 in
set_option maxHeartbeats 16000000 in
theorem finds_walk (v0:Value) (l:List Pk) (nm t:Bs) (a:At) (i:Int) (w:World) (hp:Pks w v0 l) (hL:∀ x ∈ l,x.Lim) (hnm:nm.length ≤ 140737488351232) (ht:t.length ≤ 140737488351232) (ha:LimAt a) (hv:Vars w) :
  Calls Tryz.prog 4 #[v0,.string (S nm),.string (S t),aV a,.int .i64 i] w fun e w'=>e = .returned (.bool true) ∧ Below w.heap.size w w':=by
 obtain ⟨sa,cap,rfl⟩:=hp.shape
 have hb1:=(Below.refl w.heap.size w).alloc (Nat.le_refl _) (.cells #[.string (S a.1),.int .i64 a.2.1,.string (S a.2.2)] 28)
 have i1:=Blk.Is.new w 28 #[.string (S a.1),.int .i64 a.2.1,.string (S a.2.2)]
 obtain ⟨W,hW⟩:∃ W,w.alloc (.cells #[.string (S a.1),.int .i64 a.2.1,.string (S a.2.2)] 28) = W:=⟨_,rfl⟩
 rw [hW] at hb1 i1
 have cl:=Rc.light_any _ l W (hp.below hb1)
 have H:=Lib.hid (hp.below hb1)
 have HLI:=Lib.hid hL
 have LA:=Lib.hid ha
 have LN:=Lib.hid hnm
 have LT:=Lib.hid ht
 have GV:=Lib.hid (hv.on hb1)
 have HB:=Lib.hid hb1
 have HA:=Lib.hid i1
 obtain ⟨n,hn⟩:∃ n,l.length = n:=⟨_,rfl⟩
 have HN:=Lib.hid hn
 rw [hn] at cl ⊢
 obtain ⟨b1,hb1'⟩:∃ b1,Rc.lightB l = b1:=⟨_,rfl⟩
 rw [hb1'] at cl
 unfold aV
 clear hp hb1 i1 hv hL ha hn hb1' hnm ht
 cases b1 with
 | false =>
  go_enter Tryz.func4,Tryz.ntmps4
  go_wp2_with fail
  clear hW
  refine cl.mono ?_
  rintro e w1 ⟨rfl,k1⟩
  have B1:=Lib.hid k1
  clear cl k1
  have ca:=awake_any w1 (GV.out.on B1.out)
  go_wp2_with fail
  refine ca.mono ?_
  rintro e w99 ⟨rfl,k99⟩
  have hb:=HB.out.trans ((B1.out.trans (k99.mono B1.out.size)).mono HB.out.size)
  clear ca
  go_wp2_with fail
  go_ret
  exact ⟨rfl,hb⟩
 | true =>
  go_enter Tryz.func4,Tryz.ntmps4
  go_wp2_with fail
  clear hW
  refine cl.mono ?_
  rintro e w1 ⟨rfl,k1⟩
  have B1:=Lib.hid k1
  clear cl k1
  by_cases hm:mayAll l = 0
  ·have ML:=Lib.hid (mayAll_of hm)
   have c1:=new_yes _ l w1 (H.out.below B1.out) HLI.out (GV.out.on B1.out) hm
   rw [HN.out] at c1
   have HM:=Lib.hid hm
   have hn24:n ≤ 24:=by rw [← HN.out]; exact ML.out.len
   clear hm
   go_wp2_with fail
   refine c1.mono ?_
   rintro e w2 ⟨pb,xs,rfl,hso,hix,k2⟩
   have B2:=Lib.hid (B1.out.trans (k2.mono B1.out.size))
   have c2:=Rc.ymayAll_any _ l w2 (H.out.below B2.out) HLI.out
   rw [HN.out,HM.out] at c2
   have HSO:=Lib.hid hso
   have HIX:=Lib.hid hix
   clear c1 hso hix k2
   go_wp2_with fail
   refine c2.mono ?_
   rintro e w3 ⟨rfl,k3⟩
   have B3:=Lib.hid (B2.out.trans (k3.mono B2.out.size))
   have X3:=Lib.hid (Idx.below HIX.out k3)
   have HFI:Hid (∀ p ∈ l,Fit p):=Lib.hid fun p hp=>⟨(ML.out.each p hp).ver,HLI.out p hp⟩
   have c3:=ysorted_any _ l w3 (H.out.below B3.out) HFI.out (by rw [HN.out]; omega)
   rw [HN.out] at c3
   have hxs:xs = insAll l []:=sorts_one ML.out (List.Perm.refl _) HSO.out (sorts_ins fun x hx=>(ML.out.each x hx).ver)
   rw [← hxs] at c3
   clear c2 k3 HIX hxs
   go_wp2_with fail
   refine c3.mono ?_
   rintro e w4 ⟨vs,rfl,hps,k4⟩
   have B4:=Lib.hid (B3.out.trans (k4.mono B3.out.size))
   have X4:=Lib.hid (Idx.below X3.out k4)
   have P4:=Lib.hid hps
   have XN:Hid (xs.length = n):=by rw [HSO.out.1.length_eq]; exact HN.out
   have XL:Hid (∀ x ∈ xs,x.Lim):=Lib.hid fun x hx=>HLI.out x (HSO.out.1.mem_iff.1 hx)
   have XF:Hid (∀ x ∈ xs,Few x):=Lib.hid fun x hx=>(ML.out.each x (HSO.out.1.mem_iff.1 hx)).few
   obtain ⟨va,vc,rfl⟩:=hps.shape
   rw [XN.out] at P4 ⊢
   have c4:=len_any pb xs w4 X4.out
   rw [XN.out] at c4
   have hnn:((n:Int) != (n:Int)) = false:=by simp
   clear c3 hps k4 X3
   go_wp2_with fail
   refine c4.mono ?_
   rintro e w5 ⟨rfl,k5⟩
   have B5:=Lib.hid (B4.out.trans (k5.mono B4.out.size))
   have X5:=Lib.hid (Idx.below X4.out k5)
   have P5:=Lib.hid (P4.out.below k5)
   have NSD:Hid ((nmsOf l []).Nodup):=nms_nodup l [] List.nodup_nil
   have NSM:Hid (∀ x,x ∈ nmsOf l [] ↔ gK xs xs.length false x ≠ []):=Lib.hid fun x=>by
    rw [nms_mem,gk_mem]
    simp only [List.not_mem_nil,false_or]
    exact ⟨fun ⟨p,h1,h2⟩=>⟨p,HSO.out.1.mem_iff.2 h1,h2⟩,fun ⟨p,h1,h2⟩=>⟨p,HSO.out.1.mem_iff.1 h1,h2⟩⟩
   have c5:=names_any pb xs w5 (nmsOf l []) X5.out NSD.out NSM.out (by have:=ML.out.nms; omega)
   clear c4 k5 X4 P4
   go_wp2_with fail
   refine c5.mono ?_
   rintro e w6 ⟨vn,rfl,htx,k6⟩
   have B6:=Lib.hid (B5.out.trans (k6.mono B5.out.size))
   have X6:=Lib.hid (Idx.below X5.out k6)
   have P6:=Lib.hid (P5.out.below k6)
   have T6:=Lib.hid htx
   have c6:=ynames_any _ l w6 (H.out.below B6.out) (by rw [HN.out]; omega)
   rw [HN.out,names_one NSD.out (l:=l.map Pk.nm) fun x=>by rw [nms_mem]; simp] at c6
   clear c5 htx k6 X5 P5
   go_wp2_with fail
   refine c6.mono ?_
   rintro e w7 ⟨vm,rfl,htx2,k7⟩
   have B7:=Lib.hid (B6.out.trans (k7.mono B6.out.size))
   have X7:=Lib.hid (Idx.below X6.out k7)
   have P7:=Lib.hid (P6.out.below k7)
   have c7:=Txt.sameTexts_any vn vm _ _ w7 (T6.out.below k7) htx2
   rw [decide_eq_true rfl] at c7
   clear c6 htx2 k7 X6 P6 T6
   go_wp2_with fail
   refine c7.mono ?_
   rintro e w8 ⟨rfl,k8⟩
   have B8:=Lib.hid (B7.out.trans (k8.mono B7.out.size))
   have X8:=Lib.hid (Idx.below X7.out k8)
   have P8:=Lib.hid (P7.out.below k8)
   clear c7 k8 X7 P7 NSD NSM
   go_wp2_with fail
   have XLE:=XN
   go_loopg [15,16,74] n (fun gf s15 s16 s74 wx=>∃ (k:Nat) (oa:Option Addr) (oc:Nat) (ma:Option Addr) (mc:Nat),s15 = .slice oa (fo xs nm k).length oc ∧ s16 = .slice ma (fm xs a k).length mc ∧ s74 = .int .i64 k ∧ Hid (wx.ownsRow w8.heap.size 3 1 (.slice oa (fo xs nm k).length oc) (fo xs nm k).length (ints (fo xs nm k))) ∧ Hid (wx.ownsRow w8.heap.size 3 1 (.slice ma (fm xs a k).length mc) (fm xs a k).length (ints (fm xs a k))) ∧ Hid ((Value.slice oa (fo xs nm k).length oc).ownBlock = none ∨ (Value.slice oa (fo xs nm k).length oc).ownBlock ≠ (Value.slice ma (fm xs a k).length mc).ownBlock) ∧ Hid (Below w8.heap.size w8 wx) ∧ k ≤ n ∧ n ≤ k + gf)
   case atStart=>exact ⟨0,none,0,none,0,rfl,rfl,rfl,Lib.hid (World.ownsRow_nil _ _ _ _),Lib.hid (World.ownsRow_nil _ _ _ _),Lib.hid (.inl rfl),Lib.hid (Below.refl _ _),by omega,by omega⟩
   case round =>
    obtain ⟨k,oa,oc,ma,mc,rfl,rfl,rfl,HO,HMR,HAP,HBX,hkn,hfu⟩:=hrel
    by_cases hlt:k < n
    ·obtain ⟨g',rfl⟩:∃ g',gk = g' + 1:=⟨gk - 1,by omega⟩
     have hlt':(k:Int) < (n:Int):=by omega
     have hk0:(0:Int) ≤ k:=by omega
     have hkl:k < xs.length:=by rw [XN.out]; exact hlt
     have XK:=Lib.hid hkl
     obtain ⟨_,a',cap',e1,_,hcells⟩:=P8.out
     rw [XN.out] at e1
     simp only [Value.slice.injEq,true_and] at e1
     obtain ⟨rfl,rfl⟩:=e1
     obtain ⟨kb,off,rfl,hcl2⟩:=hcells (by omega)
     obtain ⟨pa1,pn1,pc1,pa2,pn2,pc2,pa3,pn3,pc3,pa4,pn4,pc4,pa5,pn5,pc5,pa6,pn6,pc6,⟨x0,x1,x2,x3,x4,x5,x6,x7,x8⟩,hh⟩:=Rc.pk_read (hcl2 k hkl)
     rw [Nat.mul_comm 9 k] at x0 x1 x2 x3 x4 x5 x6 x7 x8
     replace x0:=Rl.cell_on x0 HBX.out
     replace x1:=Rl.cell_on x1 HBX.out
     replace x2:=Rl.cell_on x2 HBX.out
     replace x3:=Rl.cell_on x3 HBX.out
     replace x4:=Rl.cell_on x4 HBX.out
     replace x5:=Rl.cell_on x5 HBX.out
     replace x6:=Rl.cell_on x6 HBX.out
     replace x7:=Rl.cell_on x7 HBX.out
     replace x8:=Rl.cell_on x8 HBX.out
     have hlim:=XL.out _ (mem_getD (z:=nPk) hkl)
     obtain ⟨x,hx⟩:∃ x,xs.getD k nPk = x:=⟨_,rfl⟩
     rw [hx] at x0 x1 x8 hh hlim
     have HX:=Lib.hid hx
     have LX:=Lib.hid hlim
     have HH:=Lib.hid hh
     have hba:=(Below.refl wr.heap.size wr).alloc (Nat.le_refl _) (.cells #[.string (S x.nm),.string (S x.vs),.slice pa1 pn1 pc1,.slice pa2 pn2 pc2,.slice pa3 pn3 pc3,.slice pa4 pn4 pc4,.slice pa5 pn5 pc5,.slice pa6 pn6 pc6,.bool x.ess] 26)
     have ia:=Blk.Is.new wr 26 #[.string (S x.nm),.string (S x.vs),.slice pa1 pn1 pc1,.slice pa2 pn2 pc2,.slice pa3 pn3 pc3,.slice pa4 pn4 pc4,.slice pa5 pn5 pc5,.slice pa6 pn6 pc6,.bool x.ess]
     obtain ⟨b18,hb18⟩:∃ b18,wr.heap.size = b18:=⟨_,rfl⟩
     obtain ⟨V1,hV1⟩:∃ V1,wr.alloc (.cells #[.string (S x.nm),.string (S x.vs),.slice pa1 pn1 pc1,.slice pa2 pn2 pc2,.slice pa3 pn3 pc3,.slice pa4 pn4 pc4,.slice pa5 pn5 pc5,.slice pa6 pn6 pc6,.bool x.ess] 26) = V1:=⟨_,rfl⟩
     rw [hV1] at hba ia
     rw [hb18] at ia
     have BV:=Lib.hid (HBX.out.trans (hba.mono HBX.out.size))
     have J1:=Lib.hid ia
     have O1:=Lib.hid (Own.owns_below HO.out hba)
     have M1:=Lib.hid (Own.owns_below HMR.out hba)
     have c1:=at_yes pb xs k V1 (Idx.below X8.out BV.out) XF.out XK.out
     rw [HX.out] at c1
     have hu:=hV1
     clear hcells hcl2 hx hh hlim hkl hba ia hV1 HO HMR HBX
     go_wp2_with fail
     clear hu x0 x1 x2 x3 x4 x5 x6 x7 x8 hb18
     refine c1.mono ?_
     rintro e u1 ⟨v1,rfl,hv1,k1⟩
     have hbu:=BV.out.trans (k1.mono BV.out.size)
     obtain ⟨z1,z2,z3,z4,z5,z6,rfl,hh1⟩:=hv1
     obtain ⟨ra1,rc1,re1⟩:=hh1.pre.shape
     generalize x.pre.length = rn1 at re1
     obtain ⟨ra2,rc2,re2⟩:=hh1.dep.shape
     generalize x.dep.length = rn2 at re2
     obtain ⟨ra3,rc3,re3⟩:=hh1.rcm.shape
     generalize x.rcm.length = rn3 at re3
     obtain ⟨ra4,rc4,re4⟩:=hh1.con.shape
     generalize x.con.length = rn4 at re4
     obtain ⟨ra5,rc5,re5⟩:=hh1.brk.shape
     generalize x.brk.length = rn5 at re5
     obtain ⟨ra6,rc6,re6⟩:=hh1.prv.shape
     generalize x.prv.length = rn6 at re6
     subst re1 re2 re3 re4 re5 re6
     have hba:=(Below.refl u1.heap.size u1).alloc (Nat.le_refl _) (.cells #[.string (S x.nm),.string (S x.vs),.slice ra1 rn1 rc1,.slice ra2 rn2 rc2,.slice ra3 rn3 rc3,.slice ra4 rn4 rc4,.slice ra5 rn5 rc5,.slice ra6 rn6 rc6,.bool x.ess] 26)
     have ib:=Blk.Is.new u1 26 #[.string (S x.nm),.string (S x.vs),.slice ra1 rn1 rc1,.slice ra2 rn2 rc2,.slice ra3 rn3 rc3,.slice ra4 rn4 rc4,.slice ra5 rn5 rc5,.slice ra6 rn6 rc6,.bool x.ess]
     obtain ⟨V2,hV2⟩:∃ V2,u1.alloc (.cells #[.string (S x.nm),.string (S x.vs),.slice ra1 rn1 rc1,.slice ra2 rn2 rc2,.slice ra3 rn3 rc3,.slice ra4 rn4 rc4,.slice ra5 rn5 rc5,.slice ra6 rn6 rc6,.bool x.ess] 26) = V2:=⟨_,rfl⟩
     rw [hV2] at hba ib
     have hbv:=hbu.trans (hba.mono hbu.size)
     have BV2:=Lib.hid hbv
     have ja:=Rl.is_on (Rl.is_on J1.out k1) hba
     have J2:=Lib.hid ja
     have O2:=Lib.hid (Own.owns_below (Own.owns_below O1.out k1) hba)
     have M2:=Lib.hid (Own.owns_below (Own.owns_below M1.out k1) hba)
     have cs:=Rc.ysame_any (.agg #[.string (S x.nm),.string (S x.vs),.slice pa1 pn1 pc1,.slice pa2 pn2 pc2,.slice pa3 pn3 pc3,.slice pa4 pn4 pc4,.slice pa5 pn5 pc5,.slice pa6 pn6 pc6,.bool x.ess]) (.agg #[.string (S x.nm),.string (S x.vs),.slice ra1 rn1 rc1,.slice ra2 rn2 rc2,.slice ra3 rn3 rc3,.slice ra4 rn4 rc4,.slice ra5 rn5 rc5,.slice ra6 rn6 rc6,.bool x.ess]) x x V2 ⟨_,_,_,_,_,_,rfl,HH.out.below hbv⟩ ⟨_,_,_,_,_,_,rfl,hh1.below hba⟩
     rw [eqP_own] at cs
     have cc0:=ja.at (i:=0) rfl
     have dd0:=ib.at (i:=0) rfl
     have cc1:=ja.at (i:=1) rfl
     have dd1:=ib.at (i:=1) rfl
     have cc2:=ja.at (i:=2) rfl
     have dd2:=ib.at (i:=2) rfl
     have cc3:=ja.at (i:=3) rfl
     have dd3:=ib.at (i:=3) rfl
     have cc4:=ja.at (i:=4) rfl
     have dd4:=ib.at (i:=4) rfl
     have cc5:=ja.at (i:=5) rfl
     have dd5:=ib.at (i:=5) rfl
     have cc6:=ja.at (i:=6) rfl
     have dd6:=ib.at (i:=6) rfl
     have cc7:=ja.at (i:=7) rfl
     have dd7:=ib.at (i:=7) rfl
     have cc8:=ja.at (i:=8) rfl
     have dd8:=ib.at (i:=8) rfl
     have hu:=hV2
     clear c1 k1 hbu hh1 hba ib ja hV2 hbv J1 O1 M1 BV
     go_wp2_with fail
     clear hu cc0 dd0 cc1 dd1 cc2 dd2 cc3 dd3 cc4 dd4 cc5 dd5 cc6 dd6 cc7 dd7 cc8 dd8
     refine cs.mono ?_
     rintro e u3 ⟨rfl,k3⟩
     have BU:=Lib.hid (BV2.out.trans (k3.mono BV2.out.size))
     have ju:=Rl.is_on J2.out k3
     have JU:=Lib.hid ju
     have OU:=Lib.hid (Own.owns_below O2.out k3)
     have MU:=Lib.hid (Own.owns_below M2.out k3)
     have zsz:w8.heap.size ≤ u3.heap.size:=BU.out.size
     have c0:=ju.at (i:=0) rfl
     have hq:((S x.nm).toList == (S nm).toList) = decide (x.nm = nm):=Rl.S_beq _ _
     have FOs:Hid (fo xs nm (k + 1) = fo xs nm k ++ (if decide (x.nm = nm) = true then [k] else [])):=Lib.hid (by unfold fo; rw [pl_succ]; unfold ff; rw [HX.out])
     have FMs:Hid (fm xs a (k + 1) = fm xs a k ++ (if sat x a = true then [k] else [])):=Lib.hid (by unfold fm; rw [pl_succ,HX.out])
     have FOL:(fo xs nm k).length ≤ k:=pl_len _ _
     have FML:(fm xs a k).length ≤ k:=pl_len _ _
     clear cs k3 BV2 J2 O2 M2 ju
     cases hd:decide (x.nm = nm) with
     | false =>
      rw [hd] at hq FOs
      have hE:fo xs nm (k + 1) = fo xs nm k:=by rw [FOs.out]; simp
      have HE:=Lib.hid hE
      clear hd hE FOs
      have ru:=BU.out
      have jx:=JU.out
      clear c0
      have c0:=jx.at (i:=0) rfl
      have c1:=jx.at (i:=1) rfl
      have c2:=jx.at (i:=2) rfl
      have c3:=jx.at (i:=3) rfl
      have c4:=jx.at (i:=4) rfl
      have c5:=jx.at (i:=5) rfl
      have c6:=jx.at (i:=6) rfl
      have c7:=jx.at (i:=7) rfl
      have c8:=jx.at (i:=8) rfl
      have jA:=Rl.is_on HA.out (B8.out.trans (BU.out.mono B8.out.size))
      have d0:=jA.at (i:=0) rfl
      have d1:=jA.at (i:=1) rfl
      have d2:=jA.at (i:=2) rfl
      have cy:=ysat_any (.agg #[.string (S x.nm),.string (S x.vs),.slice pa1 pn1 pc1,.slice pa2 pn2 pc2,.slice pa3 pn3 pc3,.slice pa4 pn4 pc4,.slice pa5 pn5 pc5,.slice pa6 pn6 pc6,.bool x.ess]) x a u3 ⟨_,_,_,_,_,_,rfl,HH.out.below BU.out⟩ LX.out LA.out
      unfold aV at cy
      clear jx jA
      go_wp2_with fail
      clear c0 c1 c2 c3 c4 c5 c6 c7 c8 d0 d1 d2
      cases hs:sat x a with
      | false =>
       rw [hs] at cy FMs
       have hF:fm xs a (k + 1) = fm xs a k:=by rw [FMs.out]; simp
       have HF:=Lib.hid hF
       clear hs hF FMs
       refine cy.mono ?_
       rintro e y3 ⟨rfl,q3⟩
       have BY:=Lib.hid (BU.out.trans (q3.mono BU.out.size))
       have OY:=Own.owns_below OU.out q3
       have MY:=Own.owns_below MU.out q3
       have hap:=HAP.out
       rw [← HE.out] at OY hap ⊢
       rw [← HF.out] at MY hap ⊢
       skip
       have OY2:=Lib.hid OY
       have MY2:=Lib.hid MY
       have AY:=Lib.hid hap
       clear cy q3 OY MY hap
       go_wp2_with fail
       go_roundg g'
       case measure=>omega
       case rel=>exact ⟨k + 1,oa,oc,ma,mc,rfl,rfl,by go_num,OY2,MY2,AY,BY,by omega,by omega⟩
      | true =>
       rw [hs] at cy FMs
       have hF:fm xs a (k + 1) = fm xs a k ++ [k]:=by rw [FMs.out]; simp
       have HFL:Hid ((fm xs a (k + 1)).length = (fm xs a k).length + 1):=Lib.hid (by rw [hF,List.length_append]; rfl)
       have HFX:Hid (ints (fm xs a (k + 1)) = ints (fm xs a k) ++ [.int .i64 (k:Int)]):=Lib.hid (by rw [hF,ints_app])
       clear hs hF FMs
       refine cy.mono ?_
       rintro e y3 ⟨rfl,q3⟩
       have hby:=BU.out.trans (q3.mono BU.out.size)
       have hbA:Below y3.heap.size y3 (y3.alloc (.cells #[.int .i64 (k:Int)] 3)):=(Below.refl _ _).alloc (Nat.le_refl _) _
       have iA:=Blk.Is.new y3 3 #[.int .i64 (k:Int)]
       obtain ⟨Y4,hY4⟩:∃ Y4,y3.alloc (.cells #[.int .i64 (k:Int)] 3) = Y4:=⟨_,rfl⟩
       rw [hY4] at hbA iA
       have OY:=Lib.hid (Own.owns_below (Own.owns_below OU.out q3) hbA)
       have MY:=Lib.hid (Own.owns_below (Own.owns_below MU.out q3) hbA)
       have HC0:=Lib.hid (iA.at (i:=0) rfl)
       have BY:=Lib.hid (hby.trans (hbA.mono hby.size))
       have HZ:=Lib.hid (Nat.le_trans hby.size hbA.size)
       have hk70:(fm xs a k).length + 1 ≤ 70000:=by omega
       have FIN:Hid (∀ v' w4,w4.ownsRow w8.heap.size 3 1 v' ((fm xs a k).length + 1) (ints (fm xs a k) ++ [.int .i64 (k:Int)]) → Y4.grownBy w4 (Value.slice ma (fm xs a k).length mc).ownBlock → (∀ j,v'.ownBlock = some j → (Value.slice ma (fm xs a k).length mc).ownBlock = some j ∨ Y4.heap.size ≤ j) → ∃ a4 c4,v' = .slice a4 (fm xs a (k + 1)).length c4 ∧ w4.ownsRow w8.heap.size 3 1 (.slice a4 (fm xs a (k + 1)).length c4) (fm xs a (k + 1)).length (ints (fm xs a (k + 1))) ∧ w4.ownsRow w8.heap.size 3 1 (.slice oa (fo xs nm k).length oc) (fo xs nm k).length (ints (fo xs nm k)) ∧ ((Value.slice oa (fo xs nm k).length oc).ownBlock = none ∨ (Value.slice oa (fo xs nm k).length oc).ownBlock ≠ (Value.slice a4 (fm xs a (k + 1)).length c4).ownBlock) ∧ Below w8.heap.size w8 w4):=Lib.hid fun v' w4 o4 g4 l4=>by
        obtain ⟨r1,r2⟩:=two_rows MY.out OY.out (apart_turn HAP.out) g4 l4
        obtain ⟨a4,c4,rfl,_⟩:=Rl.own_shape o4
        refine ⟨a4,c4,by rw [HFL.out],?_,r1,?_,Own.below_grown BY.out MY.out g4 HZ.out⟩
        ·rw [HFX.out,HFL.out]; exact o4
        ·rw [HFL.out]; exact apart_turn r2
       clear cy q3 hby hbA iA
       go_wp2_with (at_builtin; refine append_int rfl (.tmp 104) (.tmp 106) rfl w8.heap.size (.slice ma (fm xs a k).length mc) (fm xs a k).length (ints (fm xs a k)) rfl MY.out y3.heap.size 1 rfl (.int .i64 (k:Int)) HC0.out rfl hk70 HZ.out ?_; intro v' w4 o4 g4 l4; obtain ⟨a4,c4,e4,r1,r2,r3,r4⟩:=FIN.out v' w4 o4 g4 l4; subst e4; have R1:=Lib.hid r1; have R2:=Lib.hid r2; have R3:=Lib.hid r3; have R4:=Lib.hid r4; clear o4 g4 l4 r1 r2 r3 r4)
       have hr2:=R2.out
       have hr3:=R3.out
       rw [← HE.out] at hr2 hr3 ⊢
       skip
       have R2':=Lib.hid hr2
       have R3':=Lib.hid hr3
       clear hr2 hr3
       go_roundg g'
       case measure=>omega
       case rel=>exact ⟨k + 1,oa,oc,a4,c4,rfl,rfl,by go_num,R2',R1,R3',R4,by omega,by omega⟩
     | true =>
      rw [hd] at hq FOs
      have hE:fo xs nm (k + 1) = fo xs nm k ++ [k]:=by rw [FOs.out]; simp
      have HE:=Lib.hid hE
      clear hd hE FOs
      have HEL:Hid ((fo xs nm (k + 1)).length = (fo xs nm k).length + 1):=Lib.hid (by rw [HE.out,List.length_append]; rfl)
      have HEX:Hid (ints (fo xs nm (k + 1)) = ints (fo xs nm k) ++ [.int .i64 (k:Int)]):=Lib.hid (by rw [HE.out,ints_app])
      have hbA:Below u3.heap.size u3 (u3.alloc (.cells #[.int .i64 (k:Int)] 3)):=(Below.refl _ _).alloc (Nat.le_refl _) _
      have iA:=Blk.Is.new u3 3 #[.int .i64 (k:Int)]
      obtain ⟨U4,hU4⟩:∃ U4,u3.alloc (.cells #[.int .i64 (k:Int)] 3) = U4:=⟨_,rfl⟩
      rw [hU4] at hbA iA
      have OW:=Lib.hid (Own.owns_below OU.out hbA)
      have MW:=Lib.hid (Own.owns_below MU.out hbA)
      have JW:=Lib.hid (Rl.is_on JU.out hbA)
      have HC0:=Lib.hid (iA.at (i:=0) rfl)
      have BW:=Lib.hid (BU.out.trans (hbA.mono BU.out.size))
      have HZ:=Lib.hid (Nat.le_trans BU.out.size hbA.size)
      have hk70:(fo xs nm k).length + 1 ≤ 70000:=by omega
      have FIN0:Hid (∀ v' w9,w9.ownsRow w8.heap.size 3 1 v' ((fo xs nm k).length + 1) (ints (fo xs nm k) ++ [.int .i64 (k:Int)]) → U4.grownBy w9 (Value.slice oa (fo xs nm k).length oc).ownBlock → (∀ j,v'.ownBlock = some j → (Value.slice oa (fo xs nm k).length oc).ownBlock = some j ∨ U4.heap.size ≤ j) → ∃ oa9 oc9,v' = .slice oa9 ((fo xs nm k).length + 1) oc9 ∧ w9.ownsRow w8.heap.size 3 1 (.slice ma (fm xs a k).length mc) (fm xs a k).length (ints (fm xs a k)) ∧ ((Value.slice oa9 ((fo xs nm k).length + 1) oc9).ownBlock = none ∨ (Value.slice oa9 ((fo xs nm k).length + 1) oc9).ownBlock ≠ (Value.slice ma (fm xs a k).length mc).ownBlock) ∧ Below w8.heap.size w8 w9 ∧ Blk.Is w9 b18 26 #[.string (S x.nm),.string (S x.vs),.slice pa1 pn1 pc1,.slice pa2 pn2 pc2,.slice pa3 pn3 pc3,.slice pa4 pn4 pc4,.slice pa5 pn5 pc5,.slice pa6 pn6 pc6,.bool x.ess]):=Lib.hid fun v' w9 o9 g9 l9=>by
       obtain ⟨r1,r2⟩:=two_rows OW.out MW.out HAP.out g9 l9
       obtain ⟨oa9,oc9,rfl,_⟩:=Rl.own_shape o9
       exact ⟨oa9,oc9,rfl,r1,r2,Own.below_grown BW.out OW.out g9 HZ.out,is_grown OW.out g9 JW.out⟩
      go_upto_region 18 with fail
      go_upto_region 19 with (at_builtin; refine append_int rfl (.tmp 97) (.tmp 99) rfl w8.heap.size (.slice oa (fo xs nm k).length oc) (fo xs nm k).length (ints (fo xs nm k)) rfl OW.out u3.heap.size 1 rfl (.int .i64 (k:Int)) HC0.out rfl hk70 HZ.out ?_; intro v' w9 o9 g9 l9; obtain ⟨oa9,oc9,e9,r1,r2,r3,r4⟩:=FIN0.out v' w9 o9 g9 l9; subst e9; have OU9:=Lib.hid o9; have MU9:=Lib.hid r1; have AP9:=Lib.hid r2; have BU9:=Lib.hid r3; have JU9:=Lib.hid r4; clear g9 l9 o9 r1 r2 r3 r4)
      clear hU4 hbA iA
      have jx:=JU9.out
      clear c0
      have c0:=jx.at (i:=0) rfl
      have c1:=jx.at (i:=1) rfl
      have c2:=jx.at (i:=2) rfl
      have c3:=jx.at (i:=3) rfl
      have c4:=jx.at (i:=4) rfl
      have c5:=jx.at (i:=5) rfl
      have c6:=jx.at (i:=6) rfl
      have c7:=jx.at (i:=7) rfl
      have c8:=jx.at (i:=8) rfl
      have jA:=Rl.is_on HA.out (B8.out.trans (BU9.out.mono B8.out.size))
      have d0:=jA.at (i:=0) rfl
      have d1:=jA.at (i:=1) rfl
      have d2:=jA.at (i:=2) rfl
      have cy:=ysat_any (.agg #[.string (S x.nm),.string (S x.vs),.slice pa1 pn1 pc1,.slice pa2 pn2 pc2,.slice pa3 pn3 pc3,.slice pa4 pn4 pc4,.slice pa5 pn5 pc5,.slice pa6 pn6 pc6,.bool x.ess]) x a w9 ⟨_,_,_,_,_,_,rfl,HH.out.below BU9.out⟩ LX.out LA.out
      unfold aV at cy
      clear jx jA
      go_wp2_with fail
      clear c0 c1 c2 c3 c4 c5 c6 c7 c8 d0 d1 d2
      cases hs:sat x a with
      | false =>
       rw [hs] at cy FMs
       have hF:fm xs a (k + 1) = fm xs a k:=by rw [FMs.out]; simp
       have HF:=Lib.hid hF
       clear hs hF FMs
       refine cy.mono ?_
       rintro e y3 ⟨rfl,q3⟩
       have BY:=Lib.hid (BU9.out.trans (q3.mono BU9.out.size))
       have OY:=Own.owns_below OU9.out q3
       have MY:=Own.owns_below MU9.out q3
       have hap:=AP9.out
       rw [← HEL.out] at OY hap ⊢
       rw [← HF.out] at MY hap ⊢
       rw [← HEX.out] at OY
       have OY2:=Lib.hid OY
       have MY2:=Lib.hid MY
       have AY:=Lib.hid hap
       clear cy q3 OY MY hap
       go_wp2_with fail
       go_roundg g'
       case measure=>omega
       case rel=>exact ⟨k + 1,oa9,oc9,ma,mc,rfl,rfl,by go_num,OY2,MY2,AY,BY,by omega,by omega⟩
      | true =>
       rw [hs] at cy FMs
       have hF:fm xs a (k + 1) = fm xs a k ++ [k]:=by rw [FMs.out]; simp
       have HFL:Hid ((fm xs a (k + 1)).length = (fm xs a k).length + 1):=Lib.hid (by rw [hF,List.length_append]; rfl)
       have HFX:Hid (ints (fm xs a (k + 1)) = ints (fm xs a k) ++ [.int .i64 (k:Int)]):=Lib.hid (by rw [hF,ints_app])
       clear hs hF FMs
       refine cy.mono ?_
       rintro e y3 ⟨rfl,q3⟩
       have hby:=BU9.out.trans (q3.mono BU9.out.size)
       have hbA:Below y3.heap.size y3 (y3.alloc (.cells #[.int .i64 (k:Int)] 3)):=(Below.refl _ _).alloc (Nat.le_refl _) _
       have iA:=Blk.Is.new y3 3 #[.int .i64 (k:Int)]
       obtain ⟨Y4,hY4⟩:∃ Y4,y3.alloc (.cells #[.int .i64 (k:Int)] 3) = Y4:=⟨_,rfl⟩
       rw [hY4] at hbA iA
       have OY:=Lib.hid (Own.owns_below (Own.owns_below OU9.out q3) hbA)
       have MY:=Lib.hid (Own.owns_below (Own.owns_below MU9.out q3) hbA)
       have HC0:=Lib.hid (iA.at (i:=0) rfl)
       have BY:=Lib.hid (hby.trans (hbA.mono hby.size))
       have HZ:=Lib.hid (Nat.le_trans hby.size hbA.size)
       have hk70:(fm xs a k).length + 1 ≤ 70000:=by omega
       have FIN:Hid (∀ v' w4,w4.ownsRow w8.heap.size 3 1 v' ((fm xs a k).length + 1) (ints (fm xs a k) ++ [.int .i64 (k:Int)]) → Y4.grownBy w4 (Value.slice ma (fm xs a k).length mc).ownBlock → (∀ j,v'.ownBlock = some j → (Value.slice ma (fm xs a k).length mc).ownBlock = some j ∨ Y4.heap.size ≤ j) → ∃ a4 c4,v' = .slice a4 (fm xs a (k + 1)).length c4 ∧ w4.ownsRow w8.heap.size 3 1 (.slice a4 (fm xs a (k + 1)).length c4) (fm xs a (k + 1)).length (ints (fm xs a (k + 1))) ∧ w4.ownsRow w8.heap.size 3 1 (.slice oa9 ((fo xs nm k).length + 1) oc9) ((fo xs nm k).length + 1) (ints (fo xs nm k) ++ [.int .i64 (k:Int)]) ∧ ((Value.slice oa9 ((fo xs nm k).length + 1) oc9).ownBlock = none ∨ (Value.slice oa9 ((fo xs nm k).length + 1) oc9).ownBlock ≠ (Value.slice a4 (fm xs a (k + 1)).length c4).ownBlock) ∧ Below w8.heap.size w8 w4):=Lib.hid fun v' w4 o4 g4 l4=>by
        obtain ⟨r1,r2⟩:=two_rows MY.out OY.out (apart_turn AP9.out) g4 l4
        obtain ⟨a4,c4,rfl,_⟩:=Rl.own_shape o4
        refine ⟨a4,c4,by rw [HFL.out],?_,r1,?_,Own.below_grown BY.out MY.out g4 HZ.out⟩
        ·rw [HFX.out,HFL.out]; exact o4
        ·rw [HFL.out]; exact apart_turn r2
       clear cy q3 hby hbA iA
       go_wp2_with (at_builtin; refine append_int rfl (.tmp 104) (.tmp 106) rfl w8.heap.size (.slice ma (fm xs a k).length mc) (fm xs a k).length (ints (fm xs a k)) rfl MY.out y3.heap.size 1 rfl (.int .i64 (k:Int)) HC0.out rfl hk70 HZ.out ?_; intro v' w4 o4 g4 l4; obtain ⟨a4,c4,e4,r1,r2,r3,r4⟩:=FIN.out v' w4 o4 g4 l4; subst e4; have R1:=Lib.hid r1; have R2:=Lib.hid r2; have R3:=Lib.hid r3; have R4:=Lib.hid r4; clear o4 g4 l4 r1 r2 r3 r4)
       have hr2:=R2.out
       have hr3:=R3.out
       rw [← HEL.out] at hr2 hr3 ⊢
       rw [← HEX.out] at hr2
       have R2':=Lib.hid hr2
       have R3':=Lib.hid hr3
       clear hr2 hr3
       go_roundg g'
       case measure=>omega
       case rel=>exact ⟨k + 1,oa9,oc9,a4,c4,rfl,rfl,by go_num,R2',R1,R3',R4,by omega,by omega⟩
    ·obtain rfl:k = n:=by omega
     have hge:¬ (k:Int) < (k:Int):=by omega
     have hfo:fo xs nm k = gK xs xs.length false nm:=by unfold fo gK; rw [XN.out]
     have hfm:fm xs a k = mt xs a:=by unfold fm mt; rw [XN.out]
     have HFO:=Lib.hid hfo
     have HFM:=Lib.hid hfm
     have IO:=Lib.hid (ints_of HO.out (Nat.le_trans (pl_len _ _) (by omega)))
     have IM:=Lib.hid (ints_of HMR.out (Nat.le_trans (pl_len _ _) (by omega)))
     have x60:xs.length ≤ 60000:=by rw [XN.out]; omega
     have X60:=Lib.hid x60
     have GV8:=Lib.hid (GV.out.on B8.out)
     have HBR:Hid (Below wr.heap.size wr wr):=Lib.hid (Below.refl _ _)
     have cf:=find_any pb xs nm t wr (Idx.below X8.out HBX.out) XL.out x60 LN.out LT.out (GV8.out.on HBX.out)
     obtain ⟨R,hR⟩:∃ R,(List.range xs.length).find? (isAt xs nm t) = R:=⟨_,rfl⟩
     rw [found,hR] at cf
     have HR:=Lib.hid hR
     obtain ⟨ol,hol⟩:∃ ol,(fo xs nm k).length = ol:=⟨_,rfl⟩
     obtain ⟨ml,hml⟩:∃ ml,(fm xs a k).length = ml:=⟨_,rfl⟩
     rw [hol] at IO ⊢
     rw [hml] at IM ⊢
     clear hfo hfm x60 hR HO HMR HAP hol hml
     cases R with
     | none =>
      obtain ⟨z,hz⟩:∃ z:Int,z = -1:=⟨_,rfl⟩
      have HGZ:=Lib.hid (fun w=>geq_no (w:=w) (z:=z) (by omega))
      have HMX:=Lib.hid (fun w=>max_no (w:=w) (z:=z) (by omega))
      have HZ:=Lib.hid hz
      clear hz
      go_wp2_with fail
      refine cf.mono ?_
      rintro e y1 ⟨he,q1⟩
      have he':e = .returned (.tuple #[.int .i64 0,.bool false]):=he
      subst he'
      have BY1:=Lib.hid (HBX.out.trans (q1.mono HBX.out.size))
      have R1:=Lib.hid (HBR.out.trans (q1.mono HBR.out.size))
      have cv:=yversion_any _ xs nm t y1 (P8.out.below BY1.out) XL.out LT.out
      rw [HR.out] at cv
      replace cv:Calls Tryz.prog 26 #[.slice va k vc,.string (S nm),.string (S t)] y1 fun e w'=>e = .returned (.int .i64 z) ∧ Below y1.heap.size y1 w':=by first | exact cv | (rw [HZ.out]; exact cv)
      clear cf he q1
      go_wp2_with fail
      refine cv.mono ?_
      rintro e y2 ⟨rfl,q2⟩
      have BY2:=Lib.hid (BY1.out.trans (q2.mono BY1.out.size))
      have R2:=Lib.hid (R1.out.trans (q2.mono R1.out.size))
      clear cv q2 BY1
      by_cases hin:0 ≤ i
      ·by_cases hik:i < (k:Int)
       ·obtain ⟨q,rfl⟩:∃ q:Nat,i = q:=⟨i.toNat,by omega⟩
        have ct:=at_yes pb xs q y2 (Idx.below X8.out BY2.out) XF.out (by rw [XN.out]; omega)
        obtain ⟨x,hx⟩:∃ x,xs.getD q nPk = x:=⟨_,rfl⟩
        rw [hx] at ct
        clear hx
        go_wp2_with fail
        refine ct.mono ?_
        rintro e y3 ⟨v3,rfl,hv3,q3⟩
        have hby:=BY2.out.trans (q3.mono BY2.out.size)
        obtain ⟨z1,z2,z3,z4,z5,z6,rfl,hh3⟩:=hv3
        obtain ⟨ra1,rc1,re1⟩:=hh3.pre.shape
        generalize x.pre.length = rn1 at re1
        obtain ⟨ra2,rc2,re2⟩:=hh3.dep.shape
        generalize x.dep.length = rn2 at re2
        obtain ⟨ra3,rc3,re3⟩:=hh3.rcm.shape
        generalize x.rcm.length = rn3 at re3
        obtain ⟨ra4,rc4,re4⟩:=hh3.con.shape
        generalize x.con.length = rn4 at re4
        obtain ⟨ra5,rc5,re5⟩:=hh3.brk.shape
        generalize x.brk.length = rn5 at re5
        obtain ⟨ra6,rc6,re6⟩:=hh3.prv.shape
        generalize x.prv.length = rn6 at re6
        subst re1 re2 re3 re4 re5 re6
        have hba:=(Below.refl y3.heap.size y3).alloc (Nat.le_refl _) (.cells #[.string (S x.nm),.string (S x.vs),.slice ra1 rn1 rc1,.slice ra2 rn2 rc2,.slice ra3 rn3 rc3,.slice ra4 rn4 rc4,.slice ra5 rn5 rc5,.slice ra6 rn6 rc6,.bool x.ess] 26)
        obtain ⟨Y4,hY4⟩:∃ Y4,y3.alloc (.cells #[.string (S x.nm),.string (S x.vs),.slice ra1 rn1 rc1,.slice ra2 rn2 rc2,.slice ra3 rn3 rc3,.slice ra4 rn4 rc4,.slice ra5 rn5 rc5,.slice ra6 rn6 rc6,.bool x.ess] 26) = Y4:=⟨_,rfl⟩
        rw [hY4] at hba
        have B4y:=Lib.hid (hby.trans (hba.mono hby.size))
        have hr3:=R2.out.trans (q3.mono R2.out.size)
        have R4:=Lib.hid (hr3.trans (hba.mono hr3.size))
        have hu:=hY4
        clear ct hh3 q3 hby hba hY4
        have co:=of_any pb xs nm Y4 (Idx.below X8.out B4y.out) X60.out LN.out
        have hz0:z < 0:=by rw [HZ.out]; omega
        have hmx:=HMX.out
        go_wp2_with fail
        clear hu
        refine co.mono ?_
        rintro e y5 ⟨vo,rfl,ho5,q5⟩
        have B5y:=Lib.hid (B4y.out.trans (q5.mono B4y.out.size))
        rw [← HFO.out] at ho5
        have io5:=ints_of ho5 (Nat.le_trans (pl_len _ _) (by omega))
        have R5:=Lib.hid (R4.out.trans (q5.mono R4.out.size))
        have ci:=sameInts_any vo _ (fo xs nm k) y5 io5 (IO.out.below (R4.out.trans (q5.mono R4.out.size)))
        clear co ho5 q5 io5
        go_wp2_with fail
        refine ci.mono ?_
        rintro e y6 ⟨rfl,q6⟩
        have R6:=Lib.hid (R5.out.trans (q6.mono R5.out.size))
        have B6y:=Lib.hid (B5y.out.trans (q6.mono B5y.out.size))
        have cm:=meets_any pb xs a y6 (Idx.below X8.out B6y.out) XL.out X60.out LA.out (GV8.out.on B6y.out)
        unfold aV at cm
        have jA:=Rl.is_on HA.out (B8.out.trans (B6y.out.mono B8.out.size))
        have d0:=jA.at (i:=0) rfl
        have d1:=jA.at (i:=1) rfl
        have d2:=jA.at (i:=2) rfl
        clear ci q6 jA
        go_wp2_with fail
        clear d0 d1 d2
        refine cm.mono ?_
        rintro e y7 ⟨vt,rfl,hm7,q7⟩
        have B7y:=Lib.hid (B6y.out.trans (q7.mono B6y.out.size))
        rw [← HFM.out] at hm7
        have im7:=ints_of hm7 (Nat.le_trans (pl_len _ _) (by omega))
        have cj:=sameInts_any vt _ (fm xs a k) y7 im7 (IM.out.below (R6.out.trans (q7.mono R6.out.size)))
        clear cm hm7 q7 im7
        go_wp2_with fail
        refine cj.mono ?_
        rintro e y8 ⟨rfl,q8⟩
        have B8y:=Lib.hid (B7y.out.trans (q8.mono B7y.out.size))
        clear cj q8
        have ca:=awake_any y8 (GV8.out.on B8y.out)
        go_wp2_with fail
        refine ca.mono ?_
        rintro e y9 ⟨rfl,q9⟩
        have hb:=HB.out.trans ((B8.out.trans ((B8y.out.trans (q9.mono B8y.out.size)).mono B8.out.size)).mono HB.out.size)
        clear ca
        go_wp2_with fail
        go_ret
        exact ⟨by first | rfl | (simp [hz0]; done) | (simp [hz0,hik]; done) | (simp [hz0,hin]; done) | (simp [hik]; done) | (simp [hin]; done),hb⟩
       ·have ct:=at_no pb xs i y2 (Idx.below X8.out BY2.out) (.inr (by rw [XN.out]; omega))
        unfold pkZ at ct
        go_wp2_with fail
        refine ct.mono ?_
        rintro e y3 ⟨rfl,q3⟩
        have hby:=BY2.out.trans (q3.mono BY2.out.size)
        have hba:=(Below.refl y3.heap.size y3).alloc (Nat.le_refl _) (.cells #[.string ⟨#[]⟩,.string ⟨#[]⟩,.slice none 0 0,.slice none 0 0,.slice none 0 0,.slice none 0 0,.slice none 0 0,.slice none 0 0,.bool false] 26)
        obtain ⟨Y4,hY4⟩:∃ Y4,y3.alloc (.cells #[.string ⟨#[]⟩,.string ⟨#[]⟩,.slice none 0 0,.slice none 0 0,.slice none 0 0,.slice none 0 0,.slice none 0 0,.slice none 0 0,.bool false] 26) = Y4:=⟨_,rfl⟩
        rw [hY4] at hba
        have B4y:=Lib.hid (hby.trans (hba.mono hby.size))
        have hr3:=R2.out.trans (q3.mono R2.out.size)
        have R4:=Lib.hid (hr3.trans (hba.mono hr3.size))
        have HY4:=Lib.hid hY4
        clear ct q3 hby hba hY4
        have co:=of_any pb xs nm Y4 (Idx.below X8.out B4y.out) X60.out LN.out
        have hz0:z < 0:=by rw [HZ.out]; omega
        have hmx:=HMX.out
        go_wp2_with fail
        rw [HY4.out]
        refine co.mono ?_
        rintro e y5 ⟨vo,rfl,ho5,q5⟩
        have B5y:=Lib.hid (B4y.out.trans (q5.mono B4y.out.size))
        rw [← HFO.out] at ho5
        have io5:=ints_of ho5 (Nat.le_trans (pl_len _ _) (by omega))
        have R5:=Lib.hid (R4.out.trans (q5.mono R4.out.size))
        have ci:=sameInts_any vo _ (fo xs nm k) y5 io5 (IO.out.below (R4.out.trans (q5.mono R4.out.size)))
        clear co ho5 q5 io5
        go_wp2_with fail
        refine ci.mono ?_
        rintro e y6 ⟨rfl,q6⟩
        have R6:=Lib.hid (R5.out.trans (q6.mono R5.out.size))
        have B6y:=Lib.hid (B5y.out.trans (q6.mono B5y.out.size))
        have cm:=meets_any pb xs a y6 (Idx.below X8.out B6y.out) XL.out X60.out LA.out (GV8.out.on B6y.out)
        unfold aV at cm
        have jA:=Rl.is_on HA.out (B8.out.trans (B6y.out.mono B8.out.size))
        have d0:=jA.at (i:=0) rfl
        have d1:=jA.at (i:=1) rfl
        have d2:=jA.at (i:=2) rfl
        clear ci q6 jA
        go_wp2_with fail
        clear d0 d1 d2
        refine cm.mono ?_
        rintro e y7 ⟨vt,rfl,hm7,q7⟩
        have B7y:=Lib.hid (B6y.out.trans (q7.mono B6y.out.size))
        rw [← HFM.out] at hm7
        have im7:=ints_of hm7 (Nat.le_trans (pl_len _ _) (by omega))
        have cj:=sameInts_any vt _ (fm xs a k) y7 im7 (IM.out.below (R6.out.trans (q7.mono R6.out.size)))
        clear cm hm7 q7 im7
        go_wp2_with fail
        refine cj.mono ?_
        rintro e y8 ⟨rfl,q8⟩
        have B8y:=Lib.hid (B7y.out.trans (q8.mono B7y.out.size))
        clear cj q8
        have ca:=awake_any y8 (GV8.out.on B8y.out)
        go_wp2_with fail
        refine ca.mono ?_
        rintro e y9 ⟨rfl,q9⟩
        have hb:=HB.out.trans ((B8.out.trans ((B8y.out.trans (q9.mono B8y.out.size)).mono B8.out.size)).mono HB.out.size)
        clear ca
        go_wp2_with fail
        go_ret
        exact ⟨by first | rfl | (simp [hz0]; done) | (simp [hz0,hik]; done) | (simp [hz0,hin]; done) | (simp [hik]; done) | (simp [hin]; done),hb⟩
      ·have ct:=at_no pb xs i y2 (Idx.below X8.out BY2.out) (.inl (by omega))
       unfold pkZ at ct
       go_wp2_with fail
       refine ct.mono ?_
       rintro e y3 ⟨rfl,q3⟩
       have hby:=BY2.out.trans (q3.mono BY2.out.size)
       have hba:=(Below.refl y3.heap.size y3).alloc (Nat.le_refl _) (.cells #[.string ⟨#[]⟩,.string ⟨#[]⟩,.slice none 0 0,.slice none 0 0,.slice none 0 0,.slice none 0 0,.slice none 0 0,.slice none 0 0,.bool false] 26)
       obtain ⟨Y4,hY4⟩:∃ Y4,y3.alloc (.cells #[.string ⟨#[]⟩,.string ⟨#[]⟩,.slice none 0 0,.slice none 0 0,.slice none 0 0,.slice none 0 0,.slice none 0 0,.slice none 0 0,.bool false] 26) = Y4:=⟨_,rfl⟩
       rw [hY4] at hba
       have B4y:=Lib.hid (hby.trans (hba.mono hby.size))
       have hr3:=R2.out.trans (q3.mono R2.out.size)
       have R4:=Lib.hid (hr3.trans (hba.mono hr3.size))
       have HY4:=Lib.hid hY4
       clear ct q3 hby hba hY4
       have co:=of_any pb xs nm Y4 (Idx.below X8.out B4y.out) X60.out LN.out
       have hz0:z < 0:=by rw [HZ.out]; omega
       have hmx:=HMX.out
       go_wp2_with fail
       rw [HY4.out]
       refine co.mono ?_
       rintro e y5 ⟨vo,rfl,ho5,q5⟩
       have B5y:=Lib.hid (B4y.out.trans (q5.mono B4y.out.size))
       rw [← HFO.out] at ho5
       have io5:=ints_of ho5 (Nat.le_trans (pl_len _ _) (by omega))
       have R5:=Lib.hid (R4.out.trans (q5.mono R4.out.size))
       have ci:=sameInts_any vo _ (fo xs nm k) y5 io5 (IO.out.below (R4.out.trans (q5.mono R4.out.size)))
       clear co ho5 q5 io5
       go_wp2_with fail
       refine ci.mono ?_
       rintro e y6 ⟨rfl,q6⟩
       have R6:=Lib.hid (R5.out.trans (q6.mono R5.out.size))
       have B6y:=Lib.hid (B5y.out.trans (q6.mono B5y.out.size))
       have cm:=meets_any pb xs a y6 (Idx.below X8.out B6y.out) XL.out X60.out LA.out (GV8.out.on B6y.out)
       unfold aV at cm
       have jA:=Rl.is_on HA.out (B8.out.trans (B6y.out.mono B8.out.size))
       have d0:=jA.at (i:=0) rfl
       have d1:=jA.at (i:=1) rfl
       have d2:=jA.at (i:=2) rfl
       clear ci q6 jA
       go_wp2_with fail
       clear d0 d1 d2
       refine cm.mono ?_
       rintro e y7 ⟨vt,rfl,hm7,q7⟩
       have B7y:=Lib.hid (B6y.out.trans (q7.mono B6y.out.size))
       rw [← HFM.out] at hm7
       have im7:=ints_of hm7 (Nat.le_trans (pl_len _ _) (by omega))
       have cj:=sameInts_any vt _ (fm xs a k) y7 im7 (IM.out.below (R6.out.trans (q7.mono R6.out.size)))
       clear cm hm7 q7 im7
       go_wp2_with fail
       refine cj.mono ?_
       rintro e y8 ⟨rfl,q8⟩
       have B8y:=Lib.hid (B7y.out.trans (q8.mono B7y.out.size))
       clear cj q8
       have ca:=awake_any y8 (GV8.out.on B8y.out)
       go_wp2_with fail
       refine ca.mono ?_
       rintro e y9 ⟨rfl,q9⟩
       have hb:=HB.out.trans ((B8.out.trans ((B8y.out.trans (q9.mono B8y.out.size)).mono B8.out.size)).mono HB.out.size)
       clear ca
       go_wp2_with fail
       go_ret
       exact ⟨by first | rfl | (simp [hz0]; done) | (simp [hz0,hik]; done) | (simp [hz0,hin]; done) | (simp [hik]; done) | (simp [hin]; done),hb⟩
     | some j =>
      have hj0:(0:Int) ≤ (j:Int):=by omega
      have hjm:max (0:Int) (j:Int) = (j:Int):=by omega
      have hjj:((j:Int) == (j:Int)) = true:=by simp
      go_wp2_with fail
      refine cf.mono ?_
      rintro e y1 ⟨he,q1⟩
      have he':e = .returned (.tuple #[.int .i64 (j:Int),.bool true]):=he
      subst he'
      have BY1:=Lib.hid (HBX.out.trans (q1.mono HBX.out.size))
      have R1:=Lib.hid (HBR.out.trans (q1.mono HBR.out.size))
      have cv:=yversion_any _ xs nm t y1 (P8.out.below BY1.out) XL.out LT.out
      rw [HR.out] at cv
      replace cv:Calls Tryz.prog 26 #[.slice va k vc,.string (S nm),.string (S t)] y1 fun e w'=>e = .returned (.int .i64 (j:Int)) ∧ Below y1.heap.size y1 w':=by first | exact cv | (rw [HZ.out]; exact cv)
      clear cf he q1
      go_wp2_with fail
      refine cv.mono ?_
      rintro e y2 ⟨rfl,q2⟩
      have BY2:=Lib.hid (BY1.out.trans (q2.mono BY1.out.size))
      have R2:=Lib.hid (R1.out.trans (q2.mono R1.out.size))
      clear cv q2 BY1
      by_cases hin:0 ≤ i
      ·by_cases hik:i < (k:Int)
       ·obtain ⟨q,rfl⟩:∃ q:Nat,i = q:=⟨i.toNat,by omega⟩
        have ct:=at_yes pb xs q y2 (Idx.below X8.out BY2.out) XF.out (by rw [XN.out]; omega)
        obtain ⟨x,hx⟩:∃ x,xs.getD q nPk = x:=⟨_,rfl⟩
        rw [hx] at ct
        clear hx
        go_wp2_with fail
        refine ct.mono ?_
        rintro e y3 ⟨v3,rfl,hv3,q3⟩
        have hby:=BY2.out.trans (q3.mono BY2.out.size)
        obtain ⟨z1,z2,z3,z4,z5,z6,rfl,hh3⟩:=hv3
        obtain ⟨ra1,rc1,re1⟩:=hh3.pre.shape
        generalize x.pre.length = rn1 at re1
        obtain ⟨ra2,rc2,re2⟩:=hh3.dep.shape
        generalize x.dep.length = rn2 at re2
        obtain ⟨ra3,rc3,re3⟩:=hh3.rcm.shape
        generalize x.rcm.length = rn3 at re3
        obtain ⟨ra4,rc4,re4⟩:=hh3.con.shape
        generalize x.con.length = rn4 at re4
        obtain ⟨ra5,rc5,re5⟩:=hh3.brk.shape
        generalize x.brk.length = rn5 at re5
        obtain ⟨ra6,rc6,re6⟩:=hh3.prv.shape
        generalize x.prv.length = rn6 at re6
        subst re1 re2 re3 re4 re5 re6
        have hba:=(Below.refl y3.heap.size y3).alloc (Nat.le_refl _) (.cells #[.string (S x.nm),.string (S x.vs),.slice ra1 rn1 rc1,.slice ra2 rn2 rc2,.slice ra3 rn3 rc3,.slice ra4 rn4 rc4,.slice ra5 rn5 rc5,.slice ra6 rn6 rc6,.bool x.ess] 26)
        obtain ⟨Y4,hY4⟩:∃ Y4,y3.alloc (.cells #[.string (S x.nm),.string (S x.vs),.slice ra1 rn1 rc1,.slice ra2 rn2 rc2,.slice ra3 rn3 rc3,.slice ra4 rn4 rc4,.slice ra5 rn5 rc5,.slice ra6 rn6 rc6,.bool x.ess] 26) = Y4:=⟨_,rfl⟩
        rw [hY4] at hba
        have B4y:=Lib.hid (hby.trans (hba.mono hby.size))
        have hr3:=R2.out.trans (q3.mono R2.out.size)
        have R4:=Lib.hid (hr3.trans (hba.mono hr3.size))
        have hu:=hY4
        clear ct hh3 q3 hby hba hY4
        have co:=of_any pb xs nm Y4 (Idx.below X8.out B4y.out) X60.out LN.out
        go_wp2_with fail
        clear hu
        refine co.mono ?_
        rintro e y5 ⟨vo,rfl,ho5,q5⟩
        have B5y:=Lib.hid (B4y.out.trans (q5.mono B4y.out.size))
        rw [← HFO.out] at ho5
        have io5:=ints_of ho5 (Nat.le_trans (pl_len _ _) (by omega))
        have R5:=Lib.hid (R4.out.trans (q5.mono R4.out.size))
        have ci:=sameInts_any vo _ (fo xs nm k) y5 io5 (IO.out.below (R4.out.trans (q5.mono R4.out.size)))
        clear co ho5 q5 io5
        go_wp2_with fail
        refine ci.mono ?_
        rintro e y6 ⟨rfl,q6⟩
        have R6:=Lib.hid (R5.out.trans (q6.mono R5.out.size))
        have B6y:=Lib.hid (B5y.out.trans (q6.mono B5y.out.size))
        have cm:=meets_any pb xs a y6 (Idx.below X8.out B6y.out) XL.out X60.out LA.out (GV8.out.on B6y.out)
        unfold aV at cm
        have jA:=Rl.is_on HA.out (B8.out.trans (B6y.out.mono B8.out.size))
        have d0:=jA.at (i:=0) rfl
        have d1:=jA.at (i:=1) rfl
        have d2:=jA.at (i:=2) rfl
        clear ci q6 jA
        go_wp2_with fail
        clear d0 d1 d2
        refine cm.mono ?_
        rintro e y7 ⟨vt,rfl,hm7,q7⟩
        have B7y:=Lib.hid (B6y.out.trans (q7.mono B6y.out.size))
        rw [← HFM.out] at hm7
        have im7:=ints_of hm7 (Nat.le_trans (pl_len _ _) (by omega))
        have cj:=sameInts_any vt _ (fm xs a k) y7 im7 (IM.out.below (R6.out.trans (q7.mono R6.out.size)))
        clear cm hm7 q7 im7
        go_wp2_with fail
        refine cj.mono ?_
        rintro e y8 ⟨rfl,q8⟩
        have B8y:=Lib.hid (B7y.out.trans (q8.mono B7y.out.size))
        clear cj q8
        have ca:=awake_any y8 (GV8.out.on B8y.out)
        go_wp2_with fail
        refine ca.mono ?_
        rintro e y9 ⟨rfl,q9⟩
        have hb:=HB.out.trans ((B8.out.trans ((B8y.out.trans (q9.mono B8y.out.size)).mono B8.out.size)).mono HB.out.size)
        clear ca
        go_wp2_with fail
        go_ret
        exact ⟨by first | rfl | (simp [hz0]; done) | (simp [hz0,hik]; done) | (simp [hz0,hin]; done) | (simp [hik]; done) | (simp [hin]; done),hb⟩
       ·have ct:=at_no pb xs i y2 (Idx.below X8.out BY2.out) (.inr (by rw [XN.out]; omega))
        unfold pkZ at ct
        go_wp2_with fail
        refine ct.mono ?_
        rintro e y3 ⟨rfl,q3⟩
        have hby:=BY2.out.trans (q3.mono BY2.out.size)
        have hba:=(Below.refl y3.heap.size y3).alloc (Nat.le_refl _) (.cells #[.string ⟨#[]⟩,.string ⟨#[]⟩,.slice none 0 0,.slice none 0 0,.slice none 0 0,.slice none 0 0,.slice none 0 0,.slice none 0 0,.bool false] 26)
        obtain ⟨Y4,hY4⟩:∃ Y4,y3.alloc (.cells #[.string ⟨#[]⟩,.string ⟨#[]⟩,.slice none 0 0,.slice none 0 0,.slice none 0 0,.slice none 0 0,.slice none 0 0,.slice none 0 0,.bool false] 26) = Y4:=⟨_,rfl⟩
        rw [hY4] at hba
        have B4y:=Lib.hid (hby.trans (hba.mono hby.size))
        have hr3:=R2.out.trans (q3.mono R2.out.size)
        have R4:=Lib.hid (hr3.trans (hba.mono hr3.size))
        have HY4:=Lib.hid hY4
        clear ct q3 hby hba hY4
        have co:=of_any pb xs nm Y4 (Idx.below X8.out B4y.out) X60.out LN.out
        go_wp2_with fail
        rw [HY4.out]
        refine co.mono ?_
        rintro e y5 ⟨vo,rfl,ho5,q5⟩
        have B5y:=Lib.hid (B4y.out.trans (q5.mono B4y.out.size))
        rw [← HFO.out] at ho5
        have io5:=ints_of ho5 (Nat.le_trans (pl_len _ _) (by omega))
        have R5:=Lib.hid (R4.out.trans (q5.mono R4.out.size))
        have ci:=sameInts_any vo _ (fo xs nm k) y5 io5 (IO.out.below (R4.out.trans (q5.mono R4.out.size)))
        clear co ho5 q5 io5
        go_wp2_with fail
        refine ci.mono ?_
        rintro e y6 ⟨rfl,q6⟩
        have R6:=Lib.hid (R5.out.trans (q6.mono R5.out.size))
        have B6y:=Lib.hid (B5y.out.trans (q6.mono B5y.out.size))
        have cm:=meets_any pb xs a y6 (Idx.below X8.out B6y.out) XL.out X60.out LA.out (GV8.out.on B6y.out)
        unfold aV at cm
        have jA:=Rl.is_on HA.out (B8.out.trans (B6y.out.mono B8.out.size))
        have d0:=jA.at (i:=0) rfl
        have d1:=jA.at (i:=1) rfl
        have d2:=jA.at (i:=2) rfl
        clear ci q6 jA
        go_wp2_with fail
        clear d0 d1 d2
        refine cm.mono ?_
        rintro e y7 ⟨vt,rfl,hm7,q7⟩
        have B7y:=Lib.hid (B6y.out.trans (q7.mono B6y.out.size))
        rw [← HFM.out] at hm7
        have im7:=ints_of hm7 (Nat.le_trans (pl_len _ _) (by omega))
        have cj:=sameInts_any vt _ (fm xs a k) y7 im7 (IM.out.below (R6.out.trans (q7.mono R6.out.size)))
        clear cm hm7 q7 im7
        go_wp2_with fail
        refine cj.mono ?_
        rintro e y8 ⟨rfl,q8⟩
        have B8y:=Lib.hid (B7y.out.trans (q8.mono B7y.out.size))
        clear cj q8
        have ca:=awake_any y8 (GV8.out.on B8y.out)
        go_wp2_with fail
        refine ca.mono ?_
        rintro e y9 ⟨rfl,q9⟩
        have hb:=HB.out.trans ((B8.out.trans ((B8y.out.trans (q9.mono B8y.out.size)).mono B8.out.size)).mono HB.out.size)
        clear ca
        go_wp2_with fail
        go_ret
        exact ⟨by first | rfl | (simp [hz0]; done) | (simp [hz0,hik]; done) | (simp [hz0,hin]; done) | (simp [hik]; done) | (simp [hin]; done),hb⟩
      ·have ct:=at_no pb xs i y2 (Idx.below X8.out BY2.out) (.inl (by omega))
       unfold pkZ at ct
       go_wp2_with fail
       refine ct.mono ?_
       rintro e y3 ⟨rfl,q3⟩
       have hby:=BY2.out.trans (q3.mono BY2.out.size)
       have hba:=(Below.refl y3.heap.size y3).alloc (Nat.le_refl _) (.cells #[.string ⟨#[]⟩,.string ⟨#[]⟩,.slice none 0 0,.slice none 0 0,.slice none 0 0,.slice none 0 0,.slice none 0 0,.slice none 0 0,.bool false] 26)
       obtain ⟨Y4,hY4⟩:∃ Y4,y3.alloc (.cells #[.string ⟨#[]⟩,.string ⟨#[]⟩,.slice none 0 0,.slice none 0 0,.slice none 0 0,.slice none 0 0,.slice none 0 0,.slice none 0 0,.bool false] 26) = Y4:=⟨_,rfl⟩
       rw [hY4] at hba
       have B4y:=Lib.hid (hby.trans (hba.mono hby.size))
       have hr3:=R2.out.trans (q3.mono R2.out.size)
       have R4:=Lib.hid (hr3.trans (hba.mono hr3.size))
       have HY4:=Lib.hid hY4
       clear ct q3 hby hba hY4
       have co:=of_any pb xs nm Y4 (Idx.below X8.out B4y.out) X60.out LN.out
       go_wp2_with fail
       rw [HY4.out]
       refine co.mono ?_
       rintro e y5 ⟨vo,rfl,ho5,q5⟩
       have B5y:=Lib.hid (B4y.out.trans (q5.mono B4y.out.size))
       rw [← HFO.out] at ho5
       have io5:=ints_of ho5 (Nat.le_trans (pl_len _ _) (by omega))
       have R5:=Lib.hid (R4.out.trans (q5.mono R4.out.size))
       have ci:=sameInts_any vo _ (fo xs nm k) y5 io5 (IO.out.below (R4.out.trans (q5.mono R4.out.size)))
       clear co ho5 q5 io5
       go_wp2_with fail
       refine ci.mono ?_
       rintro e y6 ⟨rfl,q6⟩
       have R6:=Lib.hid (R5.out.trans (q6.mono R5.out.size))
       have B6y:=Lib.hid (B5y.out.trans (q6.mono B5y.out.size))
       have cm:=meets_any pb xs a y6 (Idx.below X8.out B6y.out) XL.out X60.out LA.out (GV8.out.on B6y.out)
       unfold aV at cm
       have jA:=Rl.is_on HA.out (B8.out.trans (B6y.out.mono B8.out.size))
       have d0:=jA.at (i:=0) rfl
       have d1:=jA.at (i:=1) rfl
       have d2:=jA.at (i:=2) rfl
       clear ci q6 jA
       go_wp2_with fail
       clear d0 d1 d2
       refine cm.mono ?_
       rintro e y7 ⟨vt,rfl,hm7,q7⟩
       have B7y:=Lib.hid (B6y.out.trans (q7.mono B6y.out.size))
       rw [← HFM.out] at hm7
       have im7:=ints_of hm7 (Nat.le_trans (pl_len _ _) (by omega))
       have cj:=sameInts_any vt _ (fm xs a k) y7 im7 (IM.out.below (R6.out.trans (q7.mono R6.out.size)))
       clear cm hm7 q7 im7
       go_wp2_with fail
       refine cj.mono ?_
       rintro e y8 ⟨rfl,q8⟩
       have B8y:=Lib.hid (B7y.out.trans (q8.mono B7y.out.size))
       clear cj q8
       have ca:=awake_any y8 (GV8.out.on B8y.out)
       go_wp2_with fail
       refine ca.mono ?_
       rintro e y9 ⟨rfl,q9⟩
       have hb:=HB.out.trans ((B8.out.trans ((B8y.out.trans (q9.mono B8y.out.size)).mono B8.out.size)).mono HB.out.size)
       clear ca
       go_wp2_with fail
       go_ret
       exact ⟨by first | rfl | (simp [hz0]; done) | (simp [hz0,hik]; done) | (simp [hz0,hin]; done) | (simp [hik]; done) | (simp [hin]; done),hb⟩
  ·have c1:=new_no _ l w1 (H.out.below B1.out) HLI.out (GV.out.on B1.out) hm
   rw [HN.out] at c1
   have hne:(mayAll l != 0) = true:=by simp [hm]
   have hee:(mayAll l == mayAll l) = true:=by simp
   have HM:=Lib.hid hm
   clear hm
   go_wp2_with fail
   refine c1.mono ?_
   rintro e w2 ⟨rfl,k2⟩
   have B2:=Lib.hid (B1.out.trans (k2.mono B1.out.size))
   have c2:=Rc.ymayAll_any _ l w2 (H.out.below B2.out) HLI.out
   rw [HN.out] at c2
   clear c1 k2
   generalize mayAll l = E1 at *
   go_wp2_with fail
   refine c2.mono ?_
   rintro e w3 ⟨rfl,k3⟩
   have B3:=Lib.hid (B2.out.trans (k3.mono B2.out.size))
   clear c2 k3
   have ca:=awake_any w3 (GV.out.on B3.out)
   go_wp2_with fail
   refine ca.mono ?_
   rintro e w99 ⟨rfl,k99⟩
   have hb:=HB.out.trans ((B3.out.trans (k99.mono B3.out.size)).mono HB.out.size)
   clear ca
   go_wp2_with fail
   go_ret
   exact ⟨rfl,hb⟩
end Ix
end Go.Proofs.YtelofmeapplfpaaGreatDoor

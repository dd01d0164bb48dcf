/-
The law RecordMay.
-/
import Derived.Test.YthmpepnikmdjpaaGreatDoorARecBare
import Derived.Test.YthmpepnikmdjpaaGreatDoorARecSame
import Derived.Deep.RegionHeld3
import Derived.Deep.MidRow
import Derived.Test.YthmpepnikmdjpaaGreatDoorARecFld
import Derived.Test.YthmpepnikmdjpaaGreatDoorARecYAll
namespace Go.Proofs.YthmpepnikmdjpaaGreatDoor
open Go.RowKit
set_option linter.unusedSimpArgs false
set_option linter.unusedVariables false
namespace Rc
open Ver (Bs li li_len S S_self S_size S_li sameV)
open Rl (At Pv Ats Pvs Clss Slc LimA LimP LimC Vars nA nP mem_getD may nmB isV pvA aV pV tcells)
theorem eqP_self (p:Pk):eqP p p = true:=(eqP_iff _ _).2 rfl
set_option maxRecDepth 100000 in
set_option maxHeartbeats 16000000 in
theorem may_walk (vp ve:Value) (l:List Pk) (es:List En) (w:World) (hp:Pks w vp l) (he:Ens w ve es) (hL:∀ x ∈ l,x.Lim) (hLe:∀ x ∈ es,x.pk.Lim) (hbig:es.length * 184 ≤ 140737488355328) (hG:Gl w) :
  Calls Tryz.prog 3 #[vp,ve] w fun e w'=>e = .returned (.bool true) ∧ Below w.heap.size w w':=by
 obtain ⟨sa,cap,rfl⟩:=hp.shape
 obtain ⟨ea,ecap,rfl⟩:=he.shape
 have cl:=light_any _ l w hp
 have H:=Lib.hid hp
 have HE:=Lib.hid he
 have HL:=Lib.hid hL
 have HLE:=Lib.hid hLe
 have HGV:=Lib.hid hG
 have HBIG:=Lib.hid hbig
 have hn0:=hp.1
 obtain ⟨n,hn⟩:∃ n,l.length = n:=⟨_,rfl⟩
 have HN:=Lib.hid hn
 rw [hn] at hn0 cl ⊢
 obtain ⟨m,hm⟩:∃ m,es.length = m:=⟨_,rfl⟩
 have HMN:=Lib.hid hm
 rw [hm] at ⊢
 obtain ⟨b1,hb1⟩:∃ b1,lightB l = b1:=⟨_,rfl⟩
 rw [hb1] at cl
 clear hn hm hp he hL hLe hbig hG hb1
 cases b1 with
 | false =>
  go_enter Tryz.func3,Tryz.ntmps3
  go_wp2_with fail
  refine cl.mono ?_
  rintro e w1 ⟨rfl,k1⟩
  have ca:=awake_any w1 (HGV.out.on k1)
  go_wp2_with fail
  refine ca.mono ?_
  rintro e w2 ⟨rfl,k2⟩
  have hb:=k1.trans (k2.mono k1.size)
  go_wp2_with fail
  go_ret
  exact ⟨rfl,hb⟩
 | true =>
  go_enter Tryz.func3,Tryz.ntmps3
  go_wp2_with fail
  refine cl.mono ?_
  rintro e w1 ⟨rfl,k1⟩
  have cb:=bare_any _ es w1 (HE.out.below k1) HBIG.out
  rw [HMN.out] at cb
  have K1:=Lib.hid k1
  clear cl k1
  go_wp2_with fail
  refine cb.mono ?_
  rintro e w2 ⟨v2,rfl,hp2,k2⟩
  have cl2:=light_any _ _ w2 hp2
  have K2:=Lib.hid (K1.out.trans (k2.mono K1.out.size))
  obtain ⟨b2,hb2⟩:∃ b2,lightB (es.map En.pk) = b2:=⟨_,rfl⟩
  rw [hb2] at cl2
  clear cb hp2 k2 hb2
  go_wp2_with fail
  refine cl2.mono ?_
  rintro e w3 ⟨rfl,k3⟩
  have K3:=Lib.hid (K2.out.trans (k3.mono K2.out.size))
  clear cl2 k3
  cases b2 with
  | false =>
   have ca:=awake_any w3 (HGV.out.on K3.out)
   go_wp2_with fail
   refine ca.mono ?_
   rintro e w4 ⟨rfl,k4⟩
   have hb:=K3.out.trans (k4.mono K3.out.size)
   go_wp2_with fail
   go_ret
   exact ⟨rfl,hb⟩
  | true =>
   go_wp2_with fail
   go_loopg [19] n (fun gf s1 wx=>∃ k:Nat,s1 = .int .i64 k ∧ Below w.heap.size w wx ∧ k ≤ n ∧ n ≤ k + gf)
   case atStart=>exact ⟨0,rfl,K3.out,by omega,by omega⟩
   case round =>
    obtain ⟨k,rfl,hbw,hkn,hfu⟩:=hrel
    by_cases hlt:k < n
    ·obtain ⟨g',rfl⟩:∃ g',gk = g' + 1:=⟨gk - 1,by omega⟩
     have hlt':(k:Int) < (n:Int):=by omega
     have hk0:(0:Int) ≤ k:=by omega
     have hkl:k < l.length:=by rw [HN.out]; exact hlt
     obtain ⟨_,a',cap',e1,_,hcells⟩:=H.out.below hbw
     simp only [Value.slice.injEq,true_and] at e1
     obtain ⟨rfl,rfl⟩:=e1
     obtain ⟨kb,off,rfl,hcl2⟩:=hcells (by omega)
     obtain ⟨a1,n1,c1,a2,n2,c2,a3,n3,c3,a4,n4,c4,a5,n5,c5,a6,n6,c6,⟨x0,x1,x2,x3,x4,x5,x6,x7,x8⟩,hh⟩:=pk_read (hcl2 k hkl)
     rw [Nat.mul_comm 9 k] at x0 x1 x2 x3 x4 x5 x6 x7 x8
     have hlim:=HL.out _ (mem_getD (z:=nPk) hkl)
     generalize hx:l.getD k nPk = x at *
     have HX:=Lib.hid hx
     have hb2:=(Below.refl wr.heap.size wr).alloc (Nat.le_refl _) (.cells #[.string (S x.nm),.string (S x.vs),.slice a1 n1 c1,.slice a2 n2 c2,.slice a3 n3 c3,.slice a4 n4 c4,.slice a5 n5 c5,.slice a6 n6 c6,.bool x.ess] 31)
     have i2:=Blk.Is.new wr 31 #[.string (S x.nm),.string (S x.vs),.slice a1 n1 c1,.slice a2 n2 c2,.slice a3 n3 c3,.slice a4 n4 c4,.slice a5 n5 c5,.slice a6 n6 c6,.bool x.ess]
     have hh2:=hh.below hb2
     have hB2:=hbw.trans (hb2.mono hbw.size)
     obtain ⟨bx,hbx⟩:∃ bx,wr.heap.size = bx:=⟨_,rfl⟩
     obtain ⟨W,hW⟩:∃ W,wr.alloc (.cells #[.string (S x.nm),.string (S x.vs),.slice a1 n1 c1,.slice a2 n2 c2,.slice a3 n3 c3,.slice a4 n4 c4,.slice a5 n5 c5,.slice a6 n6 c6,.bool x.ess] 31) = W:=⟨_,rfl⟩
     rw [hW] at hh2 i2 hB2 hb2
     rw [hbx] at i2
     have km:∀ u,Below W.heap.size W u → u.rangeAt bx 0 [.string (S x.nm),.string (S x.vs),.slice a1 n1 c1,.slice a2 n2 c2,.slice a3 n3 c3,.slice a4 n4 c4,.slice a5 n5 c5,.slice a6 n6 c6,.bool x.ess]:=fun u hu=>range_vals (Rl.is_on i2 hu)
     have PV:Hid (∀ u,Below W.heap.size W u → PkV u (.agg #[.string (S x.nm),.string (S x.vs),.slice a1 n1 c1,.slice a2 n2 c2,.slice a3 n3 c3,.slice a4 n4 c4,.slice a5 n5 c5,.slice a6 n6 c6,.bool x.ess]) x):=Lib.hid fun u hu=>⟨_,_,_,_,_,_,rfl,hh2.below hu⟩
     have KM:=Lib.hid km
     have z9:(Tryz.prog.info? 31).map (·.size) = some 9:=by kernel_rfl
     have Z9:=Lib.hid z9
     have LIM:=Lib.hid hlim
     have HB2:=Lib.hid hB2
     have GV:=Lib.hid (HGV.out.on hB2)
     obtain ⟨M,hM⟩:∃ M,mayK x = M:=⟨_,rfl⟩
     have HM:=Lib.hid hM
     have hmm:(M != M) = false:=by simp
     have HLT:=Lib.hid hcl2
     have HBR:=Lib.hid hb2
     clear hcl2 hx hlim hh hh2 hb2 i2 hbw hB2 km z9 hM
     go_upto_region 6 with fail
     clear hW
     refine wp_region_held (S:=fun u=>Below W.heap.size W u) (by kernel_rfl) ?_
     have hS0:Below W.heap.size W W.drew:=(Below.refl _ _).drew
     change wpAnyH _ _ _ _ _ 32 _ _ W.drew
     generalize W.drew = u0 at *
     refine wpAnyH_take (i:=0) (v:=.agg [.string (S x.nm),.string (S x.vs),.slice a1 n1 c1,.slice a2 n2 c2,.slice a3 n3 c3,.slice a4 n4 c4,.slice a5 n5 c5,.slice a6 n6 c6,.bool x.ess].toArray) rfl (by kernel_rfl) (by kernel_rfl) (by kernel_rfl) (fun _ _ _ h=>h) (yieldsIf_load_mid rfl 31 (.tmp 6) rfl bx 0 rfl _ _ KM.out Tryz.underlying31 rfl Z9.out) hS0 ?_
     simp only [Act.put,List.getElem_toArray,List.getElem_cons_zero,List.getElem_cons_succ,List.setIfInBounds_toArray,List.set_cons_zero,List.set_cons_succ]
     refine wpAnyH_take (i:=2) (v:=.agg [.string (S x.nm),.string (S x.vs),.slice a1 n1 c1,.slice a2 n2 c2,.slice a3 n3 c3,.slice a4 n4 c4,.slice a5 n5 c5,.slice a6 n6 c6,.bool x.ess].toArray) rfl (by kernel_rfl) (by kernel_rfl) (by kernel_rfl) (fun _ _ _ h=>h) (yieldsIf_load_mid rfl 31 (.tmp 6) rfl bx 0 rfl _ _ KM.out Tryz.underlying31 rfl Z9.out) hS0 ?_
     simp only [Act.put,List.getElem_toArray,List.getElem_cons_zero,List.getElem_cons_succ,List.setIfInBounds_toArray,List.set_cons_zero,List.set_cons_succ]
     have cx:=may_any _ x u0 (PV.out _ hS0) LIM.out ((GV.out.on hS0)).v
     rw [HM.out] at cx
     refine wpAnyH_all (rs:=[1]) (by kernel_rfl) (by simp) ?_
     intro i hi
     obtain rfl:=List.mem_singleton.1 hi
     refine Reg.wpOp_list rfl ?_
     go_wp2_with fail
     refine cx.mono ?_
     rintro e u1 ⟨rfl,k1⟩
     go_wp2_with fail
     change _ ∧ _
     have hS1:Below W.heap.size W u1:=hS0.trans (k1.mono hS0.size)
     refine ⟨hS1,?_⟩
     clear cx
     have cx:=ymay_any _ x u1 (PV.out _ hS1) LIM.out
     rw [HM.out] at cx
     refine wpAnyH_all (rs:=[3]) (by kernel_rfl) (by simp) ?_
     intro i hi
     obtain rfl:=List.mem_singleton.1 hi
     refine Reg.wpOp_list rfl ?_
     go_wp2_with fail
     refine cx.mono ?_
     rintro e u2 ⟨rfl,k2⟩
     go_wp2_with fail
     change _ ∧ _
     have hS2:Below W.heap.size W u2:=hS1.trans (k2.mono hS1.size)
     refine ⟨hS2,?_⟩
     clear cx
     refine wpAnyH_all (rs:=[4]) (by kernel_rfl) (by simp) ?_
     intro i hi
     obtain rfl:=List.mem_singleton.1 hi
     refine Reg.wpOp_list rfl ?_
     go_wp2_with fail
     change _ ∧ _
     refine ⟨hS2,?_⟩
     refine wpAnyH_all (rs:=[5]) (by kernel_rfl) (by simp) ?_
     intro i hi
     obtain rfl:=List.mem_singleton.1 hi
     refine Reg.wpOp_list rfl ?_
     go_wp2_with fail
     change _ ∧ _
     refine ⟨hS2,?_⟩
     refine wpAnyH_take (i:=6) (v:=.agg [.string (S x.nm),.string (S x.vs),.slice a1 n1 c1,.slice a2 n2 c2,.slice a3 n3 c3,.slice a4 n4 c4,.slice a5 n5 c5,.slice a6 n6 c6,.bool x.ess].toArray) rfl (by kernel_rfl) (by kernel_rfl) (by kernel_rfl) (fun _ _ _ h=>h) (yieldsIf_load_mid rfl 31 (.tmp 6) rfl bx 0 rfl _ _ KM.out Tryz.underlying31 rfl Z9.out) hS2 ?_
     simp only [Act.put,List.getElem_toArray,List.getElem_cons_zero,List.getElem_cons_succ,List.setIfInBounds_toArray,List.set_cons_zero,List.set_cons_succ]
     refine wpAnyH_take (i:=7) (v:=.agg [.string (S x.nm),.string (S x.vs),.slice a1 n1 c1,.slice a2 n2 c2,.slice a3 n3 c3,.slice a4 n4 c4,.slice a5 n5 c5,.slice a6 n6 c6,.bool x.ess].toArray) rfl (by kernel_rfl) (by kernel_rfl) (by kernel_rfl) (fun _ _ _ h=>h) (yieldsIf_load_mid rfl 31 (.tmp 6) rfl bx 0 rfl _ _ KM.out Tryz.underlying31 rfl Z9.out) hS2 ?_
     simp only [Act.put,List.getElem_toArray,List.getElem_cons_zero,List.getElem_cons_succ,List.setIfInBounds_toArray,List.set_cons_zero,List.set_cons_succ]
     have cx:=same_any _ _ x x u2 (PV.out _ hS2) (PV.out _ hS2)
     rw [eqP_self] at cx
     refine wpAnyH_all (rs:=[8]) (by kernel_rfl) (by simp) ?_
     intro i hi
     obtain rfl:=List.mem_singleton.1 hi
     refine Reg.wpOp_list rfl ?_
     go_wp2_with fail
     refine cx.mono ?_
     rintro e u3 ⟨rfl,k3⟩
     go_wp2_with fail
     change _ ∧ _
     have hS3:Below W.heap.size W u3:=hS2.trans (k3.mono hS2.size)
     refine ⟨hS3,?_⟩
     clear cx
     refine wpAnyH_all (rs:=[9]) (by kernel_rfl) (by simp) ?_
     intro i hi
     obtain rfl:=List.mem_singleton.1 hi
     refine Reg.wpOp_list rfl ?_
     go_wp2_with fail
     change _ ∧ _
     refine ⟨hS3,?_⟩
     refine wpAnyH_all (rs:=[10]) (by kernel_rfl) (by simp) ?_
     intro i hi
     obtain rfl:=List.mem_singleton.1 hi
     refine Reg.wpOp_list rfl ?_
     go_wp2_with fail
     change _ ∧ _
     refine ⟨hS3,?_⟩
     refine wpAnyH_all (rs:=[11]) (by kernel_rfl) (by simp) ?_
     intro i hi
     obtain rfl:=List.mem_singleton.1 hi
     refine Reg.wpOp_list rfl ?_
     go_wp2_with fail
     change _ ∧ _
     refine ⟨hS3,?_⟩
     refine wpAnyH_all (rs:=[12]) (by kernel_rfl) (by simp) ?_
     intro i hi
     obtain rfl:=List.mem_singleton.1 hi
     refine Reg.wpOp_list rfl ?_
     go_wp2_with fail
     change _ ∧ _
     refine ⟨hS3,?_⟩
     by_cases hz:k = 0
     ·have hk0':¬ (0:Int) < (k:Int):=by omega
      refine wpAnyH_all (rs:=[13]) (by kernel_rfl) (by simp) ?_
      intro i hi
      obtain rfl:=List.mem_singleton.1 hi
      refine Reg.wpOp_list rfl ?_
      go_wp2_with fail
      change _ ∧ _
      refine ⟨hS3,?_⟩
      refine wpAnyH_all (rs:=[14]) (by kernel_rfl) (by simp) ?_
      intro i hi
      obtain rfl:=List.mem_singleton.1 hi
      refine Reg.wpOp_list rfl ?_
      go_wp2_with fail
      change _ ∧ _
      refine ⟨hS3,?_⟩
      refine wpAnyH_take (i:=15) (v:=undef) rfl (by kernel_rfl) (by kernel_rfl) (by kernel_rfl) (fun _ _ _ h=>h) (.inr ⟨by kernel_rfl,rfl⟩) hS3 ?_
      simp only [Act.put,List.getElem_toArray,List.getElem_cons_zero,List.getElem_cons_succ,List.setIfInBounds_toArray,List.set_cons_zero,List.set_cons_succ]
      refine wpAnyH_take (i:=16) (v:=undef) rfl (by kernel_rfl) (by kernel_rfl) (by kernel_rfl) (fun _ _ _ h=>h) (.inr ⟨by kernel_rfl,rfl⟩) hS3 ?_
      simp only [Act.put,List.getElem_toArray,List.getElem_cons_zero,List.getElem_cons_succ,List.setIfInBounds_toArray,List.set_cons_zero,List.set_cons_succ]
      refine wpAnyH_take (i:=17) (v:=undef) rfl (by kernel_rfl) (by kernel_rfl) (by kernel_rfl) (fun _ _ _ h=>h) (.inr ⟨by kernel_rfl,rfl⟩) hS3 ?_
      simp only [Act.put,List.getElem_toArray,List.getElem_cons_zero,List.getElem_cons_succ,List.setIfInBounds_toArray,List.set_cons_zero,List.set_cons_succ]
      refine wpAnyH_take (i:=18) (v:=undef) rfl (by kernel_rfl) (by kernel_rfl) (by kernel_rfl) (fun _ _ _ h=>h) (.inr ⟨by kernel_rfl,rfl⟩) hS3 ?_
      simp only [Act.put,List.getElem_toArray,List.getElem_cons_zero,List.getElem_cons_succ,List.setIfInBounds_toArray,List.set_cons_zero,List.set_cons_succ]
      refine wpAnyH_take (i:=19) (v:=undef) rfl (by kernel_rfl) (by kernel_rfl) (by kernel_rfl) (fun _ _ _ h=>h) (.inr ⟨by kernel_rfl,rfl⟩) hS3 ?_
      simp only [Act.put,List.getElem_toArray,List.getElem_cons_zero,List.getElem_cons_succ,List.setIfInBounds_toArray,List.set_cons_zero,List.set_cons_succ]
      refine wpAnyH_take (i:=20) (v:=undef) rfl (by kernel_rfl) (by kernel_rfl) (by kernel_rfl) (fun _ _ _ h=>h) (.inr ⟨by kernel_rfl,rfl⟩) hS3 ?_
      simp only [Act.put,List.getElem_toArray,List.getElem_cons_zero,List.getElem_cons_succ,List.setIfInBounds_toArray,List.set_cons_zero,List.set_cons_succ]
      refine wpAnyH_take (i:=21) (v:=undef) rfl (by kernel_rfl) (by kernel_rfl) (by kernel_rfl) (fun _ _ _ h=>h) (.inr ⟨by kernel_rfl,rfl⟩) hS3 ?_
      simp only [Act.put,List.getElem_toArray,List.getElem_cons_zero,List.getElem_cons_succ,List.setIfInBounds_toArray,List.set_cons_zero,List.set_cons_succ]
      refine wpAnyH_take (i:=22) (v:=undef) rfl (by kernel_rfl) (by kernel_rfl) (by kernel_rfl) (fun _ _ _ h=>h) (.inr ⟨by kernel_rfl,rfl⟩) hS3 ?_
      simp only [Act.put,List.getElem_toArray,List.getElem_cons_zero,List.getElem_cons_succ,List.setIfInBounds_toArray,List.set_cons_zero,List.set_cons_succ]
      refine wpAnyH_take (i:=23) (v:=undef) rfl (by kernel_rfl) (by kernel_rfl) (by kernel_rfl) (fun _ _ _ h=>h) (.inr ⟨by kernel_rfl,rfl⟩) hS3 ?_
      simp only [Act.put,List.getElem_toArray,List.getElem_cons_zero,List.getElem_cons_succ,List.setIfInBounds_toArray,List.set_cons_zero,List.set_cons_succ]
      refine wpAnyH_take (i:=24) (v:=undef) rfl (by kernel_rfl) (by kernel_rfl) (by kernel_rfl) (fun _ _ _ h=>h) (.inr ⟨by kernel_rfl,rfl⟩) hS3 ?_
      simp only [Act.put,List.getElem_toArray,List.getElem_cons_zero,List.getElem_cons_succ,List.setIfInBounds_toArray,List.set_cons_zero,List.set_cons_succ]
      refine wpAnyH_take (i:=25) (v:=undef) rfl (by kernel_rfl) (by kernel_rfl) (by kernel_rfl) (fun _ _ _ h=>h) (.inr ⟨by kernel_rfl,rfl⟩) hS3 ?_
      simp only [Act.put,List.getElem_toArray,List.getElem_cons_zero,List.getElem_cons_succ,List.setIfInBounds_toArray,List.set_cons_zero,List.set_cons_succ]
      refine wpAnyH_take (i:=26) (v:=undef) rfl (by kernel_rfl) (by kernel_rfl) (by kernel_rfl) (fun _ _ _ h=>h) (.inr ⟨by kernel_rfl,rfl⟩) hS3 ?_
      simp only [Act.put,List.getElem_toArray,List.getElem_cons_zero,List.getElem_cons_succ,List.setIfInBounds_toArray,List.set_cons_zero,List.set_cons_succ]
      refine wpAnyH_take (i:=27) (v:=undef) rfl (by kernel_rfl) (by kernel_rfl) (by kernel_rfl) (fun _ _ _ h=>h) (.inr ⟨by kernel_rfl,rfl⟩) hS3 ?_
      simp only [Act.put,List.getElem_toArray,List.getElem_cons_zero,List.getElem_cons_succ,List.setIfInBounds_toArray,List.set_cons_zero,List.set_cons_succ]
      refine wpAnyH_take (i:=28) (v:=undef) rfl (by kernel_rfl) (by kernel_rfl) (by kernel_rfl) (fun _ _ _ h=>h) (.inr ⟨by kernel_rfl,rfl⟩) hS3 ?_
      simp only [Act.put,List.getElem_toArray,List.getElem_cons_zero,List.getElem_cons_succ,List.setIfInBounds_toArray,List.set_cons_zero,List.set_cons_succ]
      refine wpAnyH_take (i:=29) (v:=undef) rfl (by kernel_rfl) (by kernel_rfl) (by kernel_rfl) (fun _ _ _ h=>h) (.inr ⟨by kernel_rfl,rfl⟩) hS3 ?_
      simp only [Act.put,List.getElem_toArray,List.getElem_cons_zero,List.getElem_cons_succ,List.setIfInBounds_toArray,List.set_cons_zero,List.set_cons_succ]
      refine wpAnyH_all (rs:=[30]) (by kernel_rfl) (by simp) ?_
      intro i hi
      obtain rfl:=List.mem_singleton.1 hi
      refine Reg.wpOp_list rfl ?_
      go_wp2_with fail
      change _ ∧ _
      refine ⟨hS3,?_⟩
      refine wpAnyH_all (rs:=[31]) (by kernel_rfl) (by simp) ?_
      intro i hi
      obtain rfl:=List.mem_singleton.1 hi
      refine Reg.wpOp_list rfl ?_
      go_wp2_with fail
      change _ ∧ _
      refine ⟨hS3,?_⟩
      refine wpAnyH_done (by kernel_rfl) ?_ _
      have hbz:=HB2.out.trans (hS3.mono HB2.out.size)
      clear hS0 hS1 hS2 hS3
      go_wp2_with fail
      go_roundg g'
      case measure=>omega
      case rel=>exact ⟨k + 1,by go_num,hbz,by omega,by omega⟩
     ·have hkp:(0:Int) < (k:Int):=by omega
      refine wpAnyH_all (rs:=[13]) (by kernel_rfl) (by simp) ?_
      intro i hi
      obtain rfl:=List.mem_singleton.1 hi
      refine Reg.wpOp_list rfl ?_
      go_wp2_with fail
      change _ ∧ _
      refine ⟨hS3,?_⟩
      refine wpAnyH_all (rs:=[14]) (by kernel_rfl) (by simp) ?_
      intro i hi
      obtain rfl:=List.mem_singleton.1 hi
      refine Reg.wpOp_list rfl ?_
      go_wp2_with fail
      change _ ∧ _
      refine ⟨hS3,?_⟩
      obtain ⟨p1,r1,d1,p2,r2,d2,p3,r3,d3,p4,r4,d4,p5,r5,d5,p6,r6,d6,⟨y0,y1,y2,y3,y4,y5,y6,y7,y8⟩,hhy⟩:=pk_read (HLT.out (k - 1) (by rw [HN.out]; omega))
      rw [Nat.mul_comm 9 (k - 1)] at y0 y1 y2 y3 y4 y5 y6 y7 y8
      obtain ⟨y,hy⟩:∃ y,l.getD (k - 1) nPk = y:=⟨_,rfl⟩
      rw [hy] at y0 y1 y8 hhy
      have km2:∀ u,Below W.heap.size W u → u.rangeAt kb (off + (k - 1) * 9) [.string (S y.nm),.string (S y.vs),.slice p1 r1 d1,.slice p2 r2 d2,.slice p3 r3 d3,.slice p4 r4 d4,.slice p5 r5 d5,.slice p6 r6 d6,.bool y.ess]:=fun u hu j v hj=>by
       match j,hj with
       | 0,hj=>cases hj; exact Rl.cell_on (Rl.cell_on y0 HBR.out) hu
       | 1,hj=>cases hj; exact Rl.cell_on (Rl.cell_on y1 HBR.out) hu
       | 2,hj=>cases hj; exact Rl.cell_on (Rl.cell_on y2 HBR.out) hu
       | 3,hj=>cases hj; exact Rl.cell_on (Rl.cell_on y3 HBR.out) hu
       | 4,hj=>cases hj; exact Rl.cell_on (Rl.cell_on y4 HBR.out) hu
       | 5,hj=>cases hj; exact Rl.cell_on (Rl.cell_on y5 HBR.out) hu
       | 6,hj=>cases hj; exact Rl.cell_on (Rl.cell_on y6 HBR.out) hu
       | 7,hj=>cases hj; exact Rl.cell_on (Rl.cell_on y7 HBR.out) hu
       | 8,hj=>cases hj; exact Rl.cell_on (Rl.cell_on y8 HBR.out) hu
      have KM2:=Lib.hid km2
      have PY:Hid (∀ u,Below W.heap.size W u → PkV u (.agg #[.string (S y.nm),.string (S y.vs),.slice p1 r1 d1,.slice p2 r2 d2,.slice p3 r3 d3,.slice p4 r4 d4,.slice p5 r5 d5,.slice p6 r6 d6,.bool y.ess]) y):=Lib.hid fun u hu=>⟨_,_,_,_,_,_,rfl,(hhy.below HBR.out).below hu⟩
      obtain ⟨E,hE⟩:∃ E,eqP x y = E:=⟨_,rfl⟩
      have HE2:=Lib.hid hE
      have hee:(E != E) = false:=by simp
      clear km2 hhy hy hE y0 y1 y2 y3 y4 y5 y6 y7 y8
      rw [decide_eq_true (show 0 < k by omega)]
      refine wpAnyH_take (i:=15) (v:=.agg [.string (S x.nm),.string (S x.vs),.slice a1 n1 c1,.slice a2 n2 c2,.slice a3 n3 c3,.slice a4 n4 c4,.slice a5 n5 c5,.slice a6 n6 c6,.bool x.ess].toArray) rfl (by kernel_rfl) (by kernel_rfl) (by kernel_rfl) (fun _ _ _ h=>h) (yieldsIf_load_mid rfl 31 (.tmp 6) rfl bx 0 rfl _ _ KM.out Tryz.underlying31 rfl Z9.out) hS3 ?_
      simp only [Act.put,List.getElem_toArray,List.getElem_cons_zero,List.getElem_cons_succ,List.setIfInBounds_toArray,List.set_cons_zero,List.set_cons_succ]
      refine wpAnyH_take (i:=22) (v:=.agg [.string (S x.nm),.string (S x.vs),.slice a1 n1 c1,.slice a2 n2 c2,.slice a3 n3 c3,.slice a4 n4 c4,.slice a5 n5 c5,.slice a6 n6 c6,.bool x.ess].toArray) rfl (by kernel_rfl) (by kernel_rfl) (by kernel_rfl) (fun _ _ _ h=>h) (yieldsIf_load_mid rfl 31 (.tmp 6) rfl bx 0 rfl _ _ KM.out Tryz.underlying31 rfl Z9.out) hS3 ?_
      simp only [Act.put,List.getElem_toArray,List.getElem_cons_zero,List.getElem_cons_succ,List.setIfInBounds_toArray,List.set_cons_zero,List.set_cons_succ]
      refine wpAnyH_take (i:=16) (v:=.slice (some ⟨kb,off,none⟩) n cap) rfl (by kernel_rfl) (by kernel_rfl) (by kernel_rfl) (fun _ _ _ h=>h) (.inl ⟨rfl,fun w _=>rfl⟩) hS3 ?_
      simp only [Act.put,List.getElem_toArray,List.getElem_cons_zero,List.getElem_cons_succ,List.setIfInBounds_toArray,List.set_cons_zero,List.set_cons_succ]
      refine wpAnyH_take (i:=23) (v:=.slice (some ⟨kb,off,none⟩) n cap) rfl (by kernel_rfl) (by kernel_rfl) (by kernel_rfl) (fun _ _ _ h=>h) (.inl ⟨rfl,fun w _=>rfl⟩) hS3 ?_
      simp only [Act.put,List.getElem_toArray,List.getElem_cons_zero,List.getElem_cons_succ,List.setIfInBounds_toArray,List.set_cons_zero,List.set_cons_succ]
      refine wpAnyH_take (i:=17) (v:=.int .i64 k) rfl (by kernel_rfl) (by kernel_rfl) (by kernel_rfl) (fun _ _ _ h=>h) (.inl ⟨rfl,fun w _=>rfl⟩) hS3 ?_
      simp only [Act.put,List.getElem_toArray,List.getElem_cons_zero,List.getElem_cons_succ,List.setIfInBounds_toArray,List.set_cons_zero,List.set_cons_succ]
      refine wpAnyH_take (i:=24) (v:=.int .i64 k) rfl (by kernel_rfl) (by kernel_rfl) (by kernel_rfl) (fun _ _ _ h=>h) (.inl ⟨rfl,fun w _=>rfl⟩) hS3 ?_
      simp only [Act.put,List.getElem_toArray,List.getElem_cons_zero,List.getElem_cons_succ,List.setIfInBounds_toArray,List.set_cons_zero,List.set_cons_succ]
      refine wpAnyH_take (i:=18) (v:=.int .i64 ((k:Int) - 1)) rfl (by kernel_rfl) (by kernel_rfl) (by kernel_rfl) (fun _ _ _ h=>h) (.inl ⟨rfl,fun w _=>by simp [execOp,go_sem]; exact IntWalk.i64_in _ (by omega)⟩) hS3 ?_
      simp only [Act.put,List.getElem_toArray,List.getElem_cons_zero,List.getElem_cons_succ,List.setIfInBounds_toArray,List.set_cons_zero,List.set_cons_succ]
      refine wpAnyH_take (i:=25) (v:=.int .i64 ((k:Int) - 1)) rfl (by kernel_rfl) (by kernel_rfl) (by kernel_rfl) (fun _ _ _ h=>h) (.inl ⟨rfl,fun w _=>by simp [execOp,go_sem]; exact IntWalk.i64_in _ (by omega)⟩) hS3 ?_
      simp only [Act.put,List.getElem_toArray,List.getElem_cons_zero,List.getElem_cons_succ,List.setIfInBounds_toArray,List.set_cons_zero,List.set_cons_succ]
      refine wpAnyH_take (i:=19) (v:=.pointer (some ⟨kb,off + (k - 1) * 9,none⟩)) rfl (by kernel_rfl) (by kernel_rfl) (by kernel_rfl) (fun _ _ _ h=>h) (.inl ⟨rfl,fun w _=>by simp [execOp,go_sem]; intro h; exact absurd (h (by omega)) (by omega)⟩) hS3 ?_
      simp only [Act.put,List.getElem_toArray,List.getElem_cons_zero,List.getElem_cons_succ,List.setIfInBounds_toArray,List.set_cons_zero,List.set_cons_succ]
      refine wpAnyH_take (i:=26) (v:=.pointer (some ⟨kb,off + (k - 1) * 9,none⟩)) rfl (by kernel_rfl) (by kernel_rfl) (by kernel_rfl) (fun _ _ _ h=>h) (.inl ⟨rfl,fun w _=>by simp [execOp,go_sem]; intro h; exact absurd (h (by omega)) (by omega)⟩) hS3 ?_
      simp only [Act.put,List.getElem_toArray,List.getElem_cons_zero,List.getElem_cons_succ,List.setIfInBounds_toArray,List.set_cons_zero,List.set_cons_succ]
      refine wpAnyH_take (i:=20) (v:=.agg [.string (S y.nm),.string (S y.vs),.slice p1 r1 d1,.slice p2 r2 d2,.slice p3 r3 d3,.slice p4 r4 d4,.slice p5 r5 d5,.slice p6 r6 d6,.bool y.ess].toArray) rfl (by kernel_rfl) (by kernel_rfl) (by kernel_rfl) (fun _ _ _ h=>h) (yieldsIf_load_mid rfl 31 (.tmp 43) rfl kb (off + (k - 1) * 9) rfl _ _ KM2.out Tryz.underlying31 rfl Z9.out) hS3 ?_
      simp only [Act.put,List.getElem_toArray,List.getElem_cons_zero,List.getElem_cons_succ,List.setIfInBounds_toArray,List.set_cons_zero,List.set_cons_succ]
      refine wpAnyH_take (i:=27) (v:=.agg [.string (S y.nm),.string (S y.vs),.slice p1 r1 d1,.slice p2 r2 d2,.slice p3 r3 d3,.slice p4 r4 d4,.slice p5 r5 d5,.slice p6 r6 d6,.bool y.ess].toArray) rfl (by kernel_rfl) (by kernel_rfl) (by kernel_rfl) (fun _ _ _ h=>h) (yieldsIf_load_mid rfl 31 (.tmp 50) rfl kb (off + (k - 1) * 9) rfl _ _ KM2.out Tryz.underlying31 rfl Z9.out) hS3 ?_
      simp only [Act.put,List.getElem_toArray,List.getElem_cons_zero,List.getElem_cons_succ,List.setIfInBounds_toArray,List.set_cons_zero,List.set_cons_succ]
      have cx:=same_any _ _ x y u3 (PV.out _ hS3) (PY.out _ hS3)
      rw [HE2.out] at cx
      refine wpAnyH_all (rs:=[21]) (by kernel_rfl) (by simp) ?_
      intro i hi
      obtain rfl:=List.mem_singleton.1 hi
      refine Reg.wpOp_list rfl ?_
      go_wp2_with fail
      refine cx.mono ?_
      rintro e u4 ⟨rfl,k4⟩
      go_wp2_with fail
      change _ ∧ _
      have hS4:Below W.heap.size W u4:=hS3.trans (k4.mono hS3.size)
      refine ⟨hS4,?_⟩
      clear cx
      have cx:=ysame_any _ _ x y u4 (PV.out _ hS4) (PY.out _ hS4)
      rw [HE2.out] at cx
      refine wpAnyH_all (rs:=[28]) (by kernel_rfl) (by simp) ?_
      intro i hi
      obtain rfl:=List.mem_singleton.1 hi
      refine Reg.wpOp_list rfl ?_
      go_wp2_with fail
      refine cx.mono ?_
      rintro e u5 ⟨rfl,k5⟩
      go_wp2_with fail
      change _ ∧ _
      have hS5:Below W.heap.size W u5:=hS4.trans (k5.mono hS4.size)
      refine ⟨hS5,?_⟩
      clear cx
      refine wpAnyH_all (rs:=[29]) (by kernel_rfl) (by simp) ?_
      intro i hi
      obtain rfl:=List.mem_singleton.1 hi
      refine Reg.wpOp_list rfl ?_
      go_wp2_with fail
      change _ ∧ _
      refine ⟨hS5,?_⟩
      refine wpAnyH_all (rs:=[30]) (by kernel_rfl) (by simp) ?_
      intro i hi
      obtain rfl:=List.mem_singleton.1 hi
      refine Reg.wpOp_list rfl ?_
      go_wp2_with fail
      change _ ∧ _
      refine ⟨hS5,?_⟩
      refine wpAnyH_all (rs:=[31]) (by kernel_rfl) (by simp) ?_
      intro i hi
      obtain rfl:=List.mem_singleton.1 hi
      refine Reg.wpOp_list rfl ?_
      go_wp2_with fail
      change _ ∧ _
      refine ⟨hS5,?_⟩
      refine wpAnyH_done (by kernel_rfl) ?_ _
      have hbz:=HB2.out.trans (hS5.mono HB2.out.size)
      clear hS0 hS1 hS2 hS3 hS4 hS5
      go_wp2_with fail
      go_roundg g'
      case measure=>omega
      case rel=>exact ⟨k + 1,by go_num,hbz,by omega,by omega⟩
    ·have hge:¬ (k:Int) < (n:Int):=by omega
     obtain rfl:k = n:=by omega
     have B0:=Lib.hid hbw
     have cm:=mayAll_any _ l wr (H.out.below hbw) HL.out (HGV.out.on hbw).v
     obtain ⟨M,hM⟩:∃ M,mayAll l = M:=⟨_,rfl⟩
     rw [hM,HN.out] at cm
     have HM:=Lib.hid hM
     have hmm:(M == M) = true:=by simp
     clear hM hbw
     go_wp2_with fail
     refine cm.mono ?_
     rintro e u1 ⟨rfl,q1⟩
     have B1:=Lib.hid (B0.out.trans (q1.mono B0.out.size))
     have cy:=ymayAll_any _ l u1 (H.out.below B1.out) HL.out
     rw [HM.out,HN.out] at cy
     clear cm q1 B0
     go_wp2_with fail
     refine cy.mono ?_
     rintro e u2 ⟨rfl,q2⟩
     have B2:=Lib.hid (B1.out.trans (q2.mono B1.out.size))
     have ce:=mayEntries_any _ es u2 (HE.out.below B2.out) HLE.out (HGV.out.on B2.out).v
     obtain ⟨F,hF⟩:∃ F,mayEn es = F:=⟨_,rfl⟩
     rw [hF,HMN.out] at ce
     have HF:=Lib.hid hF
     have hff:(F == F) = true:=by simp
     clear hF cy q2 B1
     go_wp2_with fail
     refine ce.mono ?_
     rintro e u3 ⟨rfl,q3⟩
     have B3:=Lib.hid (B2.out.trans (q3.mono B2.out.size))
     have cf:=ymayEntries_any _ es u3 (HE.out.below B3.out) HLE.out
     rw [HF.out,HMN.out] at cf
     clear ce q3 B2
     go_wp2_with fail
     refine cf.mono ?_
     rintro e u4 ⟨rfl,q4⟩
     have B4:=Lib.hid (B3.out.trans (q4.mono B3.out.size))
     have ca:=awake_any u4 (HGV.out.on B4.out)
     clear cf q4 B3
     go_wp2_with fail
     refine ca.mono ?_
     rintro e u5 ⟨rfl,q5⟩
     have hb:=B4.out.trans (q5.mono B4.out.size)
     go_wp2_with fail
     go_ret
     exact ⟨rfl,hb⟩
end Rc
end Go.Proofs.YthmpepnikmdjpaaGreatDoor

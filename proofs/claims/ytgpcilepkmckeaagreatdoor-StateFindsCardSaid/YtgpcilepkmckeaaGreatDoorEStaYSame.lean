/-
The reference's SameEntries, of any entries.
-/
import Derived.Test.YtgpcilepkmckeaaGreatDoorEStaFind
import Derived.Test.YtgpcilepkmckeaaGreatDoorEReg
import Derived.OrdersHeld
namespace Go.Proofs.YtgpcilepkmckeaaGreatDoor
open Go.RowKit
set_option linter.unusedSimpArgs false
set_option linter.unusedVariables false
namespace Sa
open Ver (Bs li li_len S S_self S_size S_li)
open Rl (Slc mem_getD)
open Rc (Pk nPk Has En nEn Ens EnC CAt en_read eqP eqP_iff PkV)
theorem ne_beq (a b:Bool) (q:Bool) (h:(a != b) = q):(a == b) = !q:=by cases a <;> cases b <;> cases q <;> simp_all
set_option maxRecDepth 100000 in
set_option maxHeartbeats 16000000 in
theorem ysameEns_any (v1 v2:Value) (s t:List En) (w:World) (h1:Ens w v1 s) (h2:Ens w v2 t) :
  Calls Tryz.prog 13 #[v1,v2] w fun e w'=>e = .returned (.bool (eqEs s t)) ∧ Below w.heap.size w w':=by
 obtain ⟨sa,cap,rfl⟩:=h1.shape
 obtain ⟨sb,capb,rfl⟩:=h2.shape
 have hn0:=h1.1
 have hm0:=h2.1
 by_cases hlen:s.length = t.length
 ·have HLE:=Lib.hid hlen
  obtain ⟨G,hG⟩:∃ G,eqEs s t = G:=⟨_,rfl⟩
  have HG:=Lib.hid hG
  rw [hG]
  obtain ⟨n,hn⟩:∃ n,s.length = n:=⟨_,rfl⟩
  have hm:t.length = n:=by rw [← hlen]; exact hn
  have HN:=Lib.hid hn
  have HM:=Lib.hid hm
  have H1:=Lib.hid (show Ens w (.slice sa n cap) s by rw [← hn]; exact h1)
  have H2:=Lib.hid (show Ens w (.slice sb n capb) t by rw [← hm]; exact h2)
  rw [hn] at hn0
  rw [hn,hm]
  have hne:((n:Int) != (n:Int)) = false:=by simp
  clear hn hm hG h1 h2 hlen hm0
  go_enter Tryz.func13,Tryz.ntmps13
  go_wp2_with fail
  go_loopg [13] n (fun gf s13 wx=>∃ k:Nat,s13 = .int .i64 k ∧ Hid (Below w.heap.size w wx) ∧ Hid (∀ j,j < k → eqE (s.getD j nEn) (t.getD j nEn) = true) ∧ k ≤ n ∧ n ≤ k + gf)
  case atStart=>exact ⟨0,rfl,Below.refl _ _,Lib.hid (fun j hj=>absurd hj (by omega)),by omega,by omega⟩
  case round =>
   obtain ⟨k,rfl,HBW,HE,hkn,hfu⟩:=hrel
   by_cases hlt:k < n
   ·obtain ⟨g',rfl⟩:∃ g',gk = g' + 1:=⟨gk - 1,by omega⟩
    have hlt':(k:Int) < (n:Int):=by omega
    have hk0:(0:Int) ≤ k:=by omega
    have hkl:k < s.length:=by rw [HN.out]; exact hlt
    have hkt:k < t.length:=by rw [HM.out]; exact hlt
    obtain ⟨_,a',cap',e1,_,hca⟩:=H1.out.below HBW.out
    rw [HN.out] at e1
    simp only [Value.slice.injEq,true_and] at e1
    obtain ⟨rfl,rfl⟩:=e1
    obtain ⟨_,b',capb',e2,_,hcb⟩:=H2.out.below HBW.out
    rw [HM.out] at e2
    simp only [Value.slice.injEq,true_and] at e2
    obtain ⟨rfl,rfl⟩:=e2
    obtain ⟨ka,oa,rfl,hca2⟩:=hca (by omega)
    obtain ⟨kb,ob,rfl,hcb2⟩:=hcb (by omega)
    obtain ⟨a1,n1,c1,a2,n2,c2,a3,n3,c3,a4,n4,c4,a5,n5,c5,a6,n6,c6,⟨x0,x1,x2,x3,x4,x5,x6,x7,x8,x9,x10⟩,hh⟩:=en_read (hca2 k hkl)
    obtain ⟨p1,r1,d1,p2,r2,d2,p3,r3,d3,p4,r4,d4,p5,r5,d5,p6,r6,d6,⟨y0,y1,y2,y3,y4,y5,y6,y7,y8,y9,y10⟩,gg⟩:=en_read (hcb2 k hkt)
    rw [Nat.mul_comm 11 k] at x0 x1 x2 x3 x4 x5 x6 x7 x8 x9 x10 y0 y1 y2 y3 y4 y5 y6 y7 y8 y9 y10
    obtain ⟨x,hx⟩:∃ x,s.getD k nEn = x:=⟨_,rfl⟩
    rw [hx] at x0 x1 x8 x9 x10 hh
    obtain ⟨y,hy⟩:∃ y,t.getD k nEn = y:=⟨_,rfl⟩
    rw [hy] at y0 y1 y8 y9 y10 gg
    have HX:=Lib.hid hx
    have HY:=Lib.hid hy
    have HKL:=Lib.hid hkl
    have RX:Hid (∀ u,Below wr.heap.size wr u → u.rangeAt ka (oa + k * 11) [.string (S x.pk.nm),.string (S x.pk.vs),.slice a1 n1 c1,.slice a2 n2 c2,.slice a3 n3 c3,.slice a4 n4 c4,.slice a5 n5 c5,.slice a6 n6 c6,.bool x.pk.ess]):=Lib.hid fun u hu j v hj=>by
     have hj9:j < 9:=(List.getElem?_eq_some_iff.1 hj).1
     rcases j with _ | _ | _ | _ | _ | _ | _ | _ | _ | j
     all_goals first | omega | (simp only [List.getElem?_cons_zero,List.getElem?_cons_succ,Option.some.injEq] at hj; subst hj; first | exact Rl.cell_on x0 hu | exact Rl.cell_on x1 hu | exact Rl.cell_on x2 hu | exact Rl.cell_on x3 hu | exact Rl.cell_on x4 hu | exact Rl.cell_on x5 hu | exact Rl.cell_on x6 hu | exact Rl.cell_on x7 hu | exact Rl.cell_on x8 hu)
    have RY:Hid (∀ u,Below wr.heap.size wr u → u.rangeAt kb (ob + k * 11) [.string (S y.pk.nm),.string (S y.pk.vs),.slice p1 r1 d1,.slice p2 r2 d2,.slice p3 r3 d3,.slice p4 r4 d4,.slice p5 r5 d5,.slice p6 r6 d6,.bool y.pk.ess]):=Lib.hid fun u hu j v hj=>by
     have hj9:j < 9:=(List.getElem?_eq_some_iff.1 hj).1
     rcases j with _ | _ | _ | _ | _ | _ | _ | _ | _ | j
     all_goals first | omega | (simp only [List.getElem?_cons_zero,List.getElem?_cons_succ,Option.some.injEq] at hj; subst hj; first | exact Rl.cell_on y0 hu | exact Rl.cell_on y1 hu | exact Rl.cell_on y2 hu | exact Rl.cell_on y3 hu | exact Rl.cell_on y4 hu | exact Rl.cell_on y5 hu | exact Rl.cell_on y6 hu | exact Rl.cell_on y7 hu | exact Rl.cell_on y8 hu)
    have Z9:Hid ((Tryz.prog.info? 40).map (·.size) = some 9):=Lib.hid (by kernel_rfl)
    obtain ⟨F1,hF1⟩:∃ F,x.cfg = F:=⟨_,rfl⟩
    obtain ⟨F2,hF2⟩:∃ F,y.cfg = F:=⟨_,rfl⟩
    obtain ⟨G1,hG1⟩:∃ F,x.hld = F:=⟨_,rfl⟩
    obtain ⟨G2,hG2⟩:∃ F,y.hld = F:=⟨_,rfl⟩
    rw [hF1] at x9
    rw [hF2] at y9
    rw [hG1] at x10
    rw [hG2] at y10
    have CX9:Hid (∀ u,Below wr.heap.size wr u → u.cell? ⟨ka,oa + k * 11 + 9,none⟩ = some (.bool F1)):=Lib.hid fun u hu=>Rl.cell_on x9 hu
    have CY9:Hid (∀ u,Below wr.heap.size wr u → u.cell? ⟨kb,ob + k * 11 + 9,none⟩ = some (.bool F2)):=Lib.hid fun u hu=>Rl.cell_on y9 hu
    have CX10:Hid (∀ u,Below wr.heap.size wr u → u.cell? ⟨ka,oa + k * 11 + 10,none⟩ = some (.bool G1)):=Lib.hid fun u hu=>Rl.cell_on x10 hu
    have CY10:Hid (∀ u,Below wr.heap.size wr u → u.cell? ⟨kb,ob + k * 11 + 10,none⟩ = some (.bool G2)):=Lib.hid fun u hu=>Rl.cell_on y10 hu
    have hcs:=fun u (hu:Below wr.heap.size wr u)=>Rc.ysame_any (.agg #[.string (S x.pk.nm),.string (S x.pk.vs),.slice a1 n1 c1,.slice a2 n2 c2,.slice a3 n3 c3,.slice a4 n4 c4,.slice a5 n5 c5,.slice a6 n6 c6,.bool x.pk.ess]) (.agg #[.string (S y.pk.nm),.string (S y.pk.vs),.slice p1 r1 d1,.slice p2 r2 d2,.slice p3 r3 d3,.slice p4 r4 d4,.slice p5 r5 d5,.slice p6 r6 d6,.bool y.pk.ess]) x.pk y.pk u ⟨_,_,_,_,_,_,rfl,hh.below hu⟩ ⟨_,_,_,_,_,_,rfl,gg.below hu⟩
    obtain ⟨b0,hb0⟩:∃ b,eqP x.pk y.pk = b:=⟨_,rfl⟩
    rw [hb0] at hcs
    have HC:=Lib.hid hcs
    obtain ⟨q1,hq1⟩:∃ q,(F1 != F2) = q:=⟨_,rfl⟩
    obtain ⟨q2,hq2⟩:∃ q,(G1 != G2) = q:=⟨_,rfl⟩
    have HQ:=Lib.hid hb0
    have HF:Hid ((x.cfg == y.cfg) = !q1):=Lib.hid (by rw [hF1,hF2]; exact ne_beq _ _ _ hq1)
    have HGG:Hid ((x.hld == y.hld) = !q2):=Lib.hid (by rw [hG1,hG2]; exact ne_beq _ _ _ hq2)
    clear hca hcb hca2 hcb2 hkl hkt hx hy hh gg hcs hb0 hF1 hF2 hG1 hG2 x0 x1 x2 x3 x4 x5 x6 x7 x8 x9 x10 y0 y1 y2 y3 y4 y5 y6 y7 y8 y9 y10
    cases b0 with
    | false =>
     have hw:eqE x y = false:=by unfold eqE; rw [HQ.out]; rfl
     go_upto_region 6 with fail
     refine wp_region_held (S:=fun u=>Below wr.heap.size wr u) (by kernel_rfl) ?_
     have hS0:Below wr.heap.size wr wr.drew:=(Below.refl _ _).drew
     change wpAnyH _ _ _ _ _ 38 _ _ wr.drew
     generalize wr.drew = u0 at *
     refine wpAnyH_take (i:=0) (v:=.slice (some ⟨ka,oa,none⟩) n cap) rfl (by kernel_rfl) (by kernel_rfl) (by kernel_rfl) (fun _ _ _ h=>h) (.inl ⟨rfl,fun w _=>rfl⟩) hS0 ?_
     simp only [Act.put,List.getElem_toArray,List.getElem_cons_zero,List.getElem_cons_succ,List.setIfInBounds_toArray,List.set_cons_zero,List.set_cons_succ]
     refine wpAnyH_take (i:=1) (v:=.int .i64 (k:Int)) rfl (by kernel_rfl) (by kernel_rfl) (by kernel_rfl) (fun _ _ _ h=>h) (.inl ⟨rfl,fun w _=>rfl⟩) hS0 ?_
     simp only [Act.put,List.getElem_toArray,List.getElem_cons_zero,List.getElem_cons_succ,List.setIfInBounds_toArray,List.set_cons_zero,List.set_cons_succ]
     refine wpAnyH_take (i:=2) (v:=.pointer (some ⟨ka,oa + k * 11,none⟩)) rfl (by kernel_rfl) (by kernel_rfl) (by kernel_rfl) (fun _ _ _ h=>h) (.inl ⟨rfl,fun w _=>by simp [execOp,go_sem,Addr.add,hk0,hlt'] <;> first | omega | (intro h; omega) | (intro h; simp [h])⟩) hS0 ?_
     simp only [Act.put,List.getElem_toArray,List.getElem_cons_zero,List.getElem_cons_succ,List.setIfInBounds_toArray,List.set_cons_zero,List.set_cons_succ]
     refine wpAnyH_take (i:=3) (v:=.pointer (some ⟨ka,oa + k * 11,none⟩)) rfl (by kernel_rfl) (by kernel_rfl) (by kernel_rfl) (fun _ _ _ h=>h) (.inl ⟨rfl,fun w _=>by rfl⟩) hS0 ?_
     simp only [Act.put,List.getElem_toArray,List.getElem_cons_zero,List.getElem_cons_succ,List.setIfInBounds_toArray,List.set_cons_zero,List.set_cons_succ]
     refine wpAnyH_take (i:=4) (v:=.agg #[.string (S x.pk.nm),.string (S x.pk.vs),.slice a1 n1 c1,.slice a2 n2 c2,.slice a3 n3 c3,.slice a4 n4 c4,.slice a5 n5 c5,.slice a6 n6 c6,.bool x.pk.ess]) rfl (by kernel_rfl) (by kernel_rfl) (by kernel_rfl) (fun _ _ _ h=>h) (yieldsIf_load_mid rfl 40 (.tmp 19) rfl ka (oa + k * 11) rfl _ _ RX.out Tryz.underlying40 rfl Z9.out) hS0 ?_
     simp only [Act.put,List.getElem_toArray,List.getElem_cons_zero,List.getElem_cons_succ,List.setIfInBounds_toArray,List.set_cons_zero,List.set_cons_succ]
     refine wpAnyH_take (i:=5) (v:=.slice (some ⟨kb,ob,none⟩) n capb) rfl (by kernel_rfl) (by kernel_rfl) (by kernel_rfl) (fun _ _ _ h=>h) (.inl ⟨rfl,fun w _=>rfl⟩) hS0 ?_
     simp only [Act.put,List.getElem_toArray,List.getElem_cons_zero,List.getElem_cons_succ,List.setIfInBounds_toArray,List.set_cons_zero,List.set_cons_succ]
     refine wpAnyH_take (i:=6) (v:=.int .i64 (k:Int)) rfl (by kernel_rfl) (by kernel_rfl) (by kernel_rfl) (fun _ _ _ h=>h) (.inl ⟨rfl,fun w _=>rfl⟩) hS0 ?_
     simp only [Act.put,List.getElem_toArray,List.getElem_cons_zero,List.getElem_cons_succ,List.setIfInBounds_toArray,List.set_cons_zero,List.set_cons_succ]
     refine wpAnyH_take (i:=7) (v:=.pointer (some ⟨kb,ob + k * 11,none⟩)) rfl (by kernel_rfl) (by kernel_rfl) (by kernel_rfl) (fun _ _ _ h=>h) (.inl ⟨rfl,fun w _=>by simp [execOp,go_sem,Addr.add,hk0,hlt'] <;> first | omega | (intro h; omega) | (intro h; simp [h])⟩) hS0 ?_
     simp only [Act.put,List.getElem_toArray,List.getElem_cons_zero,List.getElem_cons_succ,List.setIfInBounds_toArray,List.set_cons_zero,List.set_cons_succ]
     refine wpAnyH_take (i:=8) (v:=.pointer (some ⟨kb,ob + k * 11,none⟩)) rfl (by kernel_rfl) (by kernel_rfl) (by kernel_rfl) (fun _ _ _ h=>h) (.inl ⟨rfl,fun w _=>by rfl⟩) hS0 ?_
     simp only [Act.put,List.getElem_toArray,List.getElem_cons_zero,List.getElem_cons_succ,List.setIfInBounds_toArray,List.set_cons_zero,List.set_cons_succ]
     refine wpAnyH_take (i:=9) (v:=.agg #[.string (S y.pk.nm),.string (S y.pk.vs),.slice p1 r1 d1,.slice p2 r2 d2,.slice p3 r3 d3,.slice p4 r4 d4,.slice p5 r5 d5,.slice p6 r6 d6,.bool y.pk.ess]) rfl (by kernel_rfl) (by kernel_rfl) (by kernel_rfl) (fun _ _ _ h=>h) (yieldsIf_load_mid rfl 40 (.tmp 24) rfl kb (ob + k * 11) rfl _ _ RY.out Tryz.underlying40 rfl Z9.out) hS0 ?_
     simp only [Act.put,List.getElem_toArray,List.getElem_cons_zero,List.getElem_cons_succ,List.setIfInBounds_toArray,List.set_cons_zero,List.set_cons_succ]
     have cx:=HC.out _ hS0
     refine wpAnyH_all (rs:=[10]) (by kernel_rfl) (by simp) ?_
     intro i hi
     obtain rfl:=List.mem_singleton.1 hi
     refine Reg.wpOp_list rfl ?_
     go_wp2_with fail
     refine cx.mono ?_
     rintro e u1 ⟨rfl,k1⟩
     go_wp2_with fail
     change _ ∧ _
     have hS1:Below wr.heap.size wr u1:=hS0.trans (k1.mono hS0.size)
     refine ⟨hS1,?_⟩
     clear cx
     refine wpAnyH_take (i:=11) (v:=.bool true) rfl (by kernel_rfl) (by kernel_rfl) (by kernel_rfl) (fun _ _ _ h=>h) (.inl ⟨rfl,fun w _=>by rfl⟩) hS1 ?_
     simp only [Act.put,List.getElem_toArray,List.getElem_cons_zero,List.getElem_cons_succ,List.setIfInBounds_toArray,List.set_cons_zero,List.set_cons_succ]
     refine wpAnyH_take (i:=12) (v:=.bool true) rfl (by kernel_rfl) (by kernel_rfl) (by kernel_rfl) (fun _ _ _ h=>h) (.inl ⟨rfl,fun w _=>rfl⟩) hS1 ?_
     simp only [Act.put,List.getElem_toArray,List.getElem_cons_zero,List.getElem_cons_succ,List.setIfInBounds_toArray,List.set_cons_zero,List.set_cons_succ]
     refine wpAnyH_take (i:=13) (v:=undef) rfl (by kernel_rfl) (by kernel_rfl) (by kernel_rfl) (fun _ _ _ h=>h) (.inr ⟨by kernel_rfl,rfl⟩) hS1 ?_
     simp only [Act.put,List.getElem_toArray,List.getElem_cons_zero,List.getElem_cons_succ,List.setIfInBounds_toArray,List.set_cons_zero,List.set_cons_succ]
     refine wpAnyH_take (i:=14) (v:=undef) rfl (by kernel_rfl) (by kernel_rfl) (by kernel_rfl) (fun _ _ _ h=>h) (.inr ⟨by kernel_rfl,rfl⟩) hS1 ?_
     simp only [Act.put,List.getElem_toArray,List.getElem_cons_zero,List.getElem_cons_succ,List.setIfInBounds_toArray,List.set_cons_zero,List.set_cons_succ]
     refine wpAnyH_take (i:=15) (v:=undef) rfl (by kernel_rfl) (by kernel_rfl) (by kernel_rfl) (fun _ _ _ h=>h) (.inr ⟨by kernel_rfl,rfl⟩) hS1 ?_
     simp only [Act.put,List.getElem_toArray,List.getElem_cons_zero,List.getElem_cons_succ,List.setIfInBounds_toArray,List.set_cons_zero,List.set_cons_succ]
     refine wpAnyH_take (i:=16) (v:=undef) rfl (by kernel_rfl) (by kernel_rfl) (by kernel_rfl) (fun _ _ _ h=>h) (.inr ⟨by kernel_rfl,rfl⟩) hS1 ?_
     simp only [Act.put,List.getElem_toArray,List.getElem_cons_zero,List.getElem_cons_succ,List.setIfInBounds_toArray,List.set_cons_zero,List.set_cons_succ]
     refine wpAnyH_take (i:=17) (v:=undef) rfl (by kernel_rfl) (by kernel_rfl) (by kernel_rfl) (fun _ _ _ h=>h) (.inr ⟨by kernel_rfl,rfl⟩) hS1 ?_
     simp only [Act.put,List.getElem_toArray,List.getElem_cons_zero,List.getElem_cons_succ,List.setIfInBounds_toArray,List.set_cons_zero,List.set_cons_succ]
     refine wpAnyH_take (i:=18) (v:=undef) rfl (by kernel_rfl) (by kernel_rfl) (by kernel_rfl) (fun _ _ _ h=>h) (.inr ⟨by kernel_rfl,rfl⟩) hS1 ?_
     simp only [Act.put,List.getElem_toArray,List.getElem_cons_zero,List.getElem_cons_succ,List.setIfInBounds_toArray,List.set_cons_zero,List.set_cons_succ]
     refine wpAnyH_take (i:=19) (v:=undef) rfl (by kernel_rfl) (by kernel_rfl) (by kernel_rfl) (fun _ _ _ h=>h) (.inr ⟨by kernel_rfl,rfl⟩) hS1 ?_
     simp only [Act.put,List.getElem_toArray,List.getElem_cons_zero,List.getElem_cons_succ,List.setIfInBounds_toArray,List.set_cons_zero,List.set_cons_succ]
     refine wpAnyH_take (i:=20) (v:=undef) rfl (by kernel_rfl) (by kernel_rfl) (by kernel_rfl) (fun _ _ _ h=>h) (.inr ⟨by kernel_rfl,rfl⟩) hS1 ?_
     simp only [Act.put,List.getElem_toArray,List.getElem_cons_zero,List.getElem_cons_succ,List.setIfInBounds_toArray,List.set_cons_zero,List.set_cons_succ]
     refine wpAnyH_take (i:=21) (v:=undef) rfl (by kernel_rfl) (by kernel_rfl) (by kernel_rfl) (fun _ _ _ h=>h) (.inr ⟨by kernel_rfl,rfl⟩) hS1 ?_
     simp only [Act.put,List.getElem_toArray,List.getElem_cons_zero,List.getElem_cons_succ,List.setIfInBounds_toArray,List.set_cons_zero,List.set_cons_succ]
     refine wpAnyH_take (i:=22) (v:=undef) rfl (by kernel_rfl) (by kernel_rfl) (by kernel_rfl) (fun _ _ _ h=>h) (.inr ⟨by kernel_rfl,rfl⟩) hS1 ?_
     simp only [Act.put,List.getElem_toArray,List.getElem_cons_zero,List.getElem_cons_succ,List.setIfInBounds_toArray,List.set_cons_zero,List.set_cons_succ]
     refine wpAnyH_take (i:=23) (v:=undef) rfl (by kernel_rfl) (by kernel_rfl) (by kernel_rfl) (fun _ _ _ h=>h) (.inr ⟨by kernel_rfl,rfl⟩) hS1 ?_
     simp only [Act.put,List.getElem_toArray,List.getElem_cons_zero,List.getElem_cons_succ,List.setIfInBounds_toArray,List.set_cons_zero,List.set_cons_succ]
     refine wpAnyH_take (i:=24) (v:=.bool true) rfl (by kernel_rfl) (by kernel_rfl) (by kernel_rfl) (fun _ _ _ h=>h) (.inl ⟨rfl,fun w _=>by rfl⟩) hS1 ?_
     simp only [Act.put,List.getElem_toArray,List.getElem_cons_zero,List.getElem_cons_succ,List.setIfInBounds_toArray,List.set_cons_zero,List.set_cons_succ]
     refine wpAnyH_take (i:=25) (v:=.bool true) rfl (by kernel_rfl) (by kernel_rfl) (by kernel_rfl) (fun _ _ _ h=>h) (.inl ⟨rfl,fun w _=>rfl⟩) hS1 ?_
     simp only [Act.put,List.getElem_toArray,List.getElem_cons_zero,List.getElem_cons_succ,List.setIfInBounds_toArray,List.set_cons_zero,List.set_cons_succ]
     refine wpAnyH_take (i:=26) (v:=undef) rfl (by kernel_rfl) (by kernel_rfl) (by kernel_rfl) (fun _ _ _ h=>h) (.inr ⟨by kernel_rfl,rfl⟩) hS1 ?_
     simp only [Act.put,List.getElem_toArray,List.getElem_cons_zero,List.getElem_cons_succ,List.setIfInBounds_toArray,List.set_cons_zero,List.set_cons_succ]
     refine wpAnyH_take (i:=27) (v:=undef) rfl (by kernel_rfl) (by kernel_rfl) (by kernel_rfl) (fun _ _ _ h=>h) (.inr ⟨by kernel_rfl,rfl⟩) hS1 ?_
     simp only [Act.put,List.getElem_toArray,List.getElem_cons_zero,List.getElem_cons_succ,List.setIfInBounds_toArray,List.set_cons_zero,List.set_cons_succ]
     refine wpAnyH_take (i:=28) (v:=undef) rfl (by kernel_rfl) (by kernel_rfl) (by kernel_rfl) (fun _ _ _ h=>h) (.inr ⟨by kernel_rfl,rfl⟩) hS1 ?_
     simp only [Act.put,List.getElem_toArray,List.getElem_cons_zero,List.getElem_cons_succ,List.setIfInBounds_toArray,List.set_cons_zero,List.set_cons_succ]
     refine wpAnyH_take (i:=29) (v:=undef) rfl (by kernel_rfl) (by kernel_rfl) (by kernel_rfl) (fun _ _ _ h=>h) (.inr ⟨by kernel_rfl,rfl⟩) hS1 ?_
     simp only [Act.put,List.getElem_toArray,List.getElem_cons_zero,List.getElem_cons_succ,List.setIfInBounds_toArray,List.set_cons_zero,List.set_cons_succ]
     refine wpAnyH_take (i:=30) (v:=undef) rfl (by kernel_rfl) (by kernel_rfl) (by kernel_rfl) (fun _ _ _ h=>h) (.inr ⟨by kernel_rfl,rfl⟩) hS1 ?_
     simp only [Act.put,List.getElem_toArray,List.getElem_cons_zero,List.getElem_cons_succ,List.setIfInBounds_toArray,List.set_cons_zero,List.set_cons_succ]
     refine wpAnyH_take (i:=31) (v:=undef) rfl (by kernel_rfl) (by kernel_rfl) (by kernel_rfl) (fun _ _ _ h=>h) (.inr ⟨by kernel_rfl,rfl⟩) hS1 ?_
     simp only [Act.put,List.getElem_toArray,List.getElem_cons_zero,List.getElem_cons_succ,List.setIfInBounds_toArray,List.set_cons_zero,List.set_cons_succ]
     refine wpAnyH_take (i:=32) (v:=undef) rfl (by kernel_rfl) (by kernel_rfl) (by kernel_rfl) (fun _ _ _ h=>h) (.inr ⟨by kernel_rfl,rfl⟩) hS1 ?_
     simp only [Act.put,List.getElem_toArray,List.getElem_cons_zero,List.getElem_cons_succ,List.setIfInBounds_toArray,List.set_cons_zero,List.set_cons_succ]
     refine wpAnyH_take (i:=33) (v:=undef) rfl (by kernel_rfl) (by kernel_rfl) (by kernel_rfl) (fun _ _ _ h=>h) (.inr ⟨by kernel_rfl,rfl⟩) hS1 ?_
     simp only [Act.put,List.getElem_toArray,List.getElem_cons_zero,List.getElem_cons_succ,List.setIfInBounds_toArray,List.set_cons_zero,List.set_cons_succ]
     refine wpAnyH_take (i:=34) (v:=undef) rfl (by kernel_rfl) (by kernel_rfl) (by kernel_rfl) (fun _ _ _ h=>h) (.inr ⟨by kernel_rfl,rfl⟩) hS1 ?_
     simp only [Act.put,List.getElem_toArray,List.getElem_cons_zero,List.getElem_cons_succ,List.setIfInBounds_toArray,List.set_cons_zero,List.set_cons_succ]
     refine wpAnyH_take (i:=35) (v:=undef) rfl (by kernel_rfl) (by kernel_rfl) (by kernel_rfl) (fun _ _ _ h=>h) (.inr ⟨by kernel_rfl,rfl⟩) hS1 ?_
     simp only [Act.put,List.getElem_toArray,List.getElem_cons_zero,List.getElem_cons_succ,List.setIfInBounds_toArray,List.set_cons_zero,List.set_cons_succ]
     refine wpAnyH_take (i:=36) (v:=undef) rfl (by kernel_rfl) (by kernel_rfl) (by kernel_rfl) (fun _ _ _ h=>h) (.inr ⟨by kernel_rfl,rfl⟩) hS1 ?_
     simp only [Act.put,List.getElem_toArray,List.getElem_cons_zero,List.getElem_cons_succ,List.setIfInBounds_toArray,List.set_cons_zero,List.set_cons_succ]
     refine wpAnyH_take (i:=37) (v:=.bool true) rfl (by kernel_rfl) (by kernel_rfl) (by kernel_rfl) (fun _ _ _ h=>h) (.inl ⟨rfl,fun w _=>by rfl⟩) hS1 ?_
     simp only [Act.put,List.getElem_toArray,List.getElem_cons_zero,List.getElem_cons_succ,List.setIfInBounds_toArray,List.set_cons_zero,List.set_cons_succ]
     refine wpAnyH_done (by kernel_rfl) ?_ _
     have BF:=Lib.hid (HBW.out.trans (hS1.mono HBW.out.size))
     clear hS0 hS1
     have hG:G = false:=by rw [← HG.out]; exact eqEs_no HKL.out (by rw [HX.out,HY.out]; exact hw)
     subst hG
     clear HG HE HX HY hw
     go_wp2_with fail
     go_ret
     exact ⟨rfl,BF.out⟩
    | true =>
     cases q1 with
     | true =>
      have hw:eqE x y = false:=by unfold eqE; rw [HQ.out,HF.out]; rfl
      go_upto_region 6 with fail
      refine wp_region_held (S:=fun u=>Below wr.heap.size wr u) (by kernel_rfl) ?_
      have hS0:Below wr.heap.size wr wr.drew:=(Below.refl _ _).drew
      change wpAnyH _ _ _ _ _ 38 _ _ wr.drew
      generalize wr.drew = u0 at *
      refine wpAnyH_take (i:=0) (v:=.slice (some ⟨ka,oa,none⟩) n cap) rfl (by kernel_rfl) (by kernel_rfl) (by kernel_rfl) (fun _ _ _ h=>h) (.inl ⟨rfl,fun w _=>rfl⟩) hS0 ?_
      simp only [Act.put,List.getElem_toArray,List.getElem_cons_zero,List.getElem_cons_succ,List.setIfInBounds_toArray,List.set_cons_zero,List.set_cons_succ]
      refine wpAnyH_take (i:=1) (v:=.int .i64 (k:Int)) rfl (by kernel_rfl) (by kernel_rfl) (by kernel_rfl) (fun _ _ _ h=>h) (.inl ⟨rfl,fun w _=>rfl⟩) hS0 ?_
      simp only [Act.put,List.getElem_toArray,List.getElem_cons_zero,List.getElem_cons_succ,List.setIfInBounds_toArray,List.set_cons_zero,List.set_cons_succ]
      refine wpAnyH_take (i:=2) (v:=.pointer (some ⟨ka,oa + k * 11,none⟩)) rfl (by kernel_rfl) (by kernel_rfl) (by kernel_rfl) (fun _ _ _ h=>h) (.inl ⟨rfl,fun w _=>by simp [execOp,go_sem,Addr.add,hk0,hlt'] <;> first | omega | (intro h; omega) | (intro h; simp [h])⟩) hS0 ?_
      simp only [Act.put,List.getElem_toArray,List.getElem_cons_zero,List.getElem_cons_succ,List.setIfInBounds_toArray,List.set_cons_zero,List.set_cons_succ]
      refine wpAnyH_take (i:=3) (v:=.pointer (some ⟨ka,oa + k * 11,none⟩)) rfl (by kernel_rfl) (by kernel_rfl) (by kernel_rfl) (fun _ _ _ h=>h) (.inl ⟨rfl,fun w _=>by rfl⟩) hS0 ?_
      simp only [Act.put,List.getElem_toArray,List.getElem_cons_zero,List.getElem_cons_succ,List.setIfInBounds_toArray,List.set_cons_zero,List.set_cons_succ]
      refine wpAnyH_take (i:=4) (v:=.agg #[.string (S x.pk.nm),.string (S x.pk.vs),.slice a1 n1 c1,.slice a2 n2 c2,.slice a3 n3 c3,.slice a4 n4 c4,.slice a5 n5 c5,.slice a6 n6 c6,.bool x.pk.ess]) rfl (by kernel_rfl) (by kernel_rfl) (by kernel_rfl) (fun _ _ _ h=>h) (yieldsIf_load_mid rfl 40 (.tmp 19) rfl ka (oa + k * 11) rfl _ _ RX.out Tryz.underlying40 rfl Z9.out) hS0 ?_
      simp only [Act.put,List.getElem_toArray,List.getElem_cons_zero,List.getElem_cons_succ,List.setIfInBounds_toArray,List.set_cons_zero,List.set_cons_succ]
      refine wpAnyH_take (i:=5) (v:=.slice (some ⟨kb,ob,none⟩) n capb) rfl (by kernel_rfl) (by kernel_rfl) (by kernel_rfl) (fun _ _ _ h=>h) (.inl ⟨rfl,fun w _=>rfl⟩) hS0 ?_
      simp only [Act.put,List.getElem_toArray,List.getElem_cons_zero,List.getElem_cons_succ,List.setIfInBounds_toArray,List.set_cons_zero,List.set_cons_succ]
      refine wpAnyH_take (i:=6) (v:=.int .i64 (k:Int)) rfl (by kernel_rfl) (by kernel_rfl) (by kernel_rfl) (fun _ _ _ h=>h) (.inl ⟨rfl,fun w _=>rfl⟩) hS0 ?_
      simp only [Act.put,List.getElem_toArray,List.getElem_cons_zero,List.getElem_cons_succ,List.setIfInBounds_toArray,List.set_cons_zero,List.set_cons_succ]
      refine wpAnyH_take (i:=7) (v:=.pointer (some ⟨kb,ob + k * 11,none⟩)) rfl (by kernel_rfl) (by kernel_rfl) (by kernel_rfl) (fun _ _ _ h=>h) (.inl ⟨rfl,fun w _=>by simp [execOp,go_sem,Addr.add,hk0,hlt'] <;> first | omega | (intro h; omega) | (intro h; simp [h])⟩) hS0 ?_
      simp only [Act.put,List.getElem_toArray,List.getElem_cons_zero,List.getElem_cons_succ,List.setIfInBounds_toArray,List.set_cons_zero,List.set_cons_succ]
      refine wpAnyH_take (i:=8) (v:=.pointer (some ⟨kb,ob + k * 11,none⟩)) rfl (by kernel_rfl) (by kernel_rfl) (by kernel_rfl) (fun _ _ _ h=>h) (.inl ⟨rfl,fun w _=>by rfl⟩) hS0 ?_
      simp only [Act.put,List.getElem_toArray,List.getElem_cons_zero,List.getElem_cons_succ,List.setIfInBounds_toArray,List.set_cons_zero,List.set_cons_succ]
      refine wpAnyH_take (i:=9) (v:=.agg #[.string (S y.pk.nm),.string (S y.pk.vs),.slice p1 r1 d1,.slice p2 r2 d2,.slice p3 r3 d3,.slice p4 r4 d4,.slice p5 r5 d5,.slice p6 r6 d6,.bool y.pk.ess]) rfl (by kernel_rfl) (by kernel_rfl) (by kernel_rfl) (fun _ _ _ h=>h) (yieldsIf_load_mid rfl 40 (.tmp 24) rfl kb (ob + k * 11) rfl _ _ RY.out Tryz.underlying40 rfl Z9.out) hS0 ?_
      simp only [Act.put,List.getElem_toArray,List.getElem_cons_zero,List.getElem_cons_succ,List.setIfInBounds_toArray,List.set_cons_zero,List.set_cons_succ]
      have cx:=HC.out _ hS0
      refine wpAnyH_all (rs:=[10]) (by kernel_rfl) (by simp) ?_
      intro i hi
      obtain rfl:=List.mem_singleton.1 hi
      refine Reg.wpOp_list rfl ?_
      go_wp2_with fail
      refine cx.mono ?_
      rintro e u1 ⟨rfl,k1⟩
      go_wp2_with fail
      change _ ∧ _
      have hS1:Below wr.heap.size wr u1:=hS0.trans (k1.mono hS0.size)
      refine ⟨hS1,?_⟩
      clear cx
      refine wpAnyH_take (i:=11) (v:=.bool false) rfl (by kernel_rfl) (by kernel_rfl) (by kernel_rfl) (fun _ _ _ h=>h) (.inl ⟨rfl,fun w _=>by rfl⟩) hS1 ?_
      simp only [Act.put,List.getElem_toArray,List.getElem_cons_zero,List.getElem_cons_succ,List.setIfInBounds_toArray,List.set_cons_zero,List.set_cons_succ]
      refine wpAnyH_take (i:=12) (v:=.bool false) rfl (by kernel_rfl) (by kernel_rfl) (by kernel_rfl) (fun _ _ _ h=>h) (.inl ⟨rfl,fun w _=>rfl⟩) hS1 ?_
      simp only [Act.put,List.getElem_toArray,List.getElem_cons_zero,List.getElem_cons_succ,List.setIfInBounds_toArray,List.set_cons_zero,List.set_cons_succ]
      refine wpAnyH_take (i:=13) (v:=.slice (some ⟨ka,oa,none⟩) n cap) rfl (by kernel_rfl) (by kernel_rfl) (by kernel_rfl) (fun _ _ _ h=>h) (.inl ⟨rfl,fun w _=>rfl⟩) hS1 ?_
      simp only [Act.put,List.getElem_toArray,List.getElem_cons_zero,List.getElem_cons_succ,List.setIfInBounds_toArray,List.set_cons_zero,List.set_cons_succ]
      refine wpAnyH_take (i:=14) (v:=.int .i64 (k:Int)) rfl (by kernel_rfl) (by kernel_rfl) (by kernel_rfl) (fun _ _ _ h=>h) (.inl ⟨rfl,fun w _=>rfl⟩) hS1 ?_
      simp only [Act.put,List.getElem_toArray,List.getElem_cons_zero,List.getElem_cons_succ,List.setIfInBounds_toArray,List.set_cons_zero,List.set_cons_succ]
      refine wpAnyH_take (i:=15) (v:=.pointer (some ⟨ka,oa + k * 11,none⟩)) rfl (by kernel_rfl) (by kernel_rfl) (by kernel_rfl) (fun _ _ _ h=>h) (.inl ⟨rfl,fun w _=>by simp [execOp,go_sem,Addr.add,hk0,hlt'] <;> first | omega | (intro h; omega) | (intro h; simp [h])⟩) hS1 ?_
      simp only [Act.put,List.getElem_toArray,List.getElem_cons_zero,List.getElem_cons_succ,List.setIfInBounds_toArray,List.set_cons_zero,List.set_cons_succ]
      refine wpAnyH_take (i:=16) (v:=.pointer (some ⟨ka,oa + k * 11 + 9,none⟩)) rfl (by kernel_rfl) (by kernel_rfl) (by kernel_rfl) (fun _ _ _ h=>h) (.inl ⟨rfl,fun w _=>by rfl⟩) hS1 ?_
      simp only [Act.put,List.getElem_toArray,List.getElem_cons_zero,List.getElem_cons_succ,List.setIfInBounds_toArray,List.set_cons_zero,List.set_cons_succ]
      refine wpAnyH_take (i:=17) (v:=.bool F1) rfl (by kernel_rfl) (by kernel_rfl) (by kernel_rfl) (fun _ _ _ h=>h) (Held.load1 rfl 4 (.tmp 32) rfl ka (oa + k * 11 + 9) rfl _ _ CX9.out Tryz.underlying4 rfl) hS1 ?_
      simp only [Act.put,List.getElem_toArray,List.getElem_cons_zero,List.getElem_cons_succ,List.setIfInBounds_toArray,List.set_cons_zero,List.set_cons_succ]
      refine wpAnyH_take (i:=18) (v:=.slice (some ⟨kb,ob,none⟩) n capb) rfl (by kernel_rfl) (by kernel_rfl) (by kernel_rfl) (fun _ _ _ h=>h) (.inl ⟨rfl,fun w _=>rfl⟩) hS1 ?_
      simp only [Act.put,List.getElem_toArray,List.getElem_cons_zero,List.getElem_cons_succ,List.setIfInBounds_toArray,List.set_cons_zero,List.set_cons_succ]
      refine wpAnyH_take (i:=19) (v:=.int .i64 (k:Int)) rfl (by kernel_rfl) (by kernel_rfl) (by kernel_rfl) (fun _ _ _ h=>h) (.inl ⟨rfl,fun w _=>rfl⟩) hS1 ?_
      simp only [Act.put,List.getElem_toArray,List.getElem_cons_zero,List.getElem_cons_succ,List.setIfInBounds_toArray,List.set_cons_zero,List.set_cons_succ]
      refine wpAnyH_take (i:=20) (v:=.pointer (some ⟨kb,ob + k * 11,none⟩)) rfl (by kernel_rfl) (by kernel_rfl) (by kernel_rfl) (fun _ _ _ h=>h) (.inl ⟨rfl,fun w _=>by simp [execOp,go_sem,Addr.add,hk0,hlt'] <;> first | omega | (intro h; omega) | (intro h; simp [h])⟩) hS1 ?_
      simp only [Act.put,List.getElem_toArray,List.getElem_cons_zero,List.getElem_cons_succ,List.setIfInBounds_toArray,List.set_cons_zero,List.set_cons_succ]
      refine wpAnyH_take (i:=21) (v:=.pointer (some ⟨kb,ob + k * 11 + 9,none⟩)) rfl (by kernel_rfl) (by kernel_rfl) (by kernel_rfl) (fun _ _ _ h=>h) (.inl ⟨rfl,fun w _=>by rfl⟩) hS1 ?_
      simp only [Act.put,List.getElem_toArray,List.getElem_cons_zero,List.getElem_cons_succ,List.setIfInBounds_toArray,List.set_cons_zero,List.set_cons_succ]
      refine wpAnyH_take (i:=22) (v:=.bool F2) rfl (by kernel_rfl) (by kernel_rfl) (by kernel_rfl) (fun _ _ _ h=>h) (Held.load1 rfl 4 (.tmp 37) rfl kb (ob + k * 11 + 9) rfl _ _ CY9.out Tryz.underlying4 rfl) hS1 ?_
      simp only [Act.put,List.getElem_toArray,List.getElem_cons_zero,List.getElem_cons_succ,List.setIfInBounds_toArray,List.set_cons_zero,List.set_cons_succ]
      refine wpAnyH_take (i:=23) (v:=.bool true) rfl (by kernel_rfl) (by kernel_rfl) (by kernel_rfl) (fun _ _ _ h=>h) (.inl ⟨rfl,fun w _=>by simp [execOp,go_sem,hq1] <;> first | simpa using hq1 | exact ne_beq _ _ _ hq1⟩) hS1 ?_
      simp only [Act.put,List.getElem_toArray,List.getElem_cons_zero,List.getElem_cons_succ,List.setIfInBounds_toArray,List.set_cons_zero,List.set_cons_succ]
      refine wpAnyH_take (i:=24) (v:=.bool true) rfl (by kernel_rfl) (by kernel_rfl) (by kernel_rfl) (fun _ _ _ h=>h) (.inl ⟨rfl,fun w _=>by rfl⟩) hS1 ?_
      simp only [Act.put,List.getElem_toArray,List.getElem_cons_zero,List.getElem_cons_succ,List.setIfInBounds_toArray,List.set_cons_zero,List.set_cons_succ]
      refine wpAnyH_take (i:=25) (v:=.bool true) rfl (by kernel_rfl) (by kernel_rfl) (by kernel_rfl) (fun _ _ _ h=>h) (.inl ⟨rfl,fun w _=>rfl⟩) hS1 ?_
      simp only [Act.put,List.getElem_toArray,List.getElem_cons_zero,List.getElem_cons_succ,List.setIfInBounds_toArray,List.set_cons_zero,List.set_cons_succ]
      refine wpAnyH_take (i:=26) (v:=undef) rfl (by kernel_rfl) (by kernel_rfl) (by kernel_rfl) (fun _ _ _ h=>h) (.inr ⟨by kernel_rfl,rfl⟩) hS1 ?_
      simp only [Act.put,List.getElem_toArray,List.getElem_cons_zero,List.getElem_cons_succ,List.setIfInBounds_toArray,List.set_cons_zero,List.set_cons_succ]
      refine wpAnyH_take (i:=27) (v:=undef) rfl (by kernel_rfl) (by kernel_rfl) (by kernel_rfl) (fun _ _ _ h=>h) (.inr ⟨by kernel_rfl,rfl⟩) hS1 ?_
      simp only [Act.put,List.getElem_toArray,List.getElem_cons_zero,List.getElem_cons_succ,List.setIfInBounds_toArray,List.set_cons_zero,List.set_cons_succ]
      refine wpAnyH_take (i:=28) (v:=undef) rfl (by kernel_rfl) (by kernel_rfl) (by kernel_rfl) (fun _ _ _ h=>h) (.inr ⟨by kernel_rfl,rfl⟩) hS1 ?_
      simp only [Act.put,List.getElem_toArray,List.getElem_cons_zero,List.getElem_cons_succ,List.setIfInBounds_toArray,List.set_cons_zero,List.set_cons_succ]
      refine wpAnyH_take (i:=29) (v:=undef) rfl (by kernel_rfl) (by kernel_rfl) (by kernel_rfl) (fun _ _ _ h=>h) (.inr ⟨by kernel_rfl,rfl⟩) hS1 ?_
      simp only [Act.put,List.getElem_toArray,List.getElem_cons_zero,List.getElem_cons_succ,List.setIfInBounds_toArray,List.set_cons_zero,List.set_cons_succ]
      refine wpAnyH_take (i:=30) (v:=undef) rfl (by kernel_rfl) (by kernel_rfl) (by kernel_rfl) (fun _ _ _ h=>h) (.inr ⟨by kernel_rfl,rfl⟩) hS1 ?_
      simp only [Act.put,List.getElem_toArray,List.getElem_cons_zero,List.getElem_cons_succ,List.setIfInBounds_toArray,List.set_cons_zero,List.set_cons_succ]
      refine wpAnyH_take (i:=31) (v:=undef) rfl (by kernel_rfl) (by kernel_rfl) (by kernel_rfl) (fun _ _ _ h=>h) (.inr ⟨by kernel_rfl,rfl⟩) hS1 ?_
      simp only [Act.put,List.getElem_toArray,List.getElem_cons_zero,List.getElem_cons_succ,List.setIfInBounds_toArray,List.set_cons_zero,List.set_cons_succ]
      refine wpAnyH_take (i:=32) (v:=undef) rfl (by kernel_rfl) (by kernel_rfl) (by kernel_rfl) (fun _ _ _ h=>h) (.inr ⟨by kernel_rfl,rfl⟩) hS1 ?_
      simp only [Act.put,List.getElem_toArray,List.getElem_cons_zero,List.getElem_cons_succ,List.setIfInBounds_toArray,List.set_cons_zero,List.set_cons_succ]
      refine wpAnyH_take (i:=33) (v:=undef) rfl (by kernel_rfl) (by kernel_rfl) (by kernel_rfl) (fun _ _ _ h=>h) (.inr ⟨by kernel_rfl,rfl⟩) hS1 ?_
      simp only [Act.put,List.getElem_toArray,List.getElem_cons_zero,List.getElem_cons_succ,List.setIfInBounds_toArray,List.set_cons_zero,List.set_cons_succ]
      refine wpAnyH_take (i:=34) (v:=undef) rfl (by kernel_rfl) (by kernel_rfl) (by kernel_rfl) (fun _ _ _ h=>h) (.inr ⟨by kernel_rfl,rfl⟩) hS1 ?_
      simp only [Act.put,List.getElem_toArray,List.getElem_cons_zero,List.getElem_cons_succ,List.setIfInBounds_toArray,List.set_cons_zero,List.set_cons_succ]
      refine wpAnyH_take (i:=35) (v:=undef) rfl (by kernel_rfl) (by kernel_rfl) (by kernel_rfl) (fun _ _ _ h=>h) (.inr ⟨by kernel_rfl,rfl⟩) hS1 ?_
      simp only [Act.put,List.getElem_toArray,List.getElem_cons_zero,List.getElem_cons_succ,List.setIfInBounds_toArray,List.set_cons_zero,List.set_cons_succ]
      refine wpAnyH_take (i:=36) (v:=undef) rfl (by kernel_rfl) (by kernel_rfl) (by kernel_rfl) (fun _ _ _ h=>h) (.inr ⟨by kernel_rfl,rfl⟩) hS1 ?_
      simp only [Act.put,List.getElem_toArray,List.getElem_cons_zero,List.getElem_cons_succ,List.setIfInBounds_toArray,List.set_cons_zero,List.set_cons_succ]
      refine wpAnyH_take (i:=37) (v:=.bool true) rfl (by kernel_rfl) (by kernel_rfl) (by kernel_rfl) (fun _ _ _ h=>h) (.inl ⟨rfl,fun w _=>by rfl⟩) hS1 ?_
      simp only [Act.put,List.getElem_toArray,List.getElem_cons_zero,List.getElem_cons_succ,List.setIfInBounds_toArray,List.set_cons_zero,List.set_cons_succ]
      refine wpAnyH_done (by kernel_rfl) ?_ _
      have BF:=Lib.hid (HBW.out.trans (hS1.mono HBW.out.size))
      clear hS0 hS1
      have hG:G = false:=by rw [← HG.out]; exact eqEs_no HKL.out (by rw [HX.out,HY.out]; exact hw)
      subst hG
      clear HG HE HX HY hw
      go_wp2_with fail
      go_ret
      exact ⟨rfl,BF.out⟩
     | false =>
      go_upto_region 6 with fail
      refine wp_region_held (S:=fun u=>Below wr.heap.size wr u) (by kernel_rfl) ?_
      have hS0:Below wr.heap.size wr wr.drew:=(Below.refl _ _).drew
      change wpAnyH _ _ _ _ _ 38 _ _ wr.drew
      generalize wr.drew = u0 at *
      refine wpAnyH_take (i:=0) (v:=.slice (some ⟨ka,oa,none⟩) n cap) rfl (by kernel_rfl) (by kernel_rfl) (by kernel_rfl) (fun _ _ _ h=>h) (.inl ⟨rfl,fun w _=>rfl⟩) hS0 ?_
      simp only [Act.put,List.getElem_toArray,List.getElem_cons_zero,List.getElem_cons_succ,List.setIfInBounds_toArray,List.set_cons_zero,List.set_cons_succ]
      refine wpAnyH_take (i:=1) (v:=.int .i64 (k:Int)) rfl (by kernel_rfl) (by kernel_rfl) (by kernel_rfl) (fun _ _ _ h=>h) (.inl ⟨rfl,fun w _=>rfl⟩) hS0 ?_
      simp only [Act.put,List.getElem_toArray,List.getElem_cons_zero,List.getElem_cons_succ,List.setIfInBounds_toArray,List.set_cons_zero,List.set_cons_succ]
      refine wpAnyH_take (i:=2) (v:=.pointer (some ⟨ka,oa + k * 11,none⟩)) rfl (by kernel_rfl) (by kernel_rfl) (by kernel_rfl) (fun _ _ _ h=>h) (.inl ⟨rfl,fun w _=>by simp [execOp,go_sem,Addr.add,hk0,hlt'] <;> first | omega | (intro h; omega) | (intro h; simp [h])⟩) hS0 ?_
      simp only [Act.put,List.getElem_toArray,List.getElem_cons_zero,List.getElem_cons_succ,List.setIfInBounds_toArray,List.set_cons_zero,List.set_cons_succ]
      refine wpAnyH_take (i:=3) (v:=.pointer (some ⟨ka,oa + k * 11,none⟩)) rfl (by kernel_rfl) (by kernel_rfl) (by kernel_rfl) (fun _ _ _ h=>h) (.inl ⟨rfl,fun w _=>by rfl⟩) hS0 ?_
      simp only [Act.put,List.getElem_toArray,List.getElem_cons_zero,List.getElem_cons_succ,List.setIfInBounds_toArray,List.set_cons_zero,List.set_cons_succ]
      refine wpAnyH_take (i:=4) (v:=.agg #[.string (S x.pk.nm),.string (S x.pk.vs),.slice a1 n1 c1,.slice a2 n2 c2,.slice a3 n3 c3,.slice a4 n4 c4,.slice a5 n5 c5,.slice a6 n6 c6,.bool x.pk.ess]) rfl (by kernel_rfl) (by kernel_rfl) (by kernel_rfl) (fun _ _ _ h=>h) (yieldsIf_load_mid rfl 40 (.tmp 19) rfl ka (oa + k * 11) rfl _ _ RX.out Tryz.underlying40 rfl Z9.out) hS0 ?_
      simp only [Act.put,List.getElem_toArray,List.getElem_cons_zero,List.getElem_cons_succ,List.setIfInBounds_toArray,List.set_cons_zero,List.set_cons_succ]
      refine wpAnyH_take (i:=5) (v:=.slice (some ⟨kb,ob,none⟩) n capb) rfl (by kernel_rfl) (by kernel_rfl) (by kernel_rfl) (fun _ _ _ h=>h) (.inl ⟨rfl,fun w _=>rfl⟩) hS0 ?_
      simp only [Act.put,List.getElem_toArray,List.getElem_cons_zero,List.getElem_cons_succ,List.setIfInBounds_toArray,List.set_cons_zero,List.set_cons_succ]
      refine wpAnyH_take (i:=6) (v:=.int .i64 (k:Int)) rfl (by kernel_rfl) (by kernel_rfl) (by kernel_rfl) (fun _ _ _ h=>h) (.inl ⟨rfl,fun w _=>rfl⟩) hS0 ?_
      simp only [Act.put,List.getElem_toArray,List.getElem_cons_zero,List.getElem_cons_succ,List.setIfInBounds_toArray,List.set_cons_zero,List.set_cons_succ]
      refine wpAnyH_take (i:=7) (v:=.pointer (some ⟨kb,ob + k * 11,none⟩)) rfl (by kernel_rfl) (by kernel_rfl) (by kernel_rfl) (fun _ _ _ h=>h) (.inl ⟨rfl,fun w _=>by simp [execOp,go_sem,Addr.add,hk0,hlt'] <;> first | omega | (intro h; omega) | (intro h; simp [h])⟩) hS0 ?_
      simp only [Act.put,List.getElem_toArray,List.getElem_cons_zero,List.getElem_cons_succ,List.setIfInBounds_toArray,List.set_cons_zero,List.set_cons_succ]
      refine wpAnyH_take (i:=8) (v:=.pointer (some ⟨kb,ob + k * 11,none⟩)) rfl (by kernel_rfl) (by kernel_rfl) (by kernel_rfl) (fun _ _ _ h=>h) (.inl ⟨rfl,fun w _=>by rfl⟩) hS0 ?_
      simp only [Act.put,List.getElem_toArray,List.getElem_cons_zero,List.getElem_cons_succ,List.setIfInBounds_toArray,List.set_cons_zero,List.set_cons_succ]
      refine wpAnyH_take (i:=9) (v:=.agg #[.string (S y.pk.nm),.string (S y.pk.vs),.slice p1 r1 d1,.slice p2 r2 d2,.slice p3 r3 d3,.slice p4 r4 d4,.slice p5 r5 d5,.slice p6 r6 d6,.bool y.pk.ess]) rfl (by kernel_rfl) (by kernel_rfl) (by kernel_rfl) (fun _ _ _ h=>h) (yieldsIf_load_mid rfl 40 (.tmp 24) rfl kb (ob + k * 11) rfl _ _ RY.out Tryz.underlying40 rfl Z9.out) hS0 ?_
      simp only [Act.put,List.getElem_toArray,List.getElem_cons_zero,List.getElem_cons_succ,List.setIfInBounds_toArray,List.set_cons_zero,List.set_cons_succ]
      have cx:=HC.out _ hS0
      refine wpAnyH_all (rs:=[10]) (by kernel_rfl) (by simp) ?_
      intro i hi
      obtain rfl:=List.mem_singleton.1 hi
      refine Reg.wpOp_list rfl ?_
      go_wp2_with fail
      refine cx.mono ?_
      rintro e u1 ⟨rfl,k1⟩
      go_wp2_with fail
      change _ ∧ _
      have hS1:Below wr.heap.size wr u1:=hS0.trans (k1.mono hS0.size)
      refine ⟨hS1,?_⟩
      clear cx
      refine wpAnyH_take (i:=11) (v:=.bool false) rfl (by kernel_rfl) (by kernel_rfl) (by kernel_rfl) (fun _ _ _ h=>h) (.inl ⟨rfl,fun w _=>by rfl⟩) hS1 ?_
      simp only [Act.put,List.getElem_toArray,List.getElem_cons_zero,List.getElem_cons_succ,List.setIfInBounds_toArray,List.set_cons_zero,List.set_cons_succ]
      refine wpAnyH_take (i:=12) (v:=.bool false) rfl (by kernel_rfl) (by kernel_rfl) (by kernel_rfl) (fun _ _ _ h=>h) (.inl ⟨rfl,fun w _=>rfl⟩) hS1 ?_
      simp only [Act.put,List.getElem_toArray,List.getElem_cons_zero,List.getElem_cons_succ,List.setIfInBounds_toArray,List.set_cons_zero,List.set_cons_succ]
      refine wpAnyH_take (i:=13) (v:=.slice (some ⟨ka,oa,none⟩) n cap) rfl (by kernel_rfl) (by kernel_rfl) (by kernel_rfl) (fun _ _ _ h=>h) (.inl ⟨rfl,fun w _=>rfl⟩) hS1 ?_
      simp only [Act.put,List.getElem_toArray,List.getElem_cons_zero,List.getElem_cons_succ,List.setIfInBounds_toArray,List.set_cons_zero,List.set_cons_succ]
      refine wpAnyH_take (i:=14) (v:=.int .i64 (k:Int)) rfl (by kernel_rfl) (by kernel_rfl) (by kernel_rfl) (fun _ _ _ h=>h) (.inl ⟨rfl,fun w _=>rfl⟩) hS1 ?_
      simp only [Act.put,List.getElem_toArray,List.getElem_cons_zero,List.getElem_cons_succ,List.setIfInBounds_toArray,List.set_cons_zero,List.set_cons_succ]
      refine wpAnyH_take (i:=15) (v:=.pointer (some ⟨ka,oa + k * 11,none⟩)) rfl (by kernel_rfl) (by kernel_rfl) (by kernel_rfl) (fun _ _ _ h=>h) (.inl ⟨rfl,fun w _=>by simp [execOp,go_sem,Addr.add,hk0,hlt'] <;> first | omega | (intro h; omega) | (intro h; simp [h])⟩) hS1 ?_
      simp only [Act.put,List.getElem_toArray,List.getElem_cons_zero,List.getElem_cons_succ,List.setIfInBounds_toArray,List.set_cons_zero,List.set_cons_succ]
      refine wpAnyH_take (i:=16) (v:=.pointer (some ⟨ka,oa + k * 11 + 9,none⟩)) rfl (by kernel_rfl) (by kernel_rfl) (by kernel_rfl) (fun _ _ _ h=>h) (.inl ⟨rfl,fun w _=>by rfl⟩) hS1 ?_
      simp only [Act.put,List.getElem_toArray,List.getElem_cons_zero,List.getElem_cons_succ,List.setIfInBounds_toArray,List.set_cons_zero,List.set_cons_succ]
      refine wpAnyH_take (i:=17) (v:=.bool F1) rfl (by kernel_rfl) (by kernel_rfl) (by kernel_rfl) (fun _ _ _ h=>h) (Held.load1 rfl 4 (.tmp 32) rfl ka (oa + k * 11 + 9) rfl _ _ CX9.out Tryz.underlying4 rfl) hS1 ?_
      simp only [Act.put,List.getElem_toArray,List.getElem_cons_zero,List.getElem_cons_succ,List.setIfInBounds_toArray,List.set_cons_zero,List.set_cons_succ]
      refine wpAnyH_take (i:=18) (v:=.slice (some ⟨kb,ob,none⟩) n capb) rfl (by kernel_rfl) (by kernel_rfl) (by kernel_rfl) (fun _ _ _ h=>h) (.inl ⟨rfl,fun w _=>rfl⟩) hS1 ?_
      simp only [Act.put,List.getElem_toArray,List.getElem_cons_zero,List.getElem_cons_succ,List.setIfInBounds_toArray,List.set_cons_zero,List.set_cons_succ]
      refine wpAnyH_take (i:=19) (v:=.int .i64 (k:Int)) rfl (by kernel_rfl) (by kernel_rfl) (by kernel_rfl) (fun _ _ _ h=>h) (.inl ⟨rfl,fun w _=>rfl⟩) hS1 ?_
      simp only [Act.put,List.getElem_toArray,List.getElem_cons_zero,List.getElem_cons_succ,List.setIfInBounds_toArray,List.set_cons_zero,List.set_cons_succ]
      refine wpAnyH_take (i:=20) (v:=.pointer (some ⟨kb,ob + k * 11,none⟩)) rfl (by kernel_rfl) (by kernel_rfl) (by kernel_rfl) (fun _ _ _ h=>h) (.inl ⟨rfl,fun w _=>by simp [execOp,go_sem,Addr.add,hk0,hlt'] <;> first | omega | (intro h; omega) | (intro h; simp [h])⟩) hS1 ?_
      simp only [Act.put,List.getElem_toArray,List.getElem_cons_zero,List.getElem_cons_succ,List.setIfInBounds_toArray,List.set_cons_zero,List.set_cons_succ]
      refine wpAnyH_take (i:=21) (v:=.pointer (some ⟨kb,ob + k * 11 + 9,none⟩)) rfl (by kernel_rfl) (by kernel_rfl) (by kernel_rfl) (fun _ _ _ h=>h) (.inl ⟨rfl,fun w _=>by rfl⟩) hS1 ?_
      simp only [Act.put,List.getElem_toArray,List.getElem_cons_zero,List.getElem_cons_succ,List.setIfInBounds_toArray,List.set_cons_zero,List.set_cons_succ]
      refine wpAnyH_take (i:=22) (v:=.bool F2) rfl (by kernel_rfl) (by kernel_rfl) (by kernel_rfl) (fun _ _ _ h=>h) (Held.load1 rfl 4 (.tmp 37) rfl kb (ob + k * 11 + 9) rfl _ _ CY9.out Tryz.underlying4 rfl) hS1 ?_
      simp only [Act.put,List.getElem_toArray,List.getElem_cons_zero,List.getElem_cons_succ,List.setIfInBounds_toArray,List.set_cons_zero,List.set_cons_succ]
      refine wpAnyH_take (i:=23) (v:=.bool false) rfl (by kernel_rfl) (by kernel_rfl) (by kernel_rfl) (fun _ _ _ h=>h) (.inl ⟨rfl,fun w _=>by simp [execOp,go_sem,hq1] <;> first | simpa using hq1 | exact ne_beq _ _ _ hq1⟩) hS1 ?_
      simp only [Act.put,List.getElem_toArray,List.getElem_cons_zero,List.getElem_cons_succ,List.setIfInBounds_toArray,List.set_cons_zero,List.set_cons_succ]
      refine wpAnyH_take (i:=24) (v:=.bool false) rfl (by kernel_rfl) (by kernel_rfl) (by kernel_rfl) (fun _ _ _ h=>h) (.inl ⟨rfl,fun w _=>by rfl⟩) hS1 ?_
      simp only [Act.put,List.getElem_toArray,List.getElem_cons_zero,List.getElem_cons_succ,List.setIfInBounds_toArray,List.set_cons_zero,List.set_cons_succ]
      refine wpAnyH_take (i:=25) (v:=.bool false) rfl (by kernel_rfl) (by kernel_rfl) (by kernel_rfl) (fun _ _ _ h=>h) (.inl ⟨rfl,fun w _=>rfl⟩) hS1 ?_
      simp only [Act.put,List.getElem_toArray,List.getElem_cons_zero,List.getElem_cons_succ,List.setIfInBounds_toArray,List.set_cons_zero,List.set_cons_succ]
      refine wpAnyH_take (i:=26) (v:=.slice (some ⟨ka,oa,none⟩) n cap) rfl (by kernel_rfl) (by kernel_rfl) (by kernel_rfl) (fun _ _ _ h=>h) (.inl ⟨rfl,fun w _=>rfl⟩) hS1 ?_
      simp only [Act.put,List.getElem_toArray,List.getElem_cons_zero,List.getElem_cons_succ,List.setIfInBounds_toArray,List.set_cons_zero,List.set_cons_succ]
      refine wpAnyH_take (i:=27) (v:=.int .i64 (k:Int)) rfl (by kernel_rfl) (by kernel_rfl) (by kernel_rfl) (fun _ _ _ h=>h) (.inl ⟨rfl,fun w _=>rfl⟩) hS1 ?_
      simp only [Act.put,List.getElem_toArray,List.getElem_cons_zero,List.getElem_cons_succ,List.setIfInBounds_toArray,List.set_cons_zero,List.set_cons_succ]
      refine wpAnyH_take (i:=28) (v:=.pointer (some ⟨ka,oa + k * 11,none⟩)) rfl (by kernel_rfl) (by kernel_rfl) (by kernel_rfl) (fun _ _ _ h=>h) (.inl ⟨rfl,fun w _=>by simp [execOp,go_sem,Addr.add,hk0,hlt'] <;> first | omega | (intro h; omega) | (intro h; simp [h])⟩) hS1 ?_
      simp only [Act.put,List.getElem_toArray,List.getElem_cons_zero,List.getElem_cons_succ,List.setIfInBounds_toArray,List.set_cons_zero,List.set_cons_succ]
      refine wpAnyH_take (i:=29) (v:=.pointer (some ⟨ka,oa + k * 11 + 10,none⟩)) rfl (by kernel_rfl) (by kernel_rfl) (by kernel_rfl) (fun _ _ _ h=>h) (.inl ⟨rfl,fun w _=>by rfl⟩) hS1 ?_
      simp only [Act.put,List.getElem_toArray,List.getElem_cons_zero,List.getElem_cons_succ,List.setIfInBounds_toArray,List.set_cons_zero,List.set_cons_succ]
      refine wpAnyH_take (i:=30) (v:=.bool G1) rfl (by kernel_rfl) (by kernel_rfl) (by kernel_rfl) (fun _ _ _ h=>h) (Held.load1 rfl 4 (.tmp 45) rfl ka (oa + k * 11 + 10) rfl _ _ CX10.out Tryz.underlying4 rfl) hS1 ?_
      simp only [Act.put,List.getElem_toArray,List.getElem_cons_zero,List.getElem_cons_succ,List.setIfInBounds_toArray,List.set_cons_zero,List.set_cons_succ]
      refine wpAnyH_take (i:=31) (v:=.slice (some ⟨kb,ob,none⟩) n capb) rfl (by kernel_rfl) (by kernel_rfl) (by kernel_rfl) (fun _ _ _ h=>h) (.inl ⟨rfl,fun w _=>rfl⟩) hS1 ?_
      simp only [Act.put,List.getElem_toArray,List.getElem_cons_zero,List.getElem_cons_succ,List.setIfInBounds_toArray,List.set_cons_zero,List.set_cons_succ]
      refine wpAnyH_take (i:=32) (v:=.int .i64 (k:Int)) rfl (by kernel_rfl) (by kernel_rfl) (by kernel_rfl) (fun _ _ _ h=>h) (.inl ⟨rfl,fun w _=>rfl⟩) hS1 ?_
      simp only [Act.put,List.getElem_toArray,List.getElem_cons_zero,List.getElem_cons_succ,List.setIfInBounds_toArray,List.set_cons_zero,List.set_cons_succ]
      refine wpAnyH_take (i:=33) (v:=.pointer (some ⟨kb,ob + k * 11,none⟩)) rfl (by kernel_rfl) (by kernel_rfl) (by kernel_rfl) (fun _ _ _ h=>h) (.inl ⟨rfl,fun w _=>by simp [execOp,go_sem,Addr.add,hk0,hlt'] <;> first | omega | (intro h; omega) | (intro h; simp [h])⟩) hS1 ?_
      simp only [Act.put,List.getElem_toArray,List.getElem_cons_zero,List.getElem_cons_succ,List.setIfInBounds_toArray,List.set_cons_zero,List.set_cons_succ]
      refine wpAnyH_take (i:=34) (v:=.pointer (some ⟨kb,ob + k * 11 + 10,none⟩)) rfl (by kernel_rfl) (by kernel_rfl) (by kernel_rfl) (fun _ _ _ h=>h) (.inl ⟨rfl,fun w _=>by rfl⟩) hS1 ?_
      simp only [Act.put,List.getElem_toArray,List.getElem_cons_zero,List.getElem_cons_succ,List.setIfInBounds_toArray,List.set_cons_zero,List.set_cons_succ]
      refine wpAnyH_take (i:=35) (v:=.bool G2) rfl (by kernel_rfl) (by kernel_rfl) (by kernel_rfl) (fun _ _ _ h=>h) (Held.load1 rfl 4 (.tmp 50) rfl kb (ob + k * 11 + 10) rfl _ _ CY10.out Tryz.underlying4 rfl) hS1 ?_
      simp only [Act.put,List.getElem_toArray,List.getElem_cons_zero,List.getElem_cons_succ,List.setIfInBounds_toArray,List.set_cons_zero,List.set_cons_succ]
      refine wpAnyH_take (i:=36) (v:=.bool q2) rfl (by kernel_rfl) (by kernel_rfl) (by kernel_rfl) (fun _ _ _ h=>h) (.inl ⟨rfl,fun w _=>by simp [execOp,go_sem,hq2] <;> first | simpa using hq2 | exact ne_beq _ _ _ hq2⟩) hS1 ?_
      simp only [Act.put,List.getElem_toArray,List.getElem_cons_zero,List.getElem_cons_succ,List.setIfInBounds_toArray,List.set_cons_zero,List.set_cons_succ]
      refine wpAnyH_take (i:=37) (v:=.bool q2) rfl (by kernel_rfl) (by kernel_rfl) (by kernel_rfl) (fun _ _ _ h=>h) (.inl ⟨rfl,fun w _=>by rfl⟩) hS1 ?_
      simp only [Act.put,List.getElem_toArray,List.getElem_cons_zero,List.getElem_cons_succ,List.setIfInBounds_toArray,List.set_cons_zero,List.set_cons_succ]
      refine wpAnyH_done (by kernel_rfl) ?_ _
      have BF:=Lib.hid (HBW.out.trans (hS1.mono HBW.out.size))
      clear hS0 hS1
      cases q2 with
      | true =>
       have hw:eqE x y = false:=by unfold eqE; rw [HQ.out,HF.out,HGG.out]; rfl
       have hG:G = false:=by rw [← HG.out]; exact eqEs_no HKL.out (by rw [HX.out,HY.out]; exact hw)
       subst hG
       clear HG HE HX HY hw
       go_wp2_with fail
       go_ret
       exact ⟨rfl,BF.out⟩
      | false =>
       have hw:eqE x y = true:=by unfold eqE; rw [HQ.out,HF.out,HGG.out]; rfl
       have HE2:Hid (∀ j,j < k + 1 → eqE (s.getD j nEn) (t.getD j nEn) = true):=Lib.hid fun j hj=>by
        by_cases e:j = k
        ·rw [e,HX.out,HY.out]; exact hw
        ·exact HE.out j (by omega)
       clear HE HX HY hw
       go_wp2_with fail
       go_roundg g'
       case measure=>omega
       case rel=>exact ⟨k + 1,by go_num,BF,HE2,by omega,by omega⟩
   ·obtain rfl:n = k:=by omega
    have hge:¬ (n:Int) < (n:Int):=by omega
    have hG:G = true:=by rw [← HG.out]; exact eqEs_yes HLE.out fun j hj=>HE.out j (by rw [← HN.out]; exact hj)
    subst hG
    clear HE HG
    go_wp2_with fail
    go_ret
    exact ⟨rfl,HBW.out⟩
 ·rw [eqEs_len hlen]
  have hne:((s.length:Int) != (t.length:Int)) = true:=by rw [bne_iff_ne]; omega
  generalize s.length = n at *
  generalize t.length = m at *
  clear h1 h2 hlen
  go_enter Tryz.func13,Tryz.ntmps13
  go_wp2_with fail
  go_ret
  exact ⟨rfl,Below.refl _ _⟩
end Sa
end Go.Proofs.YtgpcilepkmckeaaGreatDoor

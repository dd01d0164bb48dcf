/-
The law StateFinds.
-/
import Derived.Test.YtgpcilepkmckeaaGreatDoorEStaAwake
import Derived.Test.YtgpcilepkmckeaaGreatDoorEStaLight
import Derived.Test.YtgpcilepkmckeaaGreatDoorEStaYWhole
import Derived.Test.YtgpcilepkmckeaaGreatDoorEStaYSame
namespace Go.Proofs.YtgpcilepkmckeaaGreatDoor
open Go.RowKit
set_option linter.unusedSimpArgs false
set_option linter.unusedVariables false
namespace Sa
open Ver (Bs S)
open Rl (Vars Slc)
open Rc (Pk En Ens Pks)
theorem light_fewI {l:List Pk} (h:lightB l = true):l.length ≤ 26 ∧ ∀ p ∈ l,Ix.Few p:=by
 unfold lightB at h
 rw [Bool.and_eq_true,decide_eq_true_eq,List.all_eq_true] at h
 refine ⟨h.1,fun p hp=>?_⟩
 have:=h.2 p hp
 unfold lightP at this
 rw [Bool.and_eq_true,decide_eq_true_eq,List.all_eq_true] at this
 obtain ⟨h1,h2⟩:=this
 have h3:∀ d ∈ three p,d.length ≤ 60000 ∧ ∀ c ∈ d,c.length ≤ 60000:=fun d hd=>by
  have:=h2 d hd
  unfold lightL at this
  rw [Bool.and_eq_true,decide_eq_true_eq,List.all_eq_true] at this
  refine ⟨by have:=this.1; omega,fun c hc=>?_⟩
  have:=this.2 c hc
  rw [decide_eq_true_eq] at this
  omega
 exact ⟨h3 _ (by unfold three; simp),h3 _ (by unfold three; simp),h3 _ (by unfold three; simp),by omega,by omega,by omega⟩
set_option maxRecDepth 100000 in
set_option maxHeartbeats 8000000 in
theorem finds_walk (v0 v1 v2:Value) (s t:List En) (l:List Pk) (nm:Bs) (w:World) (h0:Ens w v0 s) (h1:Ens w v1 t) (h2:Pks w v2 l) (hbs:s.length * 184 ≤ 140737488355328) (hbt:t.length * 184 ≤ 140737488355328) (hv:Vars w) :
  Calls Tryz.prog 4 #[v0,v1,v2,.string (S nm)] w fun e w'=>e = .returned (.bool true) ∧ Below w.heap.size w w':=by
 have cb:=bare_any v0 s w h0 hbs
 obtain ⟨sa,scap,rfl⟩:=h0.shape
 obtain ⟨ta,tcap,rfl⟩:=h1.shape
 obtain ⟨la,lcap,rfl⟩:=h2.shape
 have H0:=Lib.hid h0
 have H1:=Lib.hid h1
 have H2:=Lib.hid h2
 have HV:=Lib.hid hv
 have HBT:=Lib.hid hbt
 obtain ⟨sn,hsn⟩:∃ n,s.length = n:=⟨_,rfl⟩
 obtain ⟨tn,htn⟩:∃ n,t.length = n:=⟨_,rfl⟩
 obtain ⟨ln,hln⟩:∃ n,l.length = n:=⟨_,rfl⟩
 rw [hsn] at H0 cb ⊢
 rw [htn] at H1 ⊢
 rw [hln] at H2 ⊢
 clear h0 h1 h2 hbs hbt hv hsn htn hln
 go_enter Tryz.func4,Tryz.ntmps4
 go_wp2_with fail
 refine cb.mono ?_
 rintro e w1 ⟨x1,rfl,hp,k1⟩
 have K1:=Lib.hid k1
 have cl:=light_any x1 _ w1 hp
 obtain ⟨pa,pc,rfl⟩:=hp.shape
 obtain ⟨b1,hb1⟩:∃ b,lightB (s.map En.pk) = b:=⟨_,rfl⟩
 rw [hb1] at cl
 have HB1:=Lib.hid hb1
 generalize (s.map En.pk).length = pn at *
 clear cb hp hb1 k1
 go_wp2_with fail
 refine cl.mono ?_
 rintro e w2 ⟨rfl,k2⟩
 have K2:=Lib.hid (K1.out.trans (k2.mono K1.out.size))
 clear cl k2 K1
 cases b1 with
 | false =>
  have ca:=awake_any w2 (HV.out.on K2.out)
  go_wp2_with fail
  refine ca.mono ?_
  rintro e wz ⟨rfl,kz⟩
  have hb:=K2.out.trans (kz.mono K2.out.size)
  clear ca
  go_wp2_with fail
  go_ret
  exact ⟨rfl,hb⟩
 | true =>
  have cb:=bare_any (.slice ta tn tcap) t w2 (H1.out.below K2.out) HBT.out
  go_wp2_with fail
  refine cb.mono ?_
  rintro e w3 ⟨x3,rfl,hp,k3⟩
  have K3:=Lib.hid (K2.out.trans (k3.mono K2.out.size))
  have cl:=light_any x3 _ w3 hp
  obtain ⟨pa,pc,rfl⟩:=hp.shape
  obtain ⟨b2,hb2⟩:∃ b,lightB (t.map En.pk) = b:=⟨_,rfl⟩
  rw [hb2] at cl
  generalize (t.map En.pk).length = pn at *
  clear cb hp hb2 k3 K2
  go_wp2_with fail
  refine cl.mono ?_
  rintro e w4 ⟨rfl,k4⟩
  have K4:=Lib.hid (K3.out.trans (k4.mono K3.out.size))
  clear cl k4 K3
  cases b2 with
  | false =>
   have ca:=awake_any w4 (HV.out.on K4.out)
   go_wp2_with fail
   refine ca.mono ?_
   rintro e wz ⟨rfl,kz⟩
   have hb:=K4.out.trans (kz.mono K4.out.size)
   clear ca
   go_wp2_with fail
   go_ret
   exact ⟨rfl,hb⟩
  | true =>
   have cl:=light_any (.slice la ln lcap) l w4 (H2.out.below K4.out)
   obtain ⟨b3,hb3⟩:∃ b,lightB l = b:=⟨_,rfl⟩
   rw [hb3] at cl
   have HB3:=Lib.hid hb3
   clear hb3
   go_wp2_with fail
   refine cl.mono ?_
   rintro e w5 ⟨rfl,k5⟩
   have K5:=Lib.hid (K4.out.trans (k5.mono K4.out.size))
   clear cl k5 K4
   cases b3 with
   | false =>
    have ca:=awake_any w5 (HV.out.on K5.out)
    go_wp2_with fail
    refine ca.mono ?_
    rintro e wz ⟨rfl,kz⟩
    have hb:=K5.out.trans (kz.mono K5.out.size)
    clear ca
    go_wp2_with fail
    go_ret
    exact ⟨rfl,hb⟩
   | true =>
    have LF:Hid (s.length ≤ 26 ∧ ∀ x ∈ s,Ix.Few x.pk):=Lib.hid (by
     obtain ⟨a,b⟩:=light_fewI HB1.out
     exact ⟨by rwa [List.length_map] at a,fun x hx=>b _ (List.mem_map.2 ⟨x,hx,rfl⟩)⟩)
    have LG:=Lib.hid (light_fewI HB3.out)
    clear HB1 HB3
    have cf:=find_any (.slice sa sn scap) s nm w5 (H0.out.below K5.out)
    obtain ⟨F,hFd⟩:∃ F,fnd s nm = F:=⟨_,rfl⟩
    rw [hFd] at cf
    have HFD:=Lib.hid hFd
    clear hFd
    cases F with
    | none =>
     have hmx:max (0:Int) (-1) = 0:=by decide
     have hng:¬ (-1:Int) ≥ 0:=by decide
     go_wp2_with fail
     refine cf.mono ?_
     rintro e w6 ⟨rfl,k6⟩
     have K6:=Lib.hid (K5.out.trans (k6.mono K5.out.size))
     have cy:=yfind_any (.slice sa sn scap) s nm w6 (H0.out.below K6.out)
     rw [HFD.out] at cy
     clear cf k6 K5 
     go_wp2_with fail
     refine cy.mono ?_
     rintro e w7 ⟨rfl,k7⟩
     have K7:=Lib.hid (K6.out.trans (k7.mono K6.out.size))
     have cs:=sortedE_any (.slice sa sn scap) s w7 (H0.out.below K7.out) LF.out.2 (by have:=LF.out.1; omega)
     clear cy k7 K6 
     go_wp2_with fail
     refine cs.mono ?_
     rintro e w8 ⟨vp,rfl,hep,k8⟩
     have K8:=Lib.hid (K7.out.trans (k8.mono K7.out.size))
     have EP:=Lib.hid hep
     obtain ⟨pa,pc,rfl⟩:=hep.shape
     obtain ⟨pn,hpn⟩:∃ pn,(insAllE s []).length = pn:=⟨_,rfl⟩
     have HPN:=Lib.hid hpn
     rw [hpn]
     have cr:=ysortedE_any (.slice sa sn scap) s w8 (H0.out.below K8.out) (by have:=LF.out.1; omega)
     clear cs k8 K7 hep hpn
     go_wp2_with fail
     refine cr.mono ?_
     rintro e w9 ⟨vr,rfl,her,k9⟩
     have K9:=Lib.hid (K8.out.trans (k9.mono K8.out.size))
     have cq:=ysameEns_any _ _ _ _ w9 (EP.out.below k9) her
     obtain ⟨ra,rc,rfl⟩:=her.shape
     rw [eqEs_self,HPN.out] at cq
     rw [HPN.out]
     clear cr k9 K8 her EP
     go_wp2_with fail
     refine cq.mono ?_
     rintro e w10 ⟨rfl,k10⟩
     have K10:=Lib.hid (K9.out.trans (k10.mono K9.out.size))
     clear cq k10 K9
     obtain ⟨Q,hQ⟩:∃ Q,eqEs s t = Q:=⟨_,rfl⟩
     have c1:=sameE_any (.slice sa sn scap) (.slice ta tn tcap) s t w10 (H0.out.below K10.out) (H1.out.below K10.out)
     rw [hQ] at c1
     have HQ:=Lib.hid hQ
     clear hQ
     go_wp2_with fail
     refine c1.mono ?_
     rintro e w11 ⟨rfl,k11⟩
     have K11:=Lib.hid (K10.out.trans (k11.mono K10.out.size))
     have c2:=ysameEns_any (.slice sa sn scap) (.slice ta tn tcap) s t w11 (H0.out.below K11.out) (H1.out.below K11.out)
     rw [HQ.out] at c2
     clear c1 k11 K10
     have hQQ:(Q == Q) = true:=by simp
     go_wp2_with fail
     refine c2.mono ?_
     rintro e w12 ⟨rfl,k12⟩
     have K12:=Lib.hid (K11.out.trans (k12.mono K11.out.size))
     have c3:=sameE_any (.slice sa sn scap) (.slice sa sn scap) s s w12 (H0.out.below K12.out) (H0.out.below K12.out)
     rw [eqEs_self] at c3
     clear c2 k12 K11
     go_wp2_with fail
     refine c3.mono ?_
     rintro e w13 ⟨rfl,k13⟩
     have K13:=Lib.hid (K12.out.trans (k13.mono K12.out.size))
     have c4:=whole_any (.slice la ln lcap) (.slice sa sn scap) l s w13 (H2.out.below K13.out) (H0.out.below K13.out) LG.out.2 (by have:=LG.out.1; omega)
     clear c3 k13 K12
     go_wp2_with fail
     refine c4.mono ?_
     rintro e w14 ⟨vp2,rfl,hep,k14⟩
     have K14:=Lib.hid (K13.out.trans (k14.mono K13.out.size))
     have EP:=Lib.hid hep
     obtain ⟨pa2,pc2,rfl⟩:=hep.shape
     obtain ⟨pn2,hpn⟩:∃ pn,(insAllE (wholeE l s) []).length = pn:=⟨_,rfl⟩
     have HPN2:=Lib.hid hpn
     rw [hpn]
     have c5:=ywhole_any (.slice la ln lcap) (.slice sa sn scap) l s w14 (H2.out.below K14.out) (H0.out.below K14.out) (by have:=LG.out.1; omega)
     clear c4 k14 K13 hep hpn
     go_wp2_with fail
     refine c5.mono ?_
     rintro e w15 ⟨vr2,rfl,her,k15⟩
     have K15:=Lib.hid (K14.out.trans (k15.mono K14.out.size))
     have c6:=ysameEns_any _ _ _ _ w15 (EP.out.below k15) her
     obtain ⟨ra2,rc2,rfl⟩:=her.shape
     rw [eqEs_self,HPN2.out] at c6
     rw [HPN2.out]
     clear c5 k15 K14 her EP
     go_wp2_with fail
     refine c6.mono ?_
     rintro e w16 ⟨rfl,k16⟩
     have K16:=Lib.hid (K15.out.trans (k16.mono K15.out.size))
     have ca:=awake_any w16 (HV.out.on K16.out)
     clear c6 k16 K15
     go_wp2_with fail
     refine ca.mono ?_
     rintro e wz ⟨rfl,kz⟩
     have hb:=K16.out.trans (kz.mono K16.out.size)
     clear ca
     go_wp2_with fail
     go_ret
     exact ⟨rfl,hb⟩
    | some q =>
     have hq0:(0:Int) ≤ (q:Int):=by omega
     have hqg:(q:Int) ≥ 0:=hq0
     have hmx:max (0:Int) (q:Int) = (q:Int):=by omega
     go_wp2_with fail
     refine cf.mono ?_
     rintro e w6 ⟨rfl,k6⟩
     have K6:=Lib.hid (K5.out.trans (k6.mono K5.out.size))
     have cy:=yfind_any (.slice sa sn scap) s nm w6 (H0.out.below K6.out)
     rw [HFD.out] at cy
     clear cf k6 K5 
     go_wp2_with fail
     refine cy.mono ?_
     rintro e w7 ⟨rfl,k7⟩
     have K7:=Lib.hid (K6.out.trans (k7.mono K6.out.size))
     have cs:=sortedE_any (.slice sa sn scap) s w7 (H0.out.below K7.out) LF.out.2 (by have:=LF.out.1; omega)
     clear cy k7 K6 
     go_wp2_with fail
     refine cs.mono ?_
     rintro e w8 ⟨vp,rfl,hep,k8⟩
     have K8:=Lib.hid (K7.out.trans (k8.mono K7.out.size))
     have EP:=Lib.hid hep
     obtain ⟨pa,pc,rfl⟩:=hep.shape
     obtain ⟨pn,hpn⟩:∃ pn,(insAllE s []).length = pn:=⟨_,rfl⟩
     have HPN:=Lib.hid hpn
     rw [hpn]
     have cr:=ysortedE_any (.slice sa sn scap) s w8 (H0.out.below K8.out) (by have:=LF.out.1; omega)
     clear cs k8 K7 hep hpn
     go_wp2_with fail
     refine cr.mono ?_
     rintro e w9 ⟨vr,rfl,her,k9⟩
     have K9:=Lib.hid (K8.out.trans (k9.mono K8.out.size))
     have cq:=ysameEns_any _ _ _ _ w9 (EP.out.below k9) her
     obtain ⟨ra,rc,rfl⟩:=her.shape
     rw [eqEs_self,HPN.out] at cq
     rw [HPN.out]
     clear cr k9 K8 her EP
     go_wp2_with fail
     refine cq.mono ?_
     rintro e w10 ⟨rfl,k10⟩
     have K10:=Lib.hid (K9.out.trans (k10.mono K9.out.size))
     clear cq k10 K9
     obtain ⟨Q,hQ⟩:∃ Q,eqEs s t = Q:=⟨_,rfl⟩
     have c1:=sameE_any (.slice sa sn scap) (.slice ta tn tcap) s t w10 (H0.out.below K10.out) (H1.out.below K10.out)
     rw [hQ] at c1
     have HQ:=Lib.hid hQ
     clear hQ
     go_wp2_with fail
     refine c1.mono ?_
     rintro e w11 ⟨rfl,k11⟩
     have K11:=Lib.hid (K10.out.trans (k11.mono K10.out.size))
     have c2:=ysameEns_any (.slice sa sn scap) (.slice ta tn tcap) s t w11 (H0.out.below K11.out) (H1.out.below K11.out)
     rw [HQ.out] at c2
     clear c1 k11 K10
     have hQQ:(Q == Q) = true:=by simp
     go_wp2_with fail
     refine c2.mono ?_
     rintro e w12 ⟨rfl,k12⟩
     have K12:=Lib.hid (K11.out.trans (k12.mono K11.out.size))
     have c3:=sameE_any (.slice sa sn scap) (.slice sa sn scap) s s w12 (H0.out.below K12.out) (H0.out.below K12.out)
     rw [eqEs_self] at c3
     clear c2 k12 K11
     go_wp2_with fail
     refine c3.mono ?_
     rintro e w13 ⟨rfl,k13⟩
     have K13:=Lib.hid (K12.out.trans (k13.mono K12.out.size))
     have c4:=whole_any (.slice la ln lcap) (.slice sa sn scap) l s w13 (H2.out.below K13.out) (H0.out.below K13.out) LG.out.2 (by have:=LG.out.1; omega)
     clear c3 k13 K12
     go_wp2_with fail
     refine c4.mono ?_
     rintro e w14 ⟨vp2,rfl,hep,k14⟩
     have K14:=Lib.hid (K13.out.trans (k14.mono K13.out.size))
     have EP:=Lib.hid hep
     obtain ⟨pa2,pc2,rfl⟩:=hep.shape
     obtain ⟨pn2,hpn⟩:∃ pn,(insAllE (wholeE l s) []).length = pn:=⟨_,rfl⟩
     have HPN2:=Lib.hid hpn
     rw [hpn]
     have c5:=ywhole_any (.slice la ln lcap) (.slice sa sn scap) l s w14 (H2.out.below K14.out) (H0.out.below K14.out) (by have:=LG.out.1; omega)
     clear c4 k14 K13 hep hpn
     go_wp2_with fail
     refine c5.mono ?_
     rintro e w15 ⟨vr2,rfl,her,k15⟩
     have K15:=Lib.hid (K14.out.trans (k15.mono K14.out.size))
     have c6:=ysameEns_any _ _ _ _ w15 (EP.out.below k15) her
     obtain ⟨ra2,rc2,rfl⟩:=her.shape
     rw [eqEs_self,HPN2.out] at c6
     rw [HPN2.out]
     clear c5 k15 K14 her EP
     go_wp2_with fail
     refine c6.mono ?_
     rintro e w16 ⟨rfl,k16⟩
     have K16:=Lib.hid (K15.out.trans (k16.mono K15.out.size))
     have ca:=awake_any w16 (HV.out.on K16.out)
     clear c6 k16 K15
     go_wp2_with fail
     refine ca.mono ?_
     rintro e wz ⟨rfl,kz⟩
     have hb:=K16.out.trans (kz.mono K16.out.size)
     clear ca
     go_wp2_with fail
     go_ret
     exact ⟨rfl,hb⟩
end Sa
end Go.Proofs.YtgpcilepkmckeaaGreatDoor

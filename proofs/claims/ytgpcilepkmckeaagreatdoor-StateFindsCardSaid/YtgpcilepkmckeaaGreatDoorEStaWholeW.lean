/-
state.Whole: packages as entries that are all configured, with the holds of their names, in order.
-/
import Derived.Test.YtgpcilepkmckeaaGreatDoorEStaYSort
import Derived.Test.YtgpcilepkmckeaaGreatDoorEStaFind
namespace Go.Proofs.YtgpcilepkmckeaaGreatDoor
open Go.RowKit
set_option linter.unusedSimpArgs false
set_option linter.unusedVariables false
namespace Sa
open Ver (Bs S S_li S_size orr sgn)
open Rl (At Pv Vars isV mem_getD Slc)
open Rc (Pk nPk Pks En nEn Ens EnC Has infoEn en_read)
theorem PRowE.ens {w:World} {B:Nat} {v:Value} {d:List Et} (h:PRowE w B v d) (hd:d.length ≤ 1152921504606846976):Ens w v (d.map Et.en):=by
 obtain ⟨a,cap,h1,h2,h3⟩:=h
 refine ⟨by rw [List.length_map]; exact hd,a,cap,by rw [List.length_map]; exact h1,by rw [List.length_map]; exact h2,fun h0=>?_⟩
 rw [List.length_map] at h0
 obtain ⟨R,r1,r2,r3,r4,r5⟩:=h3 h0
 refine ⟨R,0,r1,fun i hi=>?_⟩
 rw [List.length_map] at hi
 obtain ⟨x,hx⟩:∃ x,d[i]? = some x:=⟨d[i],List.getElem?_eq_getElem hi⟩
 have e:(d.map Et.en).getD i nEn = x.en:=get_getD (by rw [List.getElem?_map,hx]; rfl) _
 rw [e]
 have hm:x ∈ d:=List.mem_of_getElem? hx
 refine ⟨x.enc,⟨_,_,_,_,_,_,rfl,(r5 x hm).here⟩,fun j u hj=>?_⟩
 rw [Nat.zero_add]
 exact (r4 i x hx j u hj).1

theorem sortedE_any (v:Value) (l:List En) (w:World) (h:Ens w v l) (hF:∀ x ∈ l,Ix.Few x.pk) (hl:l.length < 40) :
  Calls Tryz.prog 14 #[v] w fun e w'=>∃ v',e = .returned v' ∧ Ens w' v' (insAllE l []) ∧ Below w.heap.size w w':=by
 refine (sorted_any v l w h hF hl).mono ?_
 rintro e w' ⟨v',d,rfl,hi,hp,hb⟩
 have hm:=InOrd.map hi
 have hlen:d.length = l.length:=by
  obtain ⟨_,d0,h2,_,h4⟩:=hi
  rw [h4.length_eq,← h2,List.length_map]
 refine ⟨v',rfl,?_,hb⟩
 rw [← hm]
 exact PRowE.ens hp (by omega)
theorem conf_hld (l:List Pk) (j:Nat):((conf l).getD j nEn).hld = false:=by
 unfold conf
 rw [List.getD_eq_getElem?_getD,List.getElem?_map]
 cases l[j]? <;> rfl
def holdOf (s:List En) (nm:Bs):Bool:=match fnd s nm with | some k=>(s.getD k nEn).hld | none=>false
def holdE (s:List En) (x:En):En:=⟨x.pk,x.cfg,holdOf s x.pk.nm⟩
def wholeE (l:List Pk) (s:List En):List En:=(conf l).map (holdE s)
set_option maxRecDepth 100000 in
set_option maxHeartbeats 8000000 in
theorem whole_any (v vs:Value) (l:List Pk) (s:List En) (w:World) (h:Pks w v l) (hs:Ens w vs s) (hF:∀ p ∈ l,Ix.Few p) (hl:l.length < 40) :
  Calls Tryz.prog 17 #[v,vs] w fun e w'=>∃ v',e = .returned v' ∧ Ens w' v' (insAllE (wholeE l s) []) ∧ Below w.heap.size w w':=by
 have c0:=configured_any v l w h (by omega)
 obtain ⟨sa,cap,rfl⟩:=h.shape
 obtain ⟨ta,tcap,rfl⟩:=hs.shape
 obtain ⟨M,hM⟩:∃ M,s.length = M:=⟨_,rfl⟩
 have HM:=Lib.hid hM
 have HS:=Lib.hid (show Ens w (.slice ta M tcap) s by rw [← hM]; exact hs)
 have HF:=Lib.hid hF
 have HL:=Lib.hid hl
 have hcl:(conf l).length = l.length:=by unfold conf; rw [List.length_map]
 have HCL:=Lib.hid hcl
 rw [hM]
 clear h hs hF hl hM hcl
 go_enter Tryz.func17,Tryz.ntmps17
 go_wp2_with fail
 refine c0.mono ?_
 rintro e w0 ⟨v0,rfl,d,o0,hd,his,k0⟩
 clear c0
 obtain ⟨n,hn⟩:∃ n,d.length = n:=⟨_,rfl⟩
 rw [hn] at o0
 obtain ⟨va,vc,rfl,hvc⟩:=Rl.own_shape o0
 have hnl:n = l.length:=by rw [← hn,← HCL.out,← hd,List.length_map]
 have HNL:=Lib.hid hnl
 have hn40:n < 40:=by have:=HL.out; omega
 have O0:=Lib.hid o0
 have K0:=Lib.hid k0
 have HD:=Lib.hid (show d.length = n ∧ ∀ (j:Nat) (x:Ee),d[j]? = some x → x.Is w ∧ x.en = if j < 0 then holdE s ((conf l).getD j nEn) else (conf l).getD j nEn from ⟨hn,fun j x hx=>⟨his x (List.mem_of_getElem? hx),by
  rw [if_neg (by omega),← hd]
  exact (get_getD (by rw [List.getElem?_map,hx]; rfl) _).symm⟩⟩)
 clear o0 k0 hd his hn hnl hvc
 go_wp2_with fail
 go_loopg [14] n (fun gf s14 wx=>∃ (k:Nat) (ds:List Ee),s14 = .int .i64 k ∧ Hid (wx.ownsRow w.heap.size 45 11 (.slice va n vc) n (ds.flatMap Ee.enc)) ∧ Hid (ds.length = n ∧ ∀ (j:Nat) (x:Ee),ds[j]? = some x → x.Is w ∧ x.en = if j < k then holdE s ((conf l).getD j nEn) else (conf l).getD j nEn) ∧ Hid (Below w.heap.size w wx) ∧ k ≤ n ∧ n ≤ k + gf)
 case atStart=>exact ⟨0,d,rfl,O0,HD,K0,by omega,by omega⟩
 case round =>
  clear O0 HD K0
  obtain ⟨k,ds,rfl,O,HD,B,hkn,hfu⟩:=hrel
  by_cases hlt:k < n
  ·obtain ⟨g',rfl⟩:∃ g',gk = g' + 1:=⟨gk - 1,by omega⟩
   have hlt':(k:Int) < (n:Int):=by omega
   have hk0:(0:Int) ≤ k:=by omega
   obtain ⟨R,c2,e1,_⟩:=Rl.own_slice O.out (by omega)
   simp only [Value.slice.injEq,true_and] at e1
   obtain ⟨rfl,rfl⟩:=e1
   have hR:=(Rl.own_lt O.out rfl).1
   obtain ⟨x,hx⟩:∃ x,ds[k]? = some x:=⟨ds[k]'(by rw [HD.out.1]; exact hlt),List.getElem?_eq_getElem _⟩
   obtain ⟨s1,m1,t1,e1⟩:=x.sl x.u1 (by simp)
   obtain ⟨s2,m2,t2,e2⟩:=x.sl x.u2 (by simp)
   obtain ⟨s3,m3,t3,e3⟩:=x.sl x.u3 (by simp)
   obtain ⟨s4,m4,t4,e4⟩:=x.sl x.u4 (by simp)
   obtain ⟨s5,m5,t5,e5⟩:=x.sl x.u5 (by simp)
   obtain ⟨s6,m6,t6,e6⟩:=x.sl x.u6 (by simp)
   have x0:=ee_at O.out hx (j:=0) rfl
   have x1:=ee_at O.out hx (j:=1) rfl
   have x2:=ee_at O.out hx (j:=2) rfl
   have x3:=ee_at O.out hx (j:=3) rfl
   have x4:=ee_at O.out hx (j:=4) rfl
   have x5:=ee_at O.out hx (j:=5) rfl
   have x6:=ee_at O.out hx (j:=6) rfl
   have x7:=ee_at O.out hx (j:=7) rfl
   have x8:=ee_at O.out hx (j:=8) rfl
   have x9:=ee_at O.out hx (j:=9) rfl
   have x10:=ee_at O.out hx (j:=10) rfl
   rw [e1] at x2
   rw [e2] at x3
   rw [e3] at x4
   rw [e4] at x5
   rw [e5] at x6
   rw [e6] at x7
   rw [Nat.add_zero] at x0
   have HX:=Lib.hid hx
   have hb2:=(Below.refl wr.heap.size wr).alloc (Nat.le_refl _) (.cells #[.string (S x.en.pk.nm),.string (S x.en.pk.vs),.slice s1 m1 t1,.slice s2 m2 t2,.slice s3 m3 t3,.slice s4 m4 t4,.slice s5 m5 t5,.slice s6 m6 t6,.bool x.en.pk.ess,.bool x.en.cfg,.bool x.en.hld] 45)
   have i2:=Blk.Is.new wr 45 #[.string (S x.en.pk.nm),.string (S x.en.pk.vs),.slice s1 m1 t1,.slice s2 m2 t2,.slice s3 m3 t3,.slice s4 m4 t4,.slice s5 m5 t5,.slice s6 m6 t6,.bool x.en.pk.ess,.bool x.en.cfg,.bool x.en.hld]
   obtain ⟨V,hV⟩:∃ V,wr.alloc (.cells #[.string (S x.en.pk.nm),.string (S x.en.pk.vs),.slice s1 m1 t1,.slice s2 m2 t2,.slice s3 m3 t3,.slice s4 m4 t4,.slice s5 m5 t5,.slice s6 m6 t6,.bool x.en.pk.ess,.bool x.en.cfg,.bool x.en.hld] 45) = V:=⟨_,rfl⟩
   rw [hV] at hb2 i2
   have z0:=i2.at (i:=0) rfl
   have HB2:=Lib.hid (B.out.trans (hb2.mono B.out.size))
   have O2:=Lib.hid (Own.owns_below O.out hb2)
   have HRR:=Lib.hid hR
   have cf:=find_any (.slice ta M tcap) s x.en.pk.nm V (HS.out.below HB2.out)
   obtain ⟨F,hFd⟩:∃ F,fnd s x.en.pk.nm = F:=⟨_,rfl⟩
   have HFD:=Lib.hid hFd
   rw [hFd] at cf
   have hu:=hV
   clear e1 e2 e3 e4 e5 e6 hb2 i2 hV hx O B hFd hR
   cases F with
   | none =>
    go_wp2_with fail
    refine cf.mono ?_
    rintro e w1 ⟨rfl,k1⟩
    have ON:=Lib.hid (Own.owns_below O2.out k1)
    have BN:=Lib.hid (HB2.out.trans (k1.mono HB2.out.size))
    have HDN:Hid (ds.length = n ∧ ∀ (j:Nat) (y:Ee),ds[j]? = some y → y.Is w ∧ y.en = if j < k + 1 then holdE s ((conf l).getD j nEn) else (conf l).getD j nEn):=Lib.hid ⟨HD.out.1,fun j y hy=>by
     obtain ⟨q1,q2⟩:=HD.out.2 j y hy
     refine ⟨q1,?_⟩
     by_cases e:j = k
     ·subst e
      rw [if_neg (by omega)] at q2
      rw [if_pos (by omega)]
      rw [HX.out] at hy
      obtain rfl:=Option.some.inj hy
      have hh:=conf_hld l j
      rw [← q2] at hh ⊢
      unfold holdE holdOf
      rw [HFD.out]
      rw [← hh]
     ·rw [q2]
      by_cases e2:j < k
      ·rw [if_pos e2,if_pos (by omega)]
      ·rw [if_neg e2,if_neg (by omega)]⟩
    clear cf hu z0 k1 x0 x1 x2 x3 x4 x5 x6 x7 x8 x9 x10 O2 HB2 HD
    go_wp2_with fail
    go_roundg g'
    case measure=>omega
    case rel=>exact ⟨k + 1,ds,by go_num,ON,HDN,BN,by omega,by omega⟩
   | some q =>
    have hqM:q < s.length:=fnd_lt HFD.out
    have hqm:(q:Int) < (M:Int):=by have:=HM.out; omega
    have hq0:(0:Int) ≤ q:=by omega
    have HQ:=Lib.hid hqM
    go_wp2_with fail
    refine cf.mono ?_
    rintro e w1 ⟨rfl,k1⟩
    clear cf hu z0 x0 x1 x2 x3 x4 x5 x6 x7 x8 x9 x10
    have O:=Lib.hid (Own.owns_below O2.out k1)
    have B:=Lib.hid (HB2.out.trans (k1.mono HB2.out.size))
    have hR:=HRR.out
    obtain ⟨_,a',cap',e1,_,hcells⟩:=HS.out.below B.out
    rw [HM.out] at e1
    simp only [Value.slice.injEq,true_and] at e1
    obtain ⟨rfl,rfl⟩:=e1
    obtain ⟨kb,off,rfl,hcl2⟩:=hcells (by omega)
    obtain ⟨a1,n1,c1,a2,n2,c2',a3,n3,c3,a4,n4,c4,a5,n5,c5,a6,n6,c6,⟨_,_,_,_,_,_,_,_,_,_,p10⟩,_⟩:=en_read (hcl2 q HQ.out)
    rw [Nat.mul_comm 11 q] at p10
    obtain ⟨b,hb⟩:∃ b,(s.getD q nEn).hld = b:=⟨_,rfl⟩
    rw [hb] at p10
    have HBB:=Lib.hid hb
    obtain ⟨y,hy⟩:∃ y:Ee,y = ⟨⟨x.en.pk,x.en.cfg,b⟩,x.u1,x.u2,x.u3,x.u4,x.u5,x.u6,x.sl⟩:=⟨_,rfl⟩
    have hc:=ee_at O.out HX.out (j:=10) rfl
    have hf:=Rl.own_free O.out (k * 11 + 10)
    have os:=ee_set O.out HX.out (j:=10) (by omega) (u:=.bool b) (y:=y) (by rw [hy]; rfl)
    have bs:=B.out.setCell (p:=⟨R,k * 11 + 10,none⟩) hR (.bool b)
    have HDN:Hid ((ds.set k y).length = n ∧ ∀ (j:Nat) (z:Ee),(ds.set k y)[j]? = some z → z.Is w ∧ z.en = if j < k + 1 then holdE s ((conf l).getD j nEn) else (conf l).getD j nEn):=Lib.hid ⟨by rw [List.length_set]; exact HD.out.1,fun j z hz=>by
     by_cases e:j = k
     ·subst e
      rw [List.getElem?_set_self (by rw [HD.out.1]; exact hlt)] at hz
      have hzy:=Option.some.inj hz
      obtain ⟨q1,q2⟩:=HD.out.2 j x HX.out
      rw [if_neg (by omega)] at q2
      rw [if_pos (by omega),← q2]
      refine ⟨by rw [← hzy,hy]; exact q1,?_⟩
      unfold holdE holdOf
      rw [HFD.out,← hzy,hy]
      show (⟨x.en.pk,x.en.cfg,b⟩:En) = ⟨x.en.pk,x.en.cfg,(s.getD q nEn).hld⟩
      rw [HBB.out]
     ·rw [List.getElem?_set_ne (fun h=>e h.symm)] at hz
      obtain ⟨q1,q2⟩:=HD.out.2 j z hz
      refine ⟨q1,?_⟩
      rw [q2]
      by_cases e2:j < k
      ·rw [if_pos e2,if_pos (by omega)]
      ·rw [if_neg e2,if_neg (by omega)]⟩
    obtain ⟨WS,hWS⟩:∃ W',w1.setCell ⟨R,k * 11 + 10,none⟩ (.bool b) = W':=⟨_,rfl⟩
    rw [hWS] at os bs
    have OS:=Lib.hid os
    have BS:=Lib.hid bs
    have hu:=hWS
    clear os bs hWS O B hcells hcl2 hb hy k1 O2 HB2 HD
    go_wp2_with fail
    go_roundg g'
    case measure=>omega
    case rel=>exact ⟨k + 1,ds.set k y,by go_num,OS,HDN,BS,by omega,by omega⟩
  ·obtain rfl:n = k:=by omega
   have hge:¬ (n:Int) < (n:Int):=by omega
   have hen:=own_ees O.out HD.out.1 (fun x hx=>by
    obtain ⟨j,hj⟩:=List.mem_iff_getElem?.1 hx
    exact (HD.out.2 j x hj).1.below B.out) (by have:=HL.out; have:=HNL.out; omega)
   have hmap:ds.map Ee.en = wholeE l s:=by
    apply List.ext_getElem?
    intro j
    unfold wholeE
    rw [List.getElem?_map,List.getElem?_map]
    by_cases hj:j < n
    ·obtain ⟨x,hx⟩:∃ x,ds[j]? = some x:=⟨ds[j]'(by rw [HD.out.1]; exact hj),List.getElem?_eq_getElem _⟩
     have hjc:j < (conf l).length:=by rw [HCL.out,← HNL.out]; exact hj
     have:=(HD.out.2 j x hx).2
     rw [if_pos hj,List.getD_eq_getElem?_getD,List.getElem?_eq_getElem hjc] at this
     rw [hx,List.getElem?_eq_getElem hjc]
     exact congrArg some this
    ·rw [List.getElem?_eq_none (by rw [HD.out.1]; omega),List.getElem?_eq_none (by rw [HCL.out,← HNL.out]; omega)]; rfl
   have hlen:(wholeE l s).length < 40:=by unfold wholeE; rw [List.length_map,HCL.out]; exact HL.out
   rw [hmap] at hen
   have cs:=sortedE_any (.slice va n vc) (wholeE l s) wr hen (fun x hx=>by
    unfold wholeE conf at hx
    obtain ⟨y,hy,rfl⟩:=List.mem_map.1 hx
    obtain ⟨p,hp,rfl⟩:=List.mem_map.1 hy
    exact HF.out p hp) hlen
   clear hen hmap hlen O HD
   go_wp2_with fail
   refine cs.mono ?_
   rintro e w2 ⟨v2,rfl,he,hb⟩
   have HE:=Lib.hid he
   have HBF:=Lib.hid (B.out.trans (hb.mono B.out.size))
   clear cs he hb B
   go_wp2_with fail
   go_ret
   exact ⟨_,rfl,HE.out,HBF.out⟩
end Sa
end Go.Proofs.YtgpcilepkmckeaaGreatDoor

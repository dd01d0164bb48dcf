/-
own.Entries: entries in a row of the call's own, with lists of their own.
-/
import Derived.Test.YtgpcilepkmckeaaGreatDoorEStaOwn
namespace Go.Proofs.YtgpcilepkmckeaaGreatDoor
open Go.RowKit
set_option linter.unusedSimpArgs false
set_option linter.unusedVariables false
namespace Sa
open Ver (Bs li li_len S S_self S_size S_li)
open Rl (At Pv Ats Pvs Clss Slc mem_getD Cls acells pcells own_shape own_lt)
open Rc (Pk nPk Has CAt En nEn Ens EnC PkV infoEn)
open Ix (choose_list get_getD Hx ownPackage_any)
set_option maxRecDepth 100000 in
set_option maxHeartbeats 8000000 in
theorem ownEntries_any (v:Value) (l:List En) (w:World) (h:Ens w v l) (hF:∀ x ∈ l,Ix.Few x.pk) (hl:l.length ≤ 60000) :
  Calls Tryz.prog 27 #[v] w fun e w'=>∃ v' d,e = .returned v' ∧ d.map Et.en = l ∧ (∀ (i:Nat) (x:Et),d[i]? = some x → x.tg = i) ∧ PRowE w' w.heap.size v' d ∧ Below w.heap.size w w':=by
 obtain ⟨d,hd,ht,hs,hh⟩:=ets_of h
 have hdl:d.length = l.length:=by rw [← hd,List.length_map]
 have c0:=cloneEntries_any v d w hs (by omega)
 obtain ⟨sa,scap,rfl⟩:=h.shape
 have HH:=Lib.hid hh
 have HD:=Lib.hid hd
 have HF:=Lib.hid hF
 have HT:=Lib.hid ht
 obtain ⟨N,hN⟩:∃ N,l.length = N:=⟨_,rfl⟩
 have HDL:=Lib.hid (hdl.trans hN)
 rw [hdl,hN] at c0
 rw [hN] at hl ⊢
 clear hN h hs hd hdl hh hF ht
 go_enter Tryz.func27,Tryz.ntmps27
 go_wp2_with fail
 refine c0.mono ?_
 rintro e w0 ⟨v0,rfl,o0,k0⟩
 rw [← HDL.out] at o0
 have hp0:=prowE_of_own o0 k0 HH.out
 obtain ⟨va,vc,rfl,hvc⟩:=own_shape o0
 rw [HDL.out] at hp0 ⊢
 have P0:=Lib.hid hp0
 have K0:=Lib.hid k0
 clear c0 o0 k0 hp0 hvc
 go_wp2_with fail
 go_loopg [9] N (fun gf s9 wx=>∃ (i:Nat) (ds:List Et),s9 = .int .i64 i ∧ Hid (PRowE wx w.heap.size (.slice va N vc) ds) ∧ Hid (ds.length = N ∧ ds.map Et.en = l ∧ ∀ (i:Nat) (x:Et),ds[i]? = some x → x.tg = i) ∧ i ≤ N ∧ N ≤ i + gf ∧ Hid (Below w.heap.size w wx))
 case atStart=>exact ⟨0,d,rfl,P0,Lib.hid ⟨HDL.out,HD.out,HT.out⟩,by omega,by omega,K0⟩
 case round =>
  obtain ⟨i,ds,rfl,HP,HX,hi1,hi2,HB⟩:=hrel
  by_cases hi:i < N
  ·have hi':(i:Int) < (N:Int):=by omega
   have hi0:(0:Int) ≤ i:=by omega
   obtain ⟨g',rfl⟩:∃ g',gk = g' + 1:=⟨gk - 1,by omega⟩
   have hids:i < ds.length:=by rw [HX.out.1]; exact hi
   obtain ⟨a',cap',e1,hcap,hr⟩:=HP.out
   rw [HX.out.1] at e1
   simp only [Value.slice.injEq,true_and] at e1
   obtain ⟨rfl,rfl⟩:=e1
   obtain ⟨R,rfl,hR1,hR2,hrow,hok⟩:=hr (by omega)
   obtain ⟨x,hx⟩:∃ x,ds[i]? = some x:=⟨ds[i],List.getElem?_eq_getElem hids⟩
   have hxm:x ∈ ds:=List.mem_of_getElem? hx
   have hpm:x.en ∈ l:=by rw [← HX.out.2.1]; exact List.mem_map.2 ⟨x,hxm,rfl⟩
   obtain ⟨s1,m1,t1,e1⟩:=x.sl x.u1 (by simp)
   obtain ⟨s2,m2,t2,e2⟩:=x.sl x.u2 (by simp)
   obtain ⟨s3,m3,t3,e3⟩:=x.sl x.u3 (by simp)
   obtain ⟨s4,m4,t4,e4⟩:=x.sl x.u4 (by simp)
   obtain ⟨s5,m5,t5,e5⟩:=x.sl x.u5 (by simp)
   obtain ⟨s6,m6,t6,e6⟩:=x.sl x.u6 (by simp)
   have x0:=(hrow i x hx 0 _ rfl).1
   have x1:=(hrow i x hx 1 _ rfl).1
   have x2:=(hrow i x hx 2 _ rfl).1
   have x3:=(hrow i x hx 3 _ rfl).1
   have x4:=(hrow i x hx 4 _ rfl).1
   have x5:=(hrow i x hx 5 _ rfl).1
   have x6:=(hrow i x hx 6 _ rfl).1
   have x7:=(hrow i x hx 7 _ rfl).1
   have x8:=(hrow i x hx 8 _ rfl).1
   have x9:=(hrow i x hx 9 _ rfl).1
   have x10:=(hrow i x hx 10 _ rfl).1
   rw [Nat.mul_comm 11 i] at x0 x1 x2 x3 x4 x5 x6 x7 x8 x9 x10
   have hhas:=(hok x hxm).here
   rw [e1] at x2
   rw [e2] at x3
   rw [e3] at x4
   rw [e4] at x5
   rw [e5] at x6
   rw [e6] at x7
   rw [e1,e2,e3,e4,e5,e6] at hhas
   rw [Nat.add_zero] at x0
   have HROW:=Lib.hid hrow
   have HOK:=Lib.hid hok
   have HXI:=Lib.hid hx
   have hb2:=(Below.refl wr.heap.size wr).alloc (Nat.le_refl _) (.cells #[.string (S x.pk.nm),.string (S x.pk.vs),.slice s1 m1 t1,.slice s2 m2 t2,.slice s3 m3 t3,.slice s4 m4 t4,.slice s5 m5 t5,.slice s6 m6 t6,.bool x.pk.ess,.bool x.cfg,.bool x.hld] 45)
   have i2:=Blk.Is.new wr 45 #[.string (S x.pk.nm),.string (S x.pk.vs),.slice s1 m1 t1,.slice s2 m2 t2,.slice s3 m3 t3,.slice s4 m4 t4,.slice s5 m5 t5,.slice s6 m6 t6,.bool x.pk.ess,.bool x.cfg,.bool x.hld]
   obtain ⟨W,hW⟩:∃ W,wr.alloc (.cells #[.string (S x.pk.nm),.string (S x.pk.vs),.slice s1 m1 t1,.slice s2 m2 t2,.slice s3 m3 t3,.slice s4 m4 t4,.slice s5 m5 t5,.slice s6 m6 t6,.bool x.pk.ess,.bool x.cfg,.bool x.hld] 45) = W:=⟨_,rfl⟩
   rw [hW] at hb2 i2
   have ca:=ownPackage_any (.agg #[.string (S x.pk.nm),.string (S x.pk.vs),.slice s1 m1 t1,.slice s2 m2 t2,.slice s3 m3 t3,.slice s4 m4 t4,.slice s5 m5 t5,.slice s6 m6 t6,.bool x.pk.ess]) x.pk W ⟨_,_,_,_,_,_,rfl,hhas.below hb2⟩ (HF.out _ hpm)
   have HB2:=Lib.hid hb2
   have HR2:=Lib.hid hR2
   have HR1:=Lib.hid hR1
   have z0:=i2.at (i:=0) rfl
   have z1:=i2.at (i:=1) rfl
   have z2:=i2.at (i:=2) rfl
   have z3:=i2.at (i:=3) rfl
   have z4:=i2.at (i:=4) rfl
   have z5:=i2.at (i:=5) rfl
   have z6:=i2.at (i:=6) rfl
   have z7:=i2.at (i:=7) rfl
   have z8:=i2.at (i:=8) rfl
   have hu:=hW
   clear hrow hok hhas hr hx hxm hpm e1 e2 e3 e4 e5 e6 hb2 i2 hW HP hR1 hR2 hids
   go_wp2_with fail
   refine ca.mono ?_
   rintro e w1 ⟨y1,y2,y3,y4,y5,y6,rfl,hres,k1⟩
   clear hu z0 z1 z2 z3 z4 z5 z6 z7 z8
   have hb1:=HB2.out.trans (k1.mono HB2.out.size)
   have hrow1:=HROW.out.below hb1
   have hxl:(i:Nat) < ds.length:=(List.getElem?_eq_some_iff.1 HXI.out).1
   have THR:Hid (w1.there R (i * 11) 9):=fun j hj=>by
    have:=hrow1.there HXI.out j (by omega)
    rwa [Nat.mul_comm 11 i] at this
   have hshape:∀ u ∈ [y1,y2,y3,y4,y5,y6],∃ a n c,u = Value.slice a n c:=fun u hu=>by
    have hz:=hres w1 (Blk.Chg.refl _ _)
    simp only [List.mem_cons,List.not_mem_nil,or_false] at hu
    rcases hu with rfl | rfl | rfl | rfl | rfl | rfl
    ·obtain ⟨a,c,e⟩:=hz.pre.shape; exact ⟨a,_,c,e⟩
    ·obtain ⟨a,c,e⟩:=hz.dep.shape; exact ⟨a,_,c,e⟩
    ·obtain ⟨a,c,e⟩:=hz.rcm.shape; exact ⟨a,_,c,e⟩
    ·obtain ⟨a,c,e⟩:=hz.con.shape; exact ⟨a,_,c,e⟩
    ·obtain ⟨a,c,e⟩:=hz.brk.shape; exact ⟨a,_,c,e⟩
    ·obtain ⟨a,c,e⟩:=hz.prv.shape; exact ⟨a,_,c,e⟩
   obtain ⟨z,hz⟩:∃ z:Et,z = ⟨x.pk,y1,y2,y3,y4,y5,y6,x.cfg,x.hld,x.tg,hshape⟩:=⟨_,rfl⟩
   have henc:z.enc = [.string (S x.pk.nm),.string (S x.pk.vs),y1,y2,y3,y4,y5,y6,.bool x.pk.ess] ++ [.bool x.cfg,.bool x.hld]:=by rw [hz]; rfl
   have hone:=z.one
   rw [henc] at hone
   have hen:z.en = x.en:=by rw [hz]; rfl
   have htg:z.tg = x.tg:=by rw [hz]
   have hrow2:=hrow1.set9 (z:=z) HXI.out [.string (S x.pk.nm),.string (S x.pk.vs),y1,y2,y3,y4,y5,y6,.bool x.pk.ess] henc rfl
   have hch:=chg_setCells R [.string (S x.pk.nm),.string (S x.pk.vs),y1,y2,y3,y4,y5,y6,.bool x.pk.ess] (11 * i) w1
   have hok2:∀ y ∈ ds.set i z,OkE (w1.setCells R (11 * i) [.string (S x.pk.nm),.string (S x.pk.vs),y1,y2,y3,y4,y5,y6,.bool x.pk.ess]) R y:=fun y hy=>by
    rcases List.mem_or_eq_of_mem_set hy with h1 | h1
    ·exact ((HOK.out y h1).on (Blk.Chg.ofBelow' hb1)).on hch
    ·subst h1
     intro u hu
     have:Has u x.pk y1 y2 y3 y4 y5 y6:=hres u ((hch.trans hu).mono fun k _ hk=>by have:=HR2.out; have:=HB2.out.size; omega)
     rw [hz]
     exact this
   rw [Nat.mul_comm 11 i] at hrow2 hok2 hch
   have hmap:(ds.set i z).map Et.en = l:=by
    rw [List.map_set,hen,← HX.out.2.1]
    apply List.ext_getElem?
    intro k
    by_cases e:k = i
    ·subst e
     rw [List.getElem?_set_self (by rw [List.length_map]; exact hxl),List.getElem?_map,HXI.out]; rfl
    ·rw [List.getElem?_set_ne (fun h=>e h.symm)]
   have htags:∀ (k:Nat) (y:Et),(ds.set i z)[k]? = some y → y.tg = k:=fun k y hy=>by
    by_cases e:k = i
    ·subst e
     rw [List.getElem?_set_self hxl] at hy
     cases hy
     rw [htg]; exact HX.out.2.2 _ _ HXI.out
    ·rw [List.getElem?_set_ne (fun h=>e h.symm)] at hy
     exact HX.out.2.2 _ _ hy
   have PN:Hid (PRowE (w1.setCells R (i * 11) [.string (S x.pk.nm),.string (S x.pk.vs),y1,y2,y3,y4,y5,y6,.bool x.pk.ess]) w.heap.size (.slice (some ⟨R,0,none⟩) N vc) (ds.set i z)):=by
    have hlen:(ds.set i z).length = N:=by rw [List.length_set]; exact HX.out.1
    refine ⟨_,_,by rw [hlen],by rw [hlen,← HX.out.1]; exact hcap,fun _=>⟨R,rfl,HR1.out,?_,hrow2,hok2⟩⟩
    have:=hch.size
    have:=hb1.size
    have:=HR2.out
    omega
   have HX2:=Lib.hid (show (ds.set i z).length = N ∧ (ds.set i z).map Et.en = l ∧ ∀ (k:Nat) (y:Et),(ds.set i z)[k]? = some y → y.tg = k from ⟨by rw [List.length_set]; exact HX.out.1,hmap,htags⟩)
   have HBN:=Lib.hid ((HB.out.trans (hb1.mono HB.out.size)).trans (hch.below (B:=w.heap.size) (fun k hk=>by have:=HR1.out; omega) (by have:=HB.out.size; have:=hb1.size; omega)))
   obtain ⟨WS,hWS⟩:∃ WS,w1.setCells R (i * 11) [.string (S x.pk.nm),.string (S x.pk.vs),y1,y2,y3,y4,y5,y6,.bool x.pk.ess] = WS:=⟨_,rfl⟩
   rw [hWS] at PN HBN
   have HWS:=Lib.hid hWS
   have h1':(#[.string (S x.pk.nm),.string (S x.pk.vs),y1,y2,y3,y4,y5,y6,.bool x.pk.ess]:Array Value).all (·.oneCell') = true:=all_oneCell_toArray fun v hv=>hone v (List.mem_append_left _ hv)
   have H1:=Lib.hid h1'
   have hi9:(Tryz.prog.info? 40).map (·.size) = some 9:=by kernel_rfl
   clear ca k1 hb1 hrow1 hxl hres hshape hz henc hone hen htg hrow2 hch hok2 hmap htags hWS HOK HROW HX HXI HB HB2 HR2 h1' x0 x1 x2 x3 x4 x5 x6 x7 x8 x9 x10 hcap
   go_wp2_with (refine wpList_store_mid rfl 40 (.tmp 20) (.tmp 18) rfl R (i * 11) #[.string (S x.pk.nm),.string (S x.pk.vs),y1,y2,y3,y4,y5,y6,.bool x.pk.ess] rfl rfl THR.out hi9 H1.out ?_; change wpList _ _ _ _ _ (w1.setCells R (i * 11) [.string (S x.pk.nm),.string (S x.pk.vs),y1,y2,y3,y4,y5,y6,.bool x.pk.ess]); rw [HWS.out])
   go_roundg g'
   case measure=>omega
   case rel=>exact ⟨i + 1,ds.set i z,by go_num,PN,HX2,by omega,by omega,HBN⟩
  ·obtain rfl:i = N:=by omega
   have hi':¬ (i:Int) < (i:Int):=by omega
   go_wp2_with fail
   go_ret
   exact ⟨_,rfl,ds,HX.out.2.1,HX.out.2.2,HP.out,HB.out⟩
end Sa
end Go.Proofs.YtgpcilepkmckeaaGreatDoor

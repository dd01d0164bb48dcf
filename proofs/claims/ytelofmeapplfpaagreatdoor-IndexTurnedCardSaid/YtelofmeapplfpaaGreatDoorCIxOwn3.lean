/-
ownPackages: packages in a row of the call's own, with lists of their own.
-/
import Derived.Test.YtelofmeapplfpaaGreatDoorCIxOwn2
import Derived.Deep.MidRow
namespace Go.Proofs.YtelofmeapplfpaaGreatDoor
open Go.RowKit
set_option linter.unusedSimpArgs false
set_option linter.unusedVariables false
namespace Ix
open Ver (Bs li li_len S S_self S_size S_li)
open Rl (At Pv Ats Pvs Clss Slc ClAt LimA LimP LimC Vars isV nA nP mem_getD Cls acells pcells own_shape own_lt infoC)
open Rc (Pk nPk PkV PkB PkC Pks Has CAt infoPk)
theorem chg_setCells (R:Nat):∀ (vs:List Value) (o:Nat) (w:World),Blk.Chg (fun k=>k = R) w (w.setCells R o vs)
 | [],_,w=>Blk.Chg.refl _ w
 | v :: r,o,w=>by
  have h:Blk.Chg (fun k=>k = R) w (w.setCell ⟨R,o,none⟩ v):=(Blk.Chg.refl _ w).setAt rfl
  exact h.trans (chg_setCells R r (o + 1) _)
theorem prow_of_own {w w':World} {v:Value} {d:List El} (ho:w'.ownsRow w.heap.size 26 9 v d.length (d.flatMap El.enc)) (hk:Below w.heap.size w w') (hh:∀ x ∈ d,Has w x.pk x.u1 x.u2 x.u3 x.u4 x.u5 x.u6):PRow w' w.heap.size v d:=by
 obtain ⟨a,cap,rfl,hc⟩:=own_shape ho
 refine ⟨a,cap,rfl,hc,fun h0=>?_⟩
 obtain ⟨R,c2,e,hcap⟩:=Rl.own_slice ho h0
 simp only [Value.slice.injEq,true_and] at e
 obtain ⟨rfl,rfl⟩:=e
 have hlt:=own_lt ho (k:=R) rfl
 refine ⟨R,rfl,hlt.1,hlt.2,fun i x hx j v hv=>⟨Rl.own_cell ho ?_,Rl.own_free ho _⟩,fun x hx u hu=>?_⟩
 ·rw [Rl.flat_at El.enc 9 (fun _=>rfl) d i j x hx ((List.getElem?_eq_some_iff.1 hv).1)]
  exact hv
 ·refine (hh x hx).below ⟨hu.os.trans hk.os,hu.tape.trans hk.tape,hu.output.trans hk.output,Nat.le_trans hk.size hu.size,fun k hk2=>?_⟩
  rw [hu.block k (by have:=hk.size; omega) (by omega),hk.block k hk2]
set_option maxRecDepth 100000 in
set_option maxHeartbeats 8000000 in
theorem ownPackages_any (v:Value) (l:List Pk) (w:World) (h:Pks w v l) (hf:∀ p ∈ l,Fit p) (hF:∀ p ∈ l,Few p) (hl:l.length ≤ 60000) :
  Calls Tryz.prog 43 #[v] w fun e w'=>∃ v' d,e = .returned v' ∧ d.map El.pk = l ∧ PRow w' w.heap.size v' d ∧ Below w.heap.size w w':=by
 obtain ⟨d,hd,hs,hh⟩:=els_of h hf
 have hdl:d.length = l.length:=by rw [← hd,List.length_map]
 have c0:=clonePackages_any v d w hs (by omega)
 obtain ⟨sa,scap,rfl⟩:=h.shape
 have HH:=Lib.hid hh
 have HD:=Lib.hid hd
 have HF:=Lib.hid hF
 obtain ⟨N,hN⟩:∃ N,l.length = N:=⟨_,rfl⟩
 have HDL:=Lib.hid (hdl.trans hN)
 rw [hdl,hN] at c0
 rw [hN] at hl ⊢
 clear hN h hs hd hdl hf hh hF
 go_enter Tryz.func43,Tryz.ntmps43
 go_wp2_with fail
 refine c0.mono ?_
 rintro e w0 ⟨v0,rfl,o0,k0⟩
 rw [← HDL.out] at o0
 have hp0:=prow_of_own o0 k0 HH.out
 obtain ⟨va,vc,rfl,hvc⟩:=own_shape o0
 rw [HDL.out] at hp0 ⊢
 have P0:=Lib.hid hp0
 have K0:=Lib.hid k0
 clear c0 o0 k0 hp0 hvc
 go_wp2_with fail
 go_loopg [9] N (fun gf s9 wx=>∃ (i:Nat) (ds:List El),s9 = .int .i64 i ∧ Hid (PRow wx w.heap.size (.slice va N vc) ds) ∧ Hid (ds.length = N ∧ ds.map El.pk = l) ∧ i ≤ N ∧ N ≤ i + gf ∧ Hid (Below w.heap.size w wx))
 case atStart=>exact ⟨0,d,rfl,P0,Lib.hid ⟨HDL.out,HD.out⟩,by omega,by omega,K0⟩
 case round =>
  obtain ⟨i,ds,rfl,HP,HX,hi1,hi2,HB⟩:=hrel
  by_cases hi:i < N
  ·have hi':(i:Int) < (N:Int):=by omega
   have hi0:(0:Int) ≤ i:=by omega
   obtain ⟨g',rfl⟩:∃ g',gk = g' + 1:=⟨gk - 1,by omega⟩
   have hids:i < ds.length:=by rw [HX.out.1]; exact hi
   obtain ⟨a',cap',e1,hcap,hr⟩:=HP.out
   rw [HX.out.1] at e1
   simp only [Value.slice.injEq,true_and] at e1
   obtain ⟨rfl,rfl⟩:=e1
   obtain ⟨R,rfl,hR1,hR2,hrow,hok⟩:=hr (by omega)
   obtain ⟨x,hx⟩:∃ x,ds[i]? = some x:=⟨ds[i],List.getElem?_eq_getElem hids⟩
   have hxm:x ∈ ds:=List.mem_of_getElem? hx
   have hpm:x.pk ∈ l:=by rw [← HX.out.2]; exact List.mem_map.2 ⟨x,hxm,rfl⟩
   obtain ⟨s1,m1,t1,e1⟩:=x.sl x.u1 (by simp)
   obtain ⟨s2,m2,t2,e2⟩:=x.sl x.u2 (by simp)
   obtain ⟨s3,m3,t3,e3⟩:=x.sl x.u3 (by simp)
   obtain ⟨s4,m4,t4,e4⟩:=x.sl x.u4 (by simp)
   obtain ⟨s5,m5,t5,e5⟩:=x.sl x.u5 (by simp)
   obtain ⟨s6,m6,t6,e6⟩:=x.sl x.u6 (by simp)
   have x0:=(hrow i x hx 0 _ rfl).1
   have x1:=(hrow i x hx 1 _ rfl).1
   have x2:=(hrow i x hx 2 _ rfl).1
   have x3:=(hrow i x hx 3 _ rfl).1
   have x4:=(hrow i x hx 4 _ rfl).1
   have x5:=(hrow i x hx 5 _ rfl).1
   have x6:=(hrow i x hx 6 _ rfl).1
   have x7:=(hrow i x hx 7 _ rfl).1
   have x8:=(hrow i x hx 8 _ rfl).1
   rw [Nat.mul_comm 9 i] at x0 x1 x2 x3 x4 x5 x6 x7 x8
   have hhas:=(hok x hxm).here
   rw [e1] at x2
   rw [e2] at x3
   rw [e3] at x4
   rw [e4] at x5
   rw [e5] at x6
   rw [e6] at x7
   rw [e1,e2,e3,e4,e5,e6] at hhas
   rw [Nat.add_zero] at x0
   have HROW:=Lib.hid hrow
   have HOK:=Lib.hid hok
   have HXI:=Lib.hid hx
   have hver:=Lib.hid x.ver
   have hnm:=Lib.hid x.nm
   have hvs:=Lib.hid x.vs
   have hb2:=(Below.refl wr.heap.size wr).alloc (Nat.le_refl _) (.cells #[.string (S x.pk.nm),.string (S x.pk.vs),.slice s1 m1 t1,.slice s2 m2 t2,.slice s3 m3 t3,.slice s4 m4 t4,.slice s5 m5 t5,.slice s6 m6 t6,.bool x.pk.ess] 26)
   have ca:=ownPackage_any _ x.pk (wr.alloc (.cells #[.string (S x.pk.nm),.string (S x.pk.vs),.slice s1 m1 t1,.slice s2 m2 t2,.slice s3 m3 t3,.slice s4 m4 t4,.slice s5 m5 t5,.slice s6 m6 t6,.bool x.pk.ess] 26)) ⟨_,_,_,_,_,_,rfl,hhas.below hb2⟩ (HF.out _ hpm)
   have HB2:=Lib.hid hb2
   have HR2:=Lib.hid hR2
   have HR1:=Lib.hid hR1
   have HPM:=Lib.hid hpm
   clear hrow hok hhas hr hx hxm hpm e1 e2 e3 e4 e5 e6 hb2 HP hR1 hR2 hids
   go_wp2_with fail
   obtain ⟨W,hW⟩:∃ W,wr.alloc (.cells #[.string (S x.pk.nm),.string (S x.pk.vs),.slice s1 m1 t1,.slice s2 m2 t2,.slice s3 m3 t3,.slice s4 m4 t4,.slice s5 m5 t5,.slice s6 m6 t6,.bool x.pk.ess] 26) = W:=⟨_,rfl⟩
   rw [hW] at HB2 ca ⊢
   clear hW
   refine ca.mono ?_
   rintro e w1 ⟨y1,y2,y3,y4,y5,y6,rfl,hres,k1⟩
   have hb1:=HB2.out.trans (k1.mono HB2.out.size)
   have hrow1:=HROW.out.below hb1
   have hxl:(i:Nat) < ds.length:=(List.getElem?_eq_some_iff.1 HXI.out).1
   have THR:=Lib.hid (hrow1.there HXI.out)
   rw [Nat.mul_comm 9 i] at THR
   have hshape:∀ u ∈ [y1,y2,y3,y4,y5,y6],∃ a n c,u = Value.slice a n c:=fun u hu=>by
    have hz:=hres w1 (Blk.Chg.refl _ _)
    simp only [List.mem_cons,List.not_mem_nil,or_false] at hu
    rcases hu with rfl | rfl | rfl | rfl | rfl | rfl
    ·obtain ⟨a,c,e⟩:=hz.pre.shape; exact ⟨a,_,c,e⟩
    ·obtain ⟨a,c,e⟩:=hz.dep.shape; exact ⟨a,_,c,e⟩
    ·obtain ⟨a,c,e⟩:=hz.rcm.shape; exact ⟨a,_,c,e⟩
    ·obtain ⟨a,c,e⟩:=hz.con.shape; exact ⟨a,_,c,e⟩
    ·obtain ⟨a,c,e⟩:=hz.brk.shape; exact ⟨a,_,c,e⟩
    ·obtain ⟨a,c,e⟩:=hz.prv.shape; exact ⟨a,_,c,e⟩
   obtain ⟨z,hz⟩:∃ z:El,z = ⟨x.pk,y1,y2,y3,y4,y5,y6,hshape,hver.out,hnm.out,hvs.out⟩:=⟨_,rfl⟩
   have henc:z.enc = [.string (S x.pk.nm),.string (S x.pk.vs),y1,y2,y3,y4,y5,y6,.bool x.pk.ess]:=by rw [hz]; rfl
   have hone:=z.one
   rw [henc] at hone
   have hpk:z.pk = x.pk:=by rw [hz]
   have hrow2:=hrow1.set hxl z
   have hch:=chg_setCells R z.enc (9 * i) w1
   have hok2:∀ y ∈ ds.set i z,Ok (w1.setCells R (9 * i) z.enc) R y:=fun y hy=>by
    rcases List.mem_or_eq_of_mem_set hy with h1 | h1
    ·exact ((HOK.out y h1).on (Blk.Chg.ofBelow' hb1)).on hch
    ·subst h1
     intro u hu
     have:Has u x.pk y1 y2 y3 y4 y5 y6:=hres u ((hch.trans hu).mono fun k _ hk=>by have:=HR2.out; have:=HB2.out.size; omega)
     rw [hz]
     exact this
   rw [henc,Nat.mul_comm 9 i] at hrow2 hok2 hch
   have hmap:(ds.set i z).map El.pk = l:=by
    rw [List.map_set,hpk,← HX.out.2]
    apply List.ext_getElem?
    intro k
    by_cases e:k = i
    ·subst e
     rw [List.getElem?_set_self (by rw [List.length_map]; exact hxl),List.getElem?_map,HXI.out]; rfl
    ·rw [List.getElem?_set_ne (fun h=>e h.symm)]
   have PN:Hid (PRow (w1.setCells R (i * 9) [.string (S x.pk.nm),.string (S x.pk.vs),y1,y2,y3,y4,y5,y6,.bool x.pk.ess]) w.heap.size (.slice (some ⟨R,0,none⟩) N vc) (ds.set i z)):=by
    have hlen:(ds.set i z).length = N:=by rw [List.length_set]; exact HX.out.1
    refine ⟨_,_,by rw [hlen],by rw [hlen,← HX.out.1]; exact hcap,fun _=>⟨R,rfl,HR1.out,?_,hrow2,hok2⟩⟩
    have:=hch.size
    have:=hb1.size
    have:=HR2.out
    omega
   have HX2:=Lib.hid (show (ds.set i z).length = N ∧ (ds.set i z).map El.pk = l from ⟨by rw [List.length_set]; exact HX.out.1,hmap⟩)
   have HBN:=Lib.hid ((HB.out.trans (hb1.mono HB.out.size)).trans (hch.below (B:=w.heap.size) (fun k hk=>by have:=HR1.out; omega) (by have:=HB.out.size; have:=hb1.size; omega)))
   obtain ⟨WS,hWS⟩:∃ WS,w1.setCells R (i * 9) [.string (S x.pk.nm),.string (S x.pk.vs),y1,y2,y3,y4,y5,y6,.bool x.pk.ess] = WS:=⟨_,rfl⟩
   rw [hWS] at PN HBN
   have HWS:=Lib.hid hWS
   have h1':(#[Value.string (S x.pk.nm),.string (S x.pk.vs),y1,y2,y3,y4,y5,y6,.bool x.pk.ess]:Array Value).all (·.oneCell') = true:=all_oneCell_toArray hone
   have H1:=Lib.hid h1'
   have hi9:(Tryz.prog.info? 26).map (·.size) = some 9:=by kernel_rfl
   clear ca k1 hb1 hrow1 hxl hres hshape hz henc hone hpk hrow2 hch hok2 hmap hWS HOK HROW HX HXI HB HB2 HR2 HPM h1' x0 x1 x2 x3 x4 x5 x6 x7 x8 hcap
   go_wp2_with (refine wpList_store_mid rfl 26 (.tmp 18) (.tmp 17) rfl R (i * 9) #[.string (S x.pk.nm),.string (S x.pk.vs),y1,y2,y3,y4,y5,y6,.bool x.pk.ess] rfl rfl THR.out hi9 H1.out ?_; change wpList _ _ _ _ _ (w1.setCells R (i * 9) [.string (S x.pk.nm),.string (S x.pk.vs),y1,y2,y3,y4,y5,y6,.bool x.pk.ess]); rw [HWS.out])
   go_roundg g'
   case measure=>omega
   case rel=>exact ⟨i + 1,ds.set i z,by go_num,PN,HX2,by omega,by omega,HBN⟩
  ·obtain rfl:i = N:=by omega
   have hi':¬ (i:Int) < (i:Int):=by omega
   go_wp2_with fail
   go_ret
   exact ⟨_,rfl,ds,HX.out.2,HP.out,HB.out⟩
end Ix
end Go.Proofs.YtelofmeapplfpaaGreatDoor

/-
ownPackages: packages in a row of the call's own, with lists of their own. What MayAll tells of packages; the places of names, one package after the other; an index in memory. Packages have one order.
-/
import Derived.Test.YtmhpjjjjgakpiaaGreatDoorDIxOwn2
import Derived.Deep.MidRow
import Derived.Test.YtmhpjjjjgakpiaaGreatDoorDIxMap
import Derived.Test.YtmhpjjjjgakpiaaGreatDoorDIxOrd
import Derived.Test.YtmhpjjjjgakpiaaGreatDoorDIxSort
namespace Go.Proofs.YtmhpjjjjgakpiaaGreatDoor
open Go.RowKit
set_option linter.unusedSimpArgs false
set_option linter.unusedVariables false
namespace Ix
open Ver (S)
open Rl (own_shape own_lt)
open Rc (Pk Pks Has)
theorem chg_setCells (R:Nat):∀ (vs:List Value) (o:Nat) (w:World),Blk.Chg (fun k=>k = R) w (w.setCells R o vs)
 | [],_,w=>Blk.Chg.refl _ w
 | v :: r,o,w=>by
  have h:Blk.Chg (fun k=>k = R) w (w.setCell ⟨R,o,none⟩ v):=(Blk.Chg.refl _ w).setAt rfl
  exact h.trans (chg_setCells R r (o + 1) _)
theorem prow_of_own {w w':World} {v:Value} {d:List El} (ho:w'.ownsRow w.heap.size 40 9 v d.length (d.flatMap El.enc)) (hk:Below w.heap.size w w') (hh:∀ x ∈ d,Has w x.pk x.u1 x.u2 x.u3 x.u4 x.u5 x.u6):PRow w' w.heap.size v d:=by
 obtain ⟨a,cap,rfl,hc⟩:=own_shape ho
 refine ⟨a,cap,rfl,hc,fun h0=>?_⟩
 obtain ⟨R,c2,e,hcap⟩:=Rl.own_slice ho h0
 simp only [Value.slice.injEq,true_and] at e
 obtain ⟨rfl,rfl⟩:=e
 have hlt:=own_lt ho (k:=R) rfl
 refine ⟨R,rfl,hlt.1,hlt.2,fun i x hx j v hv=>⟨Rl.own_cell ho ?_,Rl.own_free ho _⟩,fun x hx u hu=>?_⟩
 ·rw [Rl.flat_at El.enc 9 (fun _=>rfl) d i j x hx ((List.getElem?_eq_some_iff.1 hv).1)]
  exact hv
 ·refine (hh x hx).below ⟨hu.os.trans hk.os,hu.tape.trans hk.tape,hu.output.trans hk.output,Nat.le_trans hk.size hu.size,fun k hk2=>?_⟩
  rw [hu.block k (by have:=hk.size; omega) (by omega),hk.block k hk2]
set_option maxRecDepth 100000 in
set_option maxHeartbeats 8000000 in
theorem ownPackages_any (v:Value) (l:List Pk) (w:World) (h:Pks w v l) (hf:∀ p ∈ l,Fit p) (hF:∀ p ∈ l,Few p) (hl:l.length ≤ 60000) :
  Calls Tryz.prog 66 #[v] w fun e w'=>∃ v' d,e = .returned v' ∧ d.map El.pk = l ∧ PRow w' w.heap.size v' d ∧ Below w.heap.size w w':=by
 obtain ⟨d,hd,hs,hh⟩:=els_of h hf
 have hdl:d.length = l.length:=by rw [← hd,List.length_map]
 have c0:=clonePackages_any v d w hs (by omega)
 obtain ⟨sa,scap,rfl⟩:=h.shape
 have HH:=Lib.hid hh
 have HD:=Lib.hid hd
 have HF:=Lib.hid hF
 obtain ⟨N,hN⟩:∃ N,l.length = N:=⟨_,rfl⟩
 have HDL:=Lib.hid (hdl.trans hN)
 rw [hdl,hN] at c0
 rw [hN] at hl ⊢
 clear hN h hs hd hdl hf hh hF
 go_enter Tryz.func66,Tryz.ntmps66
 go_wp2_with fail
 refine c0.mono ?_
 rintro e w0 ⟨v0,rfl,o0,k0⟩
 rw [← HDL.out] at o0
 have hp0:=prow_of_own o0 k0 HH.out
 obtain ⟨va,vc,rfl,hvc⟩:=own_shape o0
 rw [HDL.out] at hp0 ⊢
 have P0:=Lib.hid hp0
 have K0:=Lib.hid k0
 clear c0 o0 k0 hp0 hvc
 go_wp2_with fail
 go_loopg [9] N (fun gf s9 wx=>∃ (i:Nat) (ds:List El),s9 = .int .i64 i ∧ Hid (PRow wx w.heap.size (.slice va N vc) ds) ∧ Hid (ds.length = N ∧ ds.map El.pk = l) ∧ i ≤ N ∧ N ≤ i + gf ∧ Hid (Below w.heap.size w wx))
 case atStart=>exact ⟨0,d,rfl,P0,Lib.hid ⟨HDL.out,HD.out⟩,by omega,by omega,K0⟩
 case round =>
  obtain ⟨i,ds,rfl,HP,HX,hi1,hi2,HB⟩:=hrel
  by_cases hi:i < N
  ·have hi':(i:Int) < (N:Int):=by omega
   have hi0:(0:Int) ≤ i:=by omega
   obtain ⟨g',rfl⟩:∃ g',gk = g' + 1:=⟨gk - 1,by omega⟩
   have hids:i < ds.length:=by rw [HX.out.1]; exact hi
   obtain ⟨a',cap',e1,hcap,hr⟩:=HP.out
   rw [HX.out.1] at e1
   simp only [Value.slice.injEq,true_and] at e1
   obtain ⟨rfl,rfl⟩:=e1
   obtain ⟨R,rfl,hR1,hR2,hrow,hok⟩:=hr (by omega)
   obtain ⟨x,hx⟩:∃ x,ds[i]? = some x:=⟨ds[i],List.getElem?_eq_getElem hids⟩
   have hxm:x ∈ ds:=List.mem_of_getElem? hx
   have hpm:x.pk ∈ l:=by rw [← HX.out.2]; exact List.mem_map.2 ⟨x,hxm,rfl⟩
   obtain ⟨s1,m1,t1,e1⟩:=x.sl x.u1 (by simp)
   obtain ⟨s2,m2,t2,e2⟩:=x.sl x.u2 (by simp)
   obtain ⟨s3,m3,t3,e3⟩:=x.sl x.u3 (by simp)
   obtain ⟨s4,m4,t4,e4⟩:=x.sl x.u4 (by simp)
   obtain ⟨s5,m5,t5,e5⟩:=x.sl x.u5 (by simp)
   obtain ⟨s6,m6,t6,e6⟩:=x.sl x.u6 (by simp)
   have x0:=(hrow i x hx 0 _ rfl).1
   have x1:=(hrow i x hx 1 _ rfl).1
   have x2:=(hrow i x hx 2 _ rfl).1
   have x3:=(hrow i x hx 3 _ rfl).1
   have x4:=(hrow i x hx 4 _ rfl).1
   have x5:=(hrow i x hx 5 _ rfl).1
   have x6:=(hrow i x hx 6 _ rfl).1
   have x7:=(hrow i x hx 7 _ rfl).1
   have x8:=(hrow i x hx 8 _ rfl).1
   rw [Nat.mul_comm 9 i] at x0 x1 x2 x3 x4 x5 x6 x7 x8
   have hhas:=(hok x hxm).here
   rw [e1] at x2
   rw [e2] at x3
   rw [e3] at x4
   rw [e4] at x5
   rw [e5] at x6
   rw [e6] at x7
   rw [e1,e2,e3,e4,e5,e6] at hhas
   rw [Nat.add_zero] at x0
   have HROW:=Lib.hid hrow
   have HOK:=Lib.hid hok
   have HXI:=Lib.hid hx
   have hver:=Lib.hid x.ver
   have hnm:=Lib.hid x.nm
   have hvs:=Lib.hid x.vs
   have hb2:=(Below.refl wr.heap.size wr).alloc (Nat.le_refl _) (.cells #[.string (S x.pk.nm),.string (S x.pk.vs),.slice s1 m1 t1,.slice s2 m2 t2,.slice s3 m3 t3,.slice s4 m4 t4,.slice s5 m5 t5,.slice s6 m6 t6,.bool x.pk.ess] 40)
   have ca:=ownPackage_any _ x.pk (wr.alloc (.cells #[.string (S x.pk.nm),.string (S x.pk.vs),.slice s1 m1 t1,.slice s2 m2 t2,.slice s3 m3 t3,.slice s4 m4 t4,.slice s5 m5 t5,.slice s6 m6 t6,.bool x.pk.ess] 40)) ⟨_,_,_,_,_,_,rfl,hhas.below hb2⟩ (HF.out _ hpm)
   have HB2:=Lib.hid hb2
   have HR2:=Lib.hid hR2
   have HR1:=Lib.hid hR1
   have HPM:=Lib.hid hpm
   clear hrow hok hhas hr hx hxm hpm e1 e2 e3 e4 e5 e6 hb2 HP hR1 hR2 hids
   go_wp2_with fail
   obtain ⟨W,hW⟩:∃ W,wr.alloc (.cells #[.string (S x.pk.nm),.string (S x.pk.vs),.slice s1 m1 t1,.slice s2 m2 t2,.slice s3 m3 t3,.slice s4 m4 t4,.slice s5 m5 t5,.slice s6 m6 t6,.bool x.pk.ess] 40) = W:=⟨_,rfl⟩
   rw [hW] at HB2 ca ⊢
   clear hW
   refine ca.mono ?_
   rintro e w1 ⟨y1,y2,y3,y4,y5,y6,rfl,hres,k1⟩
   have hb1:=HB2.out.trans (k1.mono HB2.out.size)
   have hrow1:=HROW.out.below hb1
   have hxl:(i:Nat) < ds.length:=(List.getElem?_eq_some_iff.1 HXI.out).1
   have THR:=Lib.hid (hrow1.there HXI.out)
   rw [Nat.mul_comm 9 i] at THR
   have hshape:∀ u ∈ [y1,y2,y3,y4,y5,y6],∃ a n c,u = Value.slice a n c:=fun u hu=>by
    have hz:=hres w1 (Blk.Chg.refl _ _)
    simp only [List.mem_cons,List.not_mem_nil,or_false] at hu
    rcases hu with rfl | rfl | rfl | rfl | rfl | rfl
    ·obtain ⟨a,c,e⟩:=hz.pre.shape; exact ⟨a,_,c,e⟩
    ·obtain ⟨a,c,e⟩:=hz.dep.shape; exact ⟨a,_,c,e⟩
    ·obtain ⟨a,c,e⟩:=hz.rcm.shape; exact ⟨a,_,c,e⟩
    ·obtain ⟨a,c,e⟩:=hz.con.shape; exact ⟨a,_,c,e⟩
    ·obtain ⟨a,c,e⟩:=hz.brk.shape; exact ⟨a,_,c,e⟩
    ·obtain ⟨a,c,e⟩:=hz.prv.shape; exact ⟨a,_,c,e⟩
   obtain ⟨z,hz⟩:∃ z:El,z = ⟨x.pk,y1,y2,y3,y4,y5,y6,hshape,hver.out,hnm.out,hvs.out⟩:=⟨_,rfl⟩
   have henc:z.enc = [.string (S x.pk.nm),.string (S x.pk.vs),y1,y2,y3,y4,y5,y6,.bool x.pk.ess]:=by rw [hz]; rfl
   have hone:=z.one
   rw [henc] at hone
   have hpk:z.pk = x.pk:=by rw [hz]
   have hrow2:=hrow1.set hxl z
   have hch:=chg_setCells R z.enc (9 * i) w1
   have hok2:∀ y ∈ ds.set i z,Ok (w1.setCells R (9 * i) z.enc) R y:=fun y hy=>by
    rcases List.mem_or_eq_of_mem_set hy with h1 | h1
    ·exact ((HOK.out y h1).on (Blk.Chg.ofBelow' hb1)).on hch
    ·subst h1
     intro u hu
     have:Has u x.pk y1 y2 y3 y4 y5 y6:=hres u ((hch.trans hu).mono fun k _ hk=>by have:=HR2.out; have:=HB2.out.size; omega)
     rw [hz]
     exact this
   rw [henc,Nat.mul_comm 9 i] at hrow2 hok2 hch
   have hmap:(ds.set i z).map El.pk = l:=by
    rw [List.map_set,hpk,← HX.out.2]
    apply List.ext_getElem?
    intro k
    by_cases e:k = i
    ·subst e
     rw [List.getElem?_set_self (by rw [List.length_map]; exact hxl),List.getElem?_map,HXI.out]; rfl
    ·rw [List.getElem?_set_ne (fun h=>e h.symm)]
   have PN:Hid (PRow (w1.setCells R (i * 9) [.string (S x.pk.nm),.string (S x.pk.vs),y1,y2,y3,y4,y5,y6,.bool x.pk.ess]) w.heap.size (.slice (some ⟨R,0,none⟩) N vc) (ds.set i z)):=by
    have hlen:(ds.set i z).length = N:=by rw [List.length_set]; exact HX.out.1
    refine ⟨_,_,by rw [hlen],by rw [hlen,← HX.out.1]; exact hcap,fun _=>⟨R,rfl,HR1.out,?_,hrow2,hok2⟩⟩
    have:=hch.size
    have:=hb1.size
    have:=HR2.out
    omega
   have HX2:=Lib.hid (show (ds.set i z).length = N ∧ (ds.set i z).map El.pk = l from ⟨by rw [List.length_set]; exact HX.out.1,hmap⟩)
   have HBN:=Lib.hid ((HB.out.trans (hb1.mono HB.out.size)).trans (hch.below (B:=w.heap.size) (fun k hk=>by have:=HR1.out; omega) (by have:=HB.out.size; have:=hb1.size; omega)))
   obtain ⟨WS,hWS⟩:∃ WS,w1.setCells R (i * 9) [.string (S x.pk.nm),.string (S x.pk.vs),y1,y2,y3,y4,y5,y6,.bool x.pk.ess] = WS:=⟨_,rfl⟩
   rw [hWS] at PN HBN
   have HWS:=Lib.hid hWS
   have h1':(#[Value.string (S x.pk.nm),.string (S x.pk.vs),y1,y2,y3,y4,y5,y6,.bool x.pk.ess]:Array Value).all (·.oneCell') = true:=all_oneCell_toArray hone
   have H1:=Lib.hid h1'
   have hi9:(Tryz.prog.info? 40).map (·.size) = some 9:=by kernel_rfl
   clear ca k1 hb1 hrow1 hxl hres hshape hz henc hone hpk hrow2 hch hok2 hmap hWS HOK HROW HX HXI HB HB2 HR2 HPM h1' x0 x1 x2 x3 x4 x5 x6 x7 x8 hcap
   go_wp2_with (refine wpList_store_mid rfl 40 (.tmp 18) (.tmp 17) rfl R (i * 9) #[.string (S x.pk.nm),.string (S x.pk.vs),y1,y2,y3,y4,y5,y6,.bool x.pk.ess] rfl rfl THR.out hi9 H1.out ?_; change wpList _ _ _ _ _ (w1.setCells R (i * 9) [.string (S x.pk.nm),.string (S x.pk.vs),y1,y2,y3,y4,y5,y6,.bool x.pk.ess]); rw [HWS.out])
   go_roundg g'
   case measure=>omega
   case rel=>exact ⟨i + 1,ds.set i z,by go_num,PN,HX2,by omega,by omega,HBN⟩
  ·obtain rfl:i = N:=by omega
   have hi':¬ (i:Int) < (i:Int):=by omega
   go_wp2_with fail
   go_ret
   exact ⟨_,rfl,ds,HX.out.2,HP.out,HB.out⟩
end Ix
end Go.Proofs.YtmhpjjjjgakpiaaGreatDoor
namespace Go.Proofs.YtmhpjjjjgakpiaaGreatDoor
open Go.RowKit
set_option linter.unusedSimpArgs false
set_option linter.unusedVariables false
namespace Ix
open Ver (Bs)
open Rl (At Pv may nmB isV)
open Rc (Pk nPk Pks mayK mayC mayA mayP mayAll eachK orI twice nmsOf)
/-! ### what may be -/
theorem orI_zero:∀ {l:List Int},orI l = 0 → ∀ x ∈ l,x = 0
 | [],_,x,hx=>by cases hx
 | y :: r,h,x,hx=>by
  unfold orI at h
  by_cases hy:y = 0
  ·rw [if_neg (by simpa using hy)] at h
   rcases List.mem_cons.1 hx with rfl | hx
   ·exact hy
   ·exact orI_zero h x hx
  ·rw [if_pos hy] at h
   exact absurd h hy
theorem mayC_of {l:List (List At)} (h:mayC l = 0):l.length ≤ 12 ∧ ∀ c ∈ l,c.length ≤ 6:=by
 unfold mayC at h
 split at h
 ·cases h
 ·rename_i h1
  split at h
  ·cases h
  ·rename_i h2
   refine ⟨by omega,fun c hc=>?_⟩
   by_cases h3:c.length ≤ 6
   ·exact h3
   ·exact absurd (List.any_eq_true.2 ⟨c,hc,by rw [decide_eq_true_eq]; omega⟩) h1
theorem mayA_of {l:List At} (h:mayA l = 0):l.length ≤ 12:=by
 unfold mayA at h
 split at h
 ·cases h
 ·omega
theorem mayP_of {l:List Pv} (h:mayP l = 0):l.length ≤ 12:=by
 unfold mayP at h
 split at h
 ·cases h
 ·omega
structure MayP (p:Pk):Prop where
 nm:nmB p.nm = true
 ver:isV p.vs = true
 pre:mayC p.pre = 0
 dep:mayC p.dep = 0
 rcm:mayC p.rcm = 0
 con:mayA p.con = 0
 brk:mayA p.brk = 0
 prv:mayP p.prv = 0
theorem mayK_of {p:Pk} (h:mayK p = 0):MayP p:=by
 unfold mayK at h
 split at h
 ·rename_i h1
  rw [Bool.and_eq_true] at h1
  have k:=orI_zero h
  exact ⟨h1.1,h1.2,k _ (by simp),k _ (by simp),k _ (by simp),k _ (by simp),k _ (by simp),k _ (by simp)⟩
 ·cases h
theorem MayP.few {p:Pk} (h:MayP p):Few p :=
 ⟨⟨by have:=(mayC_of h.pre).1; omega,fun c hc=>by have:=(mayC_of h.pre).2 c hc; omega⟩,⟨by have:=(mayC_of h.dep).1; omega,fun c hc=>by have:=(mayC_of h.dep).2 c hc; omega⟩,⟨by have:=(mayC_of h.rcm).1; omega,fun c hc=>by have:=(mayC_of h.rcm).2 c hc; omega⟩,
  by have:=mayA_of h.con; omega,by have:=mayA_of h.brk; omega,by have:=mayP_of h.prv; omega⟩
structure MayL (l:List Pk):Prop where
 len:l.length ≤ 24
 each:∀ p ∈ l,MayP p
 once:twice l = false
 nms:(nmsOf l []).length ≤ 10
theorem mayAll_of {l:List Pk} (h:mayAll l = 0):MayL l:=by
 unfold mayAll at h
 split at h
 ·cases h
 ·rename_i h1
  split at h
  ·rename_i h2; exact absurd h h2
  ·rename_i h2
   split at h
   ·cases h
   ·rename_i h3
    split at h
    ·cases h
    ·rename_i h4
     refine ⟨by omega,fun p hp=>mayK_of (orI_zero (show orI (l.map mayK) = 0 from (by simpa using h2:eachK l = 0)) _ (List.mem_map.2 ⟨p,hp,rfl⟩)),by simpa using h3,by omega⟩
/-! ### places -/
def pl (f:Nat → Bool) (k:Nat):List Nat:=(List.range k).filter f
theorem pl_lt {f:Nat → Bool} {k i:Nat} (h:i ∈ pl f k):i < k:=List.mem_range.1 (List.mem_filter.1 h).1
theorem pl_succ (f:Nat → Bool) (k:Nat):pl f (k + 1) = pl f k ++ (if f k = true then [k] else []):=by
 unfold pl
 rw [List.range_succ,List.filter_append]
 congr 1
 rw [List.filter_cons]
 split <;> rfl
theorem last_ne {f:Nat → Bool} {k:Nat}:(pl f k).getLast? ≠ some k:=fun h=>by
 have:=pl_lt (List.mem_of_getLast? h)
 omega
def stands (p:Pk) (nm:Bs):Bool:=decide (p.nm = nm) || p.prv.any fun v=>decide (v.1 = nm)
def ff (xs:List Pk) (m:Bool) (nm:Bs) (i:Nat):Bool:=match m with
 | false=>decide ((xs.getD i nPk).nm = nm)
 | true=>stands (xs.getD i nPk) nm
def gM (xs:List Pk) (k:Nat) (c:Bool → Bs → Bool) (m:Bool) (nm:Bs):List Nat:=pl (ff xs m nm) k ++ (if c m nm = true then [k] else [])
def gK (xs:List Pk) (k:Nat) (m:Bool) (nm:Bs):List Nat:=pl (ff xs m nm) k
theorem gM_none (xs:List Pk) (k:Nat) (m:Bool) (nm:Bs):gM xs k (fun _ _=>false) m nm = gK xs k m nm:=by unfold gM gK; simp
theorem gM_upd (xs:List Pk) (k:Nat) (c:Bool → Bs → Bool) (m:Bool) (nm:Bs) (m':Bool) (x:Bs):upd (gM xs k c) m nm k m' x = gM xs k (fun m' x=>if m' = m ∧ x = nm then true else c m' x) m' x:=by
 unfold upd gM
 by_cases h:m' = m ∧ x = nm
 ·obtain ⟨rfl,rfl⟩:=h
  rw [if_pos ⟨rfl,rfl⟩]
  simp only [and_self,if_true]
  unfold addTo
  cases hc:c m' x with
  | false =>
   simp only [Bool.false_eq_true,if_false,List.append_nil]
   rw [if_neg last_ne]
  | true =>
   simp only [if_true]
   rw [if_pos (by rw [List.getLast?_append]; rfl)]
 ·rw [if_neg h]
  simp only [h,if_false]
theorem gM_all (xs:List Pk) (k:Nat) (c:Bool → Bs → Bool) (h:∀ m nm,c m nm = ff xs m nm k) (m:Bool) (nm:Bs):gM xs k c m nm = gK xs (k + 1) m nm:=by
 unfold gM gK
 rw [pl_succ,h m nm]
def cJ (p:Pk) (j:Nat) (m:Bool) (nm:Bs):Bool:=match m with
 | false=>decide (p.nm = nm)
 | true=>decide (p.nm = nm) || (p.prv.take j).any fun v=>decide (v.1 = nm)
theorem cJ_zero (p:Pk) (m:Bool) (nm:Bs):(if m = true ∧ nm = p.nm then true else if m = false ∧ nm = p.nm then true else false) = cJ p 0 m nm:=by
 unfold cJ
 cases m with
 | false=>by_cases h:nm = p.nm <;> simp [h,eq_comm]
 | true=>by_cases h:nm = p.nm <;> simp [h,eq_comm]
theorem cJ_succ (p:Pk) (j:Nat) (v:Pv) (hv:p.prv[j]? = some v) (m:Bool) (nm:Bs):(if m = true ∧ nm = v.1 then true else cJ p j m nm) = cJ p (j + 1) m nm:=by
 unfold cJ
 cases m with
 | false=>simp
 | true =>
  have e:p.prv.take (j + 1) = p.prv.take j ++ [v]:=by
   obtain ⟨h1,h2⟩:=List.getElem?_eq_some_iff.1 hv
   rw [List.take_succ_eq_append_getElem h1,h2]
  simp only [true_and]
  rw [e,List.any_append]
  by_cases h:nm = v.1
  ·simp [h]
  ·have h':¬ v.1 = nm:=fun hh=>h hh.symm
   simp [h,h']
theorem cJ_all (xs:List Pk) (k:Nat) (m:Bool) (nm:Bs):cJ (xs.getD k nPk) (xs.getD k nPk).prv.length m nm = ff xs m nm k:=by
 unfold cJ ff stands
 cases m with
 | false=>rfl
 | true=>rw [List.take_of_length_le (Nat.le_refl _)]
/-! ### an index -/
def Sorts (l xs:List Pk):Prop:=xs.Perm l ∧ ∀ i j,i < j → j < xs.length → ¬ cmpP (xs.getD j nPk) (xs.getD i nPk) < 0
def Mrd (w:World) (b:Nat) (g:Bs → List Nat):Prop:=∃ (n:Nat) (hd:Bs → Value),n ≤ 60000 ∧ Hdr w b n hd (fun nm=>decide (g nm ≠ [])) ∧ ∀ nm,∃ M,w.ownsRow M 3 1 (hd nm) (g nm).length (ints (g nm))
theorem Mrd.below {w w':World} {b:Nat} {g:Bs → List Nat} (h:Mrd w b g) (hb:Below w.heap.size w w'):Mrd w' b g:=by
 obtain ⟨n,hd,h0,h1,h2⟩:=h
 exact ⟨n,hd,h0,h1.below hb,fun nm=>by obtain ⟨M,hM⟩:=h2 nm; exact ⟨M,Own.owns_below hM hb⟩⟩
def Idx (w:World) (pb:Nat) (xs:List Pk):Prop:=∃ (pv:Value) (bn bs:Nat),Blk.Is w pb 88 #[pv,.map (some bn),.map (some bs)] ∧ Pks w pv xs ∧ Mrd w bn (gK xs xs.length false) ∧ Mrd w bs (gK xs xs.length true)
theorem Idx.below {w w':World} {pb:Nat} {xs:List Pk} (h:Idx w pb xs) (hb:Below w.heap.size w w'):Idx w' pb xs:=by
 obtain ⟨pv,bn,bs,h1,h2,h3,h4⟩:=h
 exact ⟨pv,bn,bs,Rl.is_on h1 hb,h2.below hb,Mrd.below h3 hb,Mrd.below h4 hb⟩
theorem Gs.rd {w:World} {M:Nat} {bm:Bool → Nat} {g:Bool → Bs → List Nat} {n:Nat} (h:Gs w M bm g n) (hn:n ≤ 60000) (m:Bool):Mrd w (bm m) (g m):=by
 obtain ⟨_,_,_,_,hd,h4,h5,_⟩:=h
 exact ⟨n,hd m,hn,h4 m,fun nm=>⟨M,h5 m nm⟩⟩
end Ix
end Go.Proofs.YtmhpjjjjgakpiaaGreatDoor
namespace Go.Proofs.YtmhpjjjjgakpiaaGreatDoor
open Go.RowKit
set_option linter.unusedSimpArgs false
set_option linter.unusedVariables false
namespace Ix
open Ver (cmpV sameV orr)
open Rl (isV)
open Rc (Pk nPk twice again)
theorem orr_zero {p q:Int} (h:orr p q = 0):p = 0 ∧ q = 0:=by
 unfold orr at h
 split at h
 ·rename_i h1
  simp only [bne_iff_ne,ne_eq] at h1
  exact absurd h h1
 ·rename_i h1
  refine ⟨by simpa using h1,h⟩
theorem again_of {p q:Pk} (hp:isV p.vs = true) (hq:isV q.vs = true) (h:cmpP p q = 0):again p q = true:=by
 unfold cmpP at h
 obtain ⟨h1,h2⟩:=orr_zero h
 unfold again sameV
 rw [cb_zero h1]
 have h3:cmpV p.vs q.vs = 0:=by rw [Ver.cmpV_turn]; omega
 unfold isV at hp hq
 simp [h3,hp,hq]
theorem twice_no {l:List Pk} (h:twice l = false) {i j:Nat} (hij:i < j) (hj:j < l.length):again (l.getD j nPk) (l.getD i nPk) = false:=by
 unfold twice at h
 rw [List.any_eq_false] at h
 have h1:=h j (List.mem_range.2 hj)
 rw [Bool.not_eq_true,List.any_eq_false] at h1
 have h2:=h1 (l.getD i nPk) (by
  rw [List.mem_iff_getElem?]
  refine ⟨i,?_⟩
  rw [List.getElem?_take,if_pos hij,List.getD_eq_getElem?_getD,List.getElem?_eq_getElem (by omega)]
  rfl)
 simpa using h2
theorem one_of {l:List Pk} (h:MayL l) {p q:Pk} (hp:p ∈ l) (hq:q ∈ l) (h0:cmpP p q = 0):p = q:=by
 obtain ⟨i,hi⟩:=List.mem_iff_getElem?.1 hp
 obtain ⟨j,hj⟩:=List.mem_iff_getElem?.1 hq
 have il:=(List.getElem?_eq_some_iff.1 hi).1
 have jl:=(List.getElem?_eq_some_iff.1 hj).1
 have gi:=get_getD hi nPk
 have gj:=get_getD hj nPk
 have vp:=(h.each p hp).ver
 have vq:=(h.each q hq).ver
 rcases Nat.lt_trichotomy i j with h1 | h1 | h1
 ·have:=twice_no h.once h1 jl
  rw [gi,gj,again_of vq vp (by rw [cmpP_turn]; omega)] at this
  cases this
 ·subst h1
  rw [hi] at hj
  exact Option.some.inj hj
 ·have:=twice_no h.once h1 il
  rw [gi,gj,again_of vp vq h0] at this
  cases this
theorem Sorts.pairwise {l xs:List Pk} (h:Sorts l xs):xs.Pairwise fun p q=>¬ cmpP q p < 0:=by
 rw [List.pairwise_iff_getElem]
 intro i j hi hj hij
 have:=h.2 i j hij hj
 rw [List.getD_eq_getElem?_getD,List.getElem?_eq_getElem hj,List.getD_eq_getElem?_getD,List.getElem?_eq_getElem hi] at this
 exact this
theorem sorts_one {l m xs ys:List Pk} (h:MayL l) (hm:m.Perm l) (hx:Sorts l xs) (hy:Sorts m ys):xs = ys:=by
 refine List.Perm.eq_of_pairwise (le:=fun p q=>¬ cmpP q p < 0) (fun a b ha hb h1 h2=>?_) hx.pairwise hy.pairwise (hx.1.trans (hm.symm.trans hy.1.symm))
 have ha':=hx.1.mem_iff.1 ha
 have hb':=hm.mem_iff.1 (hy.1.mem_iff.1 hb)
 refine one_of h ha' hb' ?_
 have:=cmpP_turn a b
 omega
end Ix
end Go.Proofs.YtmhpjjjjgakpiaaGreatDoor

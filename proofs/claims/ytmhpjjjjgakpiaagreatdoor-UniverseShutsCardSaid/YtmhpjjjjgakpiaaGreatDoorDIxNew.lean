/-
New: packages, sorted, with their places by names.
-/
import Derived.Test.YtmhpjjjjgakpiaaGreatDoorDIxUniq
import Derived.StillTail
import Derived.StillTailTactics
import Derived.Carry
namespace Go.Proofs.YtmhpjjjjgakpiaaGreatDoor
open Go.RowKit
set_option linter.unusedSimpArgs false
set_option linter.unusedVariables false
namespace Ix
open Ver (S)
open Rl (Vars nP mem_getD)
open Rc (Pk nPk Pks mayAll)
set_option maxRecDepth 100000 in
set_option maxHeartbeats 2000000 in
theorem new_no (v:Value) (l:List Pk) (w:World) (h:Pks w v l) (hL:∀ x ∈ l,x.Lim) (hv:Vars w) (hm:mayAll l ≠ 0) :
  Calls Tryz.prog 41 #[v] w fun e w'=>e = .returned (.tuple #[.pointer none,.int .i64 (mayAll l)]) ∧ Below w.heap.size w w':=by
 have ca:=Rc.mayAll_any v l w h hL hv
 obtain ⟨sa,cap,rfl⟩:=h.shape
 have hne:(mayAll l != 0) = true:=by simp [hm]
 generalize mayAll l = R at *
 generalize l.length = N at *
 clear h hL hv hm
 go_enter Tryz.func41,Tryz.ntmps41
 go_wp2_with fail
 refine ca.mono ?_
 rintro e w1 ⟨rfl,k1⟩
 clear ca
 go_wp2_with fail
 go_ret2
 exact ⟨rfl,k1⟩
set_option maxRecDepth 100000 in
set_option maxHeartbeats 16000000 in
theorem new_yes (v:Value) (l:List Pk) (w:World) (h:Pks w v l) (hL:∀ x ∈ l,x.Lim) (hv:Vars w) (hm:mayAll l = 0) :
  Calls Tryz.prog 41 #[v] w fun e w'=>∃ pb xs,e = .returned (.tuple #[.pointer (some ⟨pb,0,none⟩),.int .i64 0]) ∧ Sorts l xs ∧ Idx w' pb xs ∧ Below w.heap.size w w':=by
 have ML:=mayAll_of hm
 have ca:=Rc.mayAll_any v l w h hL hv
 have hsh:=h.shape
 obtain ⟨sa,cap,e0⟩:=hsh
 have HP:=Lib.hid h
 rw [hm] at ca
 have hfit:∀ p ∈ l,Fit p:=fun p hp=>⟨(ML.each p hp).ver,hL p hp⟩
 have hfew:∀ p ∈ l,Few p:=fun p hp=>(ML.each p hp).few
 have OWN:Hid (∀ w1,Below w.heap.size w w1 → Calls Tryz.prog 66 #[v] w1 fun e w'=>∃ v' d,e = .returned v' ∧ d.map El.pk = l ∧ PRow w' w1.heap.size v' d ∧ Below w1.heap.size w1 w'):=fun w1 hb=>ownPackages_any v l w1 (h.below hb) hfit hfew (by have:=ML.len; omega)
 have HV:=Lib.hid hv
 have HML:=Lib.hid ML
 have HLL:=Lib.hid hL
 have hgm:1 < w.heap.size:=hv.maxLen.lt
 have HGM:=Lib.hid hgm
 generalize l.length = N0 at e0
 subst e0
 clear h hL hv hm ML hfit hfew hgm
 have hmm:=@run_makeMap Tryz.prog
 go_enter Tryz.func41,Tryz.ntmps41
 go_wp2_with fail
 refine ca.mono ?_
 rintro e w1 ⟨rfl,k1⟩
 clear ca
 have K1:=Lib.hid k1
 have co:=OWN.out w1 k1
 clear k1
 go_wp2_with fail
 refine co.mono ?_
 rintro e w2 ⟨v2,d,rfl,hd,hp,k2⟩
 have K2:=Lib.hid (K1.out.trans (k2.mono K1.out.size))
 have HD:=Lib.hid hd
 obtain ⟨ND,hND⟩:∃ ND,d.length = ND:=⟨_,rfl⟩
 have HND:=Lib.hid hND
 have hN24:ND ≤ 24:=by rw [← hND,← List.length_map (f:=El.pk),hd]; exact HML.out.len
 have hpW:=Lib.hid hp
 obtain ⟨pa,pc,ep,_,hRW⟩:=id hp
 rw [hND] at ep hRW
 have HRW:Hid (0 < ND → ∀ k,v2.ownBlock = some k → k < w2.heap.size ∧ w.heap.size ≤ k):=fun h0 k hk=>by
  obtain ⟨R,r1,r3,r2,_⟩:=hRW h0
  rw [ep,r1] at hk
  simp [Value.ownBlock] at hk
  have:=K1.out.size
  omega
 clear co k2 hd hp hND hRW
 -- the two maps and the index
 have hb3:=(Below.refl w2.heap.size w2).alloc (Nat.le_refl _) (.map #[] 0)
 have hs3:(w2.alloc (.map #[] 0)).heap.size = w2.heap.size + 1:=by simp
 have m1:=Hdr.made w2
 have hb4:=hb3.alloc hb3.size (.map #[] 0)
 have m2:=Hdr.made (w2.alloc (.map #[] 0))
 rw [hs3] at m2
 have m1':=m1.below ((Below.refl (w2.alloc (.map #[] 0)).heap.size _).alloc (Nat.le_refl _) (.map #[] 0))
 have hs4:((w2.alloc (.map #[] 0)).alloc (.map #[] 0)).heap.size = w2.heap.size + 1 + 1:=by simp
 have i5:=Blk.Is.new ((w2.alloc (.map #[] 0)).alloc (.map #[] 0)) 88 #[v2,.map (some w2.heap.size),.map (some (w2.heap.size + 1))]
 rw [hs4] at i5
 have hb5:=hb4.alloc hb4.size (.cells #[v2,.map (some w2.heap.size),.map (some (w2.heap.size + 1))] 88)
 have hbx:=(Below.refl ((w2.alloc (.map #[] 0)).alloc (.map #[] 0)).heap.size _).alloc (Nat.le_refl _) (.cells #[v2,.map (some w2.heap.size),.map (some (w2.heap.size + 1))] 88)
 have m1'':=m1'.below hbx
 have m2'':=m2.below hbx
 have hs5:(((w2.alloc (.map #[] 0)).alloc (.map #[] 0)).alloc (.cells #[v2,.map (some w2.heap.size),.map (some (w2.heap.size + 1))] 88)).heap.size = w2.heap.size + 3:=by simp
 have cs:=fun W hb hB=>sort_any v2 d W (hpW.out.below hb) (HV.out.on hB).maxLen (Nat.lt_of_lt_of_le HGM.out K1.out.size) (by rw [HND.out]; omega)
 rw [HND.out] at cs
 subst ep
 obtain ⟨W,hW⟩:∃ W,((w2.alloc (.map #[] 0)).alloc (.map #[] 0)).alloc (.cells #[.slice pa ND pc,.map (some w2.heap.size),.map (some (w2.heap.size + 1))] 88) = W:=⟨_,rfl⟩
 rw [hW] at i5 hb5 m1'' m2'' hs5
 have c0:W.cell? ⟨w2.heap.size + 1 + 1,0,none⟩ = some (.slice pa ND pc):=i5.at (i:=0) rfl
 have HI:=Lib.hid i5
 have hK5:=K2.out.trans (hb5.mono K2.out.size)
 have HB5:=Lib.hid hK5
 have HM1:=Lib.hid m1''
 have HM2:=Lib.hid m2''
 have HS5:=Lib.hid hs5
 have cs':=cs W hb5 hK5
 have hu:=hW
 clear hb3 hs3 m1 hb4 m2 m1' hs4 i5 hb5 hbx m1'' m2'' hs5 hW hK5 cs
 go_wp2_with fail
 clear hu
 refine cs'.mono ?_
 rintro e w3 ⟨rfl,d',hperm,hsort,hp3,hch3⟩
 clear cs' c0
 have hlen3:d'.length = ND:=by rw [← HND.out]; exact hperm.length_eq
 have hnot:∀ b,w2.heap.size ≤ b → ¬ (0 < ND ∧ (Value.slice pa ND pc).ownBlock = some b):=fun b hb hh=>by have:=(HRW.out hh.1 b hh.2).1; omega
 have i3:=hch3.is HI.out (hnot _ (by omega))
 have m13:=HM1.out.chg hch3 (hnot _ (by omega))
 have m23:=HM2.out.chg hch3 (hnot _ (by omega))
 have hK3:Below w.heap.size w w3:=HB5.out.trans (hch3.below (B:=w.heap.size) (fun k hk=>(HRW.out hk.1 k hk.2).2) HB5.out.size)
 have hM3:w2.heap.size + 3 ≤ w3.heap.size:=by rw [← HS5.out]; exact hch3.size
 obtain ⟨xs,hxs⟩:∃ xs,d'.map El.pk = xs:=⟨_,rfl⟩
 have hxl:xs.length = ND:=by rw [← hxs,List.length_map,hlen3]
 have hpk3:Pks w3 (.slice pa ND pc) xs:=by rw [← hxs]; exact hp3.pks (by rw [hlen3]; omega)
 have hsorts:Sorts l xs:=by
  refine ⟨by rw [← hxs,← HD.out]; exact hperm.map _,fun i j hij hj=>?_⟩
  have g:∀ k,k < xs.length → xs.getD k nPk = (d'.getD k default).pk:=fun k hk=>by
   rw [hxl,← hlen3] at hk
   rw [← hxs,List.getD_eq_getElem?_getD,List.getElem?_map,List.getD_eq_getElem?_getD,List.getElem?_eq_getElem hk]; rfl
  rw [g i (by omega),g j hj]
  have:=hsort i j hij (by rw [hlen3,← hxl]; exact hj)
  unfold cmpE at this
  omega
 have HX:Hid (∀ k,k < ND → MayP (xs.getD k nPk) ∧ (xs.getD k nPk).Lim):=fun k hk=>by
  have hm:xs.getD k nPk ∈ l:=hsorts.1.mem_iff.1 (mem_getD (by omega))
  exact ⟨HML.out.each _ hm,HLL.out _ hm⟩
 have HPK:=Lib.hid hpk3
 have HSO:=Lib.hid hsorts
 have HXL:=Lib.hid hxl
 have HK3:=Lib.hid hK3
 obtain ⟨bn,hbn⟩:∃ bn,w2.heap.size = bn:=⟨_,rfl⟩
 have HWB:Hid (w.heap.size ≤ bn):=by rw [← hbn]; exact K2.out.size
 rw [hbn] at i3 m13 m23 hM3 ⊢
 obtain ⟨M,hMe⟩:∃ M,w3.heap.size = M:=⟨_,rfl⟩
 rw [hMe] at hM3
 obtain ⟨bm,hbm⟩:∃ bm:Bool → Nat,bm = fun m=>if m = true then bn + 1 else bn:=⟨_,rfl⟩
 have hbt:bm true = bn + 1:=by rw [hbm]; rfl
 have hbf:bm false = bn:=by rw [hbm]; rfl
 have GS0:Hid (Gs w3 M bm (gK xs 0) 0):=by
  refine ⟨fun m=>by cases m <;> omega,by omega,by omega,fun m nm=>by unfold gK pl; simp,fun _ _=>.slice none 0 0,fun m=>?_,fun m nm=>?_,fun m nm m' nm' _=>.inl rfl⟩
  ·have e:(fun nm=>decide (gK xs 0 m nm ≠ [])) = fun _=>false:=funext fun nm=>by unfold gK pl; simp
   rw [e]
   cases m
   ·rw [hbf]; exact m13
   ·rw [hbt]; exact m23
  ·exact World.ownsRow_nil _ _ _ _
 have MAPS:Hid (∀ k,k < w3.heap.size → (k = bn ∨ k = bn + 1 ∨ M ≤ k) → ∃ es c,w3.heap[k]? = some (.map es c)):=fun k hk hq=>by
  rcases hq with rfl | rfl | hq
  ·obtain ⟨D,⟨es,c,h1,_⟩,_⟩:=m13; exact ⟨es,c,h1⟩
  ·obtain ⟨D,⟨es,c,h1,_⟩,_⟩:=m23; exact ⟨es,c,h1⟩
  ·omega
 have I3:=Lib.hid i3
 have HBT:=Lib.hid hbt
 have HBF:=Lib.hid hbf
 have HM3:=Lib.hid hM3
 have HME:=Lib.hid hMe
 have c0:w3.cell? ⟨bn + 1 + 1,0,none⟩ = some (.slice pa ND pc):=i3.at (i:=0) rfl
 clear hperm hsort hp3 hch3 hlen3 hnot i3 m13 m23 hK3 hxs hxl hpk3 hsorts hbn hbm hbt hbf hMe HML HLL HRW HM1 HM2 HI HS5 hpW HD HND HB5
 go_wp2_with fail
 go_loopg [31] ND (fun gf s31 wx=>∃ k:Nat,s31 = .int .i64 k ∧ Hid (Blk.Chg (fun j=>j = bn ∨ j = bn + 1 ∨ M ≤ j) w3 wx) ∧ Hid (Gs wx M bm (gK xs k) (14 * k)) ∧ k ≤ ND ∧ ND ≤ k + gf)
 case atStart=>exact ⟨0,rfl,Lib.hid (Blk.Chg.refl _ _),GS0,by omega,by omega⟩
 case round =>
  obtain ⟨k,rfl,HC,HG,hkn,hfu⟩:=hrel
  have hir:Blk.Is wr (bn + 1 + 1) 88 #[.slice pa ND pc,.map (some bn),.map (some (bn + 1))]:=HC.out.is I3.out (by have:=HM3.out; omega)
  by_cases hlt:k < ND
  ·obtain ⟨g',rfl⟩:∃ g',gk = g' + 1:=⟨gk - 1,by omega⟩
   have hlt':(k:Int) < (ND:Int):=by omega
   have hk0:(0:Int) ≤ k:=by omega
   have hkl:k < xs.length:=by rw [HXL.out]; exact hlt
   have hKp:Kp w3 wr:=Kp.maps HC.out MAPS.out
   obtain ⟨_,a',cap',e1,_,hcells⟩:=HPK.out
   rw [HXL.out] at e1 hcells
   simp only [Value.slice.injEq,true_and] at e1
   obtain ⟨rfl,rfl⟩:=e1
   obtain ⟨kb,off,rfl,hcl2⟩:=hcells (by omega)
   obtain ⟨a1,n1,c1,a2,n2,c2,a3,n3,c3,a4,n4,c4,a5,n5,c5,a6,n6,c6,⟨x0,x1,x2,x3,x4,x5,x6,x7,x8⟩,hh⟩:=Rc.pk_read (hcl2 k hlt)
   rw [Nat.mul_comm 9 k] at x0 x1 x2 x3 x4 x5 x6 x7 x8
   have x0:=hKp _ _ x0
   have x1:=hKp _ _ x1
   have x2:=hKp _ _ x2
   have x3:=hKp _ _ x3
   have x4:=hKp _ _ x4
   have x5:=hKp _ _ x5
   have x6:=hKp _ _ x6
   have x7:=hKp _ _ x7
   have x8:=hKp _ _ x8
   obtain ⟨hmay,hlim⟩:=HX.out k hlt
   obtain ⟨x,hx⟩:∃ x,xs.getD k nPk = x:=⟨_,rfl⟩
   rw [hx] at x0 x1 x8 hh hmay hlim
   have HXE:=Lib.hid hx
   have hb2:=(Below.refl wr.heap.size wr).alloc (Nat.le_refl _) (.cells #[.string (S x.nm),.string (S x.vs),.slice a1 n1 c1,.slice a2 n2 c2,.slice a3 n3 c3,.slice a4 n4 c4,.slice a5 n5 c5,.slice a6 n6 c6,.bool x.ess] 40)
   have i2:=Blk.Is.new wr 40 #[.string (S x.nm),.string (S x.vs),.slice a1 n1 c1,.slice a2 n2 c2,.slice a3 n3 c3,.slice a4 n4 c4,.slice a5 n5 c5,.slice a6 n6 c6,.bool x.ess]
   obtain ⟨c7,hc7⟩:∃ c7,wr.heap.size = c7:=⟨_,rfl⟩
   have hMc:M ≤ c7:=by rw [← hc7]; exact HG.out.2.2.1
   obtain ⟨V,hV⟩:∃ V,wr.alloc (.cells #[.string (S x.nm),.string (S x.vs),.slice a1 n1 c1,.slice a2 n2 c2,.slice a3 n3 c3,.slice a4 n4 c4,.slice a5 n5 c5,.slice a6 n6 c6,.bool x.ess] 40) = V:=⟨_,rfl⟩
   rw [hV] at hb2 i2
   rw [hc7] at i2
   have HH3:=Lib.hid hh
   obtain ⟨sq,sqc,e6⟩:=hh.prv.shape
   have hn6:n6 = x.prv.length:=by simp only [Value.slice.injEq] at e6; exact e6.2.1
   have hCV:Blk.Chg (fun j=>j = bn ∨ j = bn + 1 ∨ M ≤ j) w3 V:=HC.out.trans (Blk.Chg.ofBelow' hb2)
   have HCV:=Lib.hid hCV
   have HGV:=Lib.hid (((HG.out.eq (gM_none xs k)).below hb2:Gs V M bm (gM xs k (fun _ _=>false)) (14 * k)))
   have HIV:=Lib.hid (Rl.is_on hir hb2)
   have HI2:=Lib.hid i2
   have HN6:=Lib.hid hn6
   have HMAY:=Lib.hid hmay
   have HLIM:=Lib.hid hlim
   have HMC:=Lib.hid hMc
   have hprv12:x.prv.length ≤ 12:=mayP_of hmay.prv
   rw [← hn6] at hprv12
   have LN:Hid (LimS x.nm):=hlim.nm
   have hu:=hV
   clear hcells hcl2 hx hb2 i2 e6 hCV hir HC HG hKp hmay hlim hn6 hMc hV hh hkl
   go_wp2_with fail
   clear hu x0 x1 x2 x3 x4 x5 x6 x7 x8
   -- its name,among the names
   have hbd:=(Below.refl V.heap.size V).drew
   have iv:=Rl.is_on HIV.out hbd
   have ib:=Rl.is_on HI2.out hbd
   have hg:=HGV.out.below hbd
   have hcv:=HCV.out.trans (Blk.Chg.ofBelow' hbd)
   have q0:=iv.at (i:=1) rfl
   have q1:=ib.at (i:=0) rfl
   go_still_tail 7,(by kernel_rfl)
   change wpList _ _ _ _ _ V.drew
   generalize V.drew = Vd at *
   have IV:=Lib.hid iv
   have IB:=Lib.hid ib
   have GV:=Lib.hid hg
   have CV:=Lib.hid hcv
   have ca:=add_any false x.nm k Vd hg (by omega) LN.out (by omega)
   rw [HBF.out] at ca
   clear hbd iv ib hg hcv HIV HI2 HGV HCV hc7
   go_wp2_with fail
   refine ca.mono ?_
   rintro e w4 ⟨rfl,hg4,hch4⟩
   clear ca q0 q1
   have hbox:∀ {T:TypeId} {cs:Array Value} {b:Nat},Blk.Is Vd b T cs → T ≠ 3 → b ≠ bn → Blk.Is w4 b T cs:=fun hi hT hb=>hch4.is hi (fun hs=>by
    rcases hs with hs | ⟨_,cs',hs⟩
    ·exact hb hs
    ·exact hT (hi.inj hs).1)
   have HM3':=HM3.out
   have HMC':=HMC.out
   have iv4:=hbox IV.out (by decide) (by omega)
   have ib4:=hbox IB.out (by decide) (by omega)
   have hcv4:Blk.Chg (fun j=>j = bn ∨ j = bn + 1 ∨ M ≤ j) w3 w4:=CV.out.trans (hch4.mono fun j _ hs=>by rcases hs with hs | hs; exact .inl hs; exact .inr (.inr hs.1))
   have hg4':=hg4.eq (fun m' y=>(gM_upd xs k _ false x.nm m' y).symm)
   have IV4:=Lib.hid iv4
   have IB4:=Lib.hid ib4
   have GV4:=Lib.hid hg4'
   have CV4:=Lib.hid hcv4
   clear hbox iv4 ib4 hcv4 hg4' hg4 hch4 IV IB GV CV
   go_wp2_with fail
   -- its name,among what stands
   have hbd:=(Below.refl w4.heap.size w4).drew
   have iv:=Rl.is_on IV4.out hbd
   have ib:=Rl.is_on IB4.out hbd
   have hg:=GV4.out.below hbd
   have hcv:=CV4.out.trans (Blk.Chg.ofBelow' hbd)
   have q0:=iv.at (i:=2) rfl
   have q1:=ib.at (i:=0) rfl
   go_still_tail 7,(by kernel_rfl)
   change wpList _ _ _ _ _ w4.drew
   generalize w4.drew = Vd at *
   have IV:=Lib.hid iv
   have IB:=Lib.hid ib
   have GV:=Lib.hid hg
   have CV:=Lib.hid hcv
   have ca:=add_any true x.nm k Vd hg (by omega) LN.out (by omega)
   rw [HBT.out] at ca
   clear hbd iv ib hg hcv IV4 IB4 GV4 CV4
   go_wp2_with fail
   refine ca.mono ?_
   rintro e w5 ⟨rfl,hg5,hch5⟩
   clear ca q0 q1
   have hbox:∀ {T:TypeId} {cs:Array Value} {b:Nat},Blk.Is Vd b T cs → T ≠ 3 → b ≠ bn + 1 → Blk.Is w5 b T cs:=fun hi hT hb=>hch5.is hi (fun hs=>by
    rcases hs with hs | ⟨_,cs',hs⟩
    ·exact hb hs
    ·exact hT (hi.inj hs).1)
   have ib5:=hbox IB.out (by decide) (by omega)
   have hcv5:Blk.Chg (fun j=>j = bn ∨ j = bn + 1 ∨ M ≤ j) w3 w5:=CV.out.trans (hch5.mono fun j _ hs=>by rcases hs with hs | hs; exact .inr (.inl hs); exact .inr (.inr hs.1))
   have hg5':Gs w5 M bm (gM xs k (cJ x 0)) (14 * k + 2):=hg5.eq (fun m' y=>by
    rw [gM_upd xs k _ true x.nm m' y]
    unfold gM
    rw [← cJ_zero x m' y])
   have q7:=ib5.at (i:=7) rfl
   have IB5:=Lib.hid ib5
   have GV5:=Lib.hid hg5'
   have CV5:=Lib.hid hcv5
   clear hbox ib5 hcv5 hg5' hg5 hch5 IV IB GV CV
   go_wp2_with fail
   clear q7
   rename World=>wo
   go_loopg [55] n6 (fun gf2 s55 wx=>∃ j:Nat,s55 = .int .i64 j ∧ Hid (Blk.Chg (fun j=>j = bn ∨ j = bn + 1 ∨ M ≤ j) w3 wx) ∧ Hid (Gs wx M bm (gM xs k (cJ x j)) (14 * k + 2 + j)) ∧ Hid (Blk.Is wx c7 40 #[.string (S x.nm),.string (S x.vs),.slice a1 n1 c1,.slice a2 n2 c2,.slice a3 n3 c3,.slice a4 n4 c4,.slice a5 n5 c5,.slice a6 n6 c6,.bool x.ess]) ∧ j ≤ n6 ∧ n6 ≤ j + gf2)
   case atStart=>exact ⟨0,rfl,CV5,GV5,IB5,by omega,by omega⟩
   case round =>
    obtain ⟨j,rfl,HC,HG,HB,hjn,hfu2⟩:=hrel
    by_cases hlj:j < n6
    ·obtain ⟨g2,rfl⟩:∃ g2,gk = g2 + 1:=⟨gk - 1,by omega⟩
     have hlj':(j:Int) < (n6:Int):=by omega
     have hj0:(0:Int) ≤ j:=by omega
     have hKp:Kp w3 wr:=Kp.maps HC.out MAPS.out
     obtain ⟨_,a',cap',e1,_,hcells⟩:=hKp.pvs HH3.out.prv
     rw [← HN6.out] at e1 hcells
     simp only [Value.slice.injEq,true_and] at e1
     obtain ⟨rfl,rfl⟩:=e1
     obtain ⟨kb2,off2,rfl,hcl2⟩:=hcells (by omega)
     obtain ⟨y0,y1⟩:=hcl2 j hlj
     rw [Nat.mul_comm 2 j] at y0 y1
     have hjl:j < x.prv.length:=by rw [← HN6.out]; exact hlj
     obtain ⟨v,hv⟩:∃ v,x.prv.getD j nP = v:=⟨_,rfl⟩
     have hvm:x.prv[j]? = some v:=by rw [← hv]; exact Rl.at_getD hjl
     have LV:Hid (LimS v.1):=(HLIM.out.prv v (List.mem_of_getElem? hvm)).1
     have HVM:=Lib.hid hvm
     rw [hv] at y0 y1
     have hb2:=(Below.refl wr.heap.size wr).alloc (Nat.le_refl _) (.cells #[.string (S v.1),.string (S v.2)] 101)
     have i2:=Blk.Is.new wr 101 #[.string (S v.1),.string (S v.2)]
     obtain ⟨c9,hc9⟩:∃ c9,wr.heap.size = c9:=⟨_,rfl⟩
     obtain ⟨V2,hV2⟩:∃ V2,wr.alloc (.cells #[.string (S v.1),.string (S v.2)] 101) = V2:=⟨_,rfl⟩
     have hMc9:M ≤ c9:=by rw [← hc9]; exact HG.out.2.2.1
     have hir:Blk.Is wr (bn + 1 + 1) 88 #[.slice (some ⟨kb,off,none⟩) ND pc,.map (some bn),.map (some (bn + 1))]:=HC.out.is I3.out (by have:=HM3.out; omega)
     rw [hV2] at hb2 i2
     rw [hc9] at i2
     have HIV:=Lib.hid (Rl.is_on hir hb2)
     have HI2:=Lib.hid i2
     have HBX:=Lib.hid (Rl.is_on HB.out hb2)
     have HGV:=Lib.hid (HG.out.below hb2)
     have HCV:=Lib.hid (HC.out.trans (Blk.Chg.ofBelow' hb2))
     have hu:=hV2
     clear hcells hcl2 hv hvm hb2 i2 hV2 hir HC HG HB hKp hjl
     go_wp2_with fail
     clear hu y0 y1
     have hbd:=(Below.refl V2.heap.size V2).drew
     have iv:=Rl.is_on HIV.out hbd
     have ib:=Rl.is_on HI2.out hbd
     have ix:=Rl.is_on HBX.out hbd
     have hg:=HGV.out.below hbd
     have hcv:=HCV.out.trans (Blk.Chg.ofBelow' hbd)
     have q0:=iv.at (i:=2) rfl
     have q1:=ib.at (i:=0) rfl
     go_still_tail 7,(by kernel_rfl)
     change wpList _ _ _ _ _ V2.drew
     generalize V2.drew = Vd2 at *
     have GV:=Lib.hid hg
     have CV:=Lib.hid hcv
     have BX:=Lib.hid ix
     have ca:=add_any true v.1 k Vd2 hg (by omega) LV.out (by omega)
     rw [HBT.out] at ca
     clear hbd iv ib ix hg hcv HIV HI2 HGV HCV HBX hc9
     go_wp2_with fail
     refine ca.mono ?_
     rintro e w6 ⟨rfl,hg6,hch6⟩
     clear ca q0 q1
     have hmc:=HMC.out
     have hm3:=HM3.out
     have ix6:=hch6.is BX.out (fun hs=>by
      rcases hs with hs | ⟨_,cs',hs⟩
      ·omega
      ·exact absurd (BX.out.inj hs).1 (by decide))
     have hcv6:Blk.Chg (fun j=>j = bn ∨ j = bn + 1 ∨ M ≤ j) w3 w6:=CV.out.trans (hch6.mono fun j _ hs=>by rcases hs with hs | hs; exact .inr (.inl hs); exact .inr (.inr hs.1))
     have hg6':Gs w6 M bm (gM xs k (cJ x (j + 1))) (14 * k + 2 + (j + 1)):=hg6.eq (fun m' y=>by
      rw [gM_upd xs k _ true v.1 m' y]
      unfold gM
      rw [← cJ_succ x j v HVM.out m' y])
     have IX6:=Lib.hid ix6
     have GV6:=Lib.hid hg6'
     have CV6:=Lib.hid hcv6
     clear ix6 hcv6 hg6' hg6 hch6 GV CV BX hmc hm3
     go_wp2_with fail
     go_roundg g2
     case measure=>omega
     case rel=>exact ⟨j + 1,by go_num,CV6,GV6,IX6,by omega,by omega⟩
    ·have hge:¬ (j:Int) < (n6:Int):=by omega
     obtain rfl:j = n6:=by omega
     have hgN:Gs wr M bm (gK xs (k + 1)) (14 * (k + 1)):=by
      refine (HG.out.mono (n':=14 * (k + 1)) (by omega)).eq fun m' y=>?_
      rw [← gM_all xs k (cJ x j) (fun m'' y'=>by rw [HN6.out,← HXE.out]; exact cJ_all xs k m'' y') m' y]
     have GN:=Lib.hid hgN
     clear hgN HG HB
     go_wp2_with fail
     go_roundg g'
     case measure=>omega
     case rel=>exact ⟨k + 1,by go_num,HC,GN,by omega,by omega⟩
  ·have hge:¬ (k:Int) < (ND:Int):=by omega
   obtain rfl:k = ND:=by omega
   have hfin:Idx wr (bn + 1 + 1) xs:=by
    have h1:=HG.out.rd (by omega) false
    have h2:=HG.out.rd (by omega) true
    rw [HBF.out] at h1
    rw [HBT.out] at h2
    exact ⟨_,bn,bn + 1,hir,(Kp.maps HC.out MAPS.out).pks HPK.out,by rw [HXL.out]; exact h1,by rw [HXL.out]; exact h2⟩
   have hbN:Below w.heap.size w wr:=HK3.out.trans (HC.out.below (B:=w.heap.size) (fun j hj=>by have:=HWB.out; have:=HM3.out; omega) HK3.out.size)
   have FI:=Lib.hid hfin
   have BN:=Lib.hid hbN
   clear hfin hbN hir HC HG
   go_wp2_with fail
   go_ret2
   exact ⟨_,rfl,xs,HSO.out,FI.out,BN.out⟩
end Ix
end Go.Proofs.YtmhpjjjjgakpiaaGreatDoor

/-
The reference's Whole.
-/
import Derived.Test.YtgpcilepkmckeaaGreatDoorEStaWholeW
namespace Go.Proofs.YtgpcilepkmckeaaGreatDoor
open Go.RowKit
set_option linter.unusedSimpArgs false
set_option linter.unusedVariables false
namespace Sa
open Ver (Bs S S_li S_size orr sgn)
open Rl (At Pv Vars isV mem_getD Slc)
open Rc (Pk nPk Pks PkC pk_read En nEn Ens EnC Has infoEn en_read append_big)
theorem own_elsewhere {w:World} {B:Nat} {e:TypeId} {sz:Nat} {v:Value} {n:Nat} {xs:List Value} (h:w.ownsRow B e sz v n xs) (b i:Nat) (u:Value) (hne:v.ownBlock ≠ some b):(w.setCell ⟨b,i,none⟩ u).ownsRow B e sz v n xs:=by
 obtain ⟨h1,h2⟩:=h
 refine ⟨h1,?_⟩
 rcases h2 with h2 | ⟨g,cap,cur,rfl,h3,h4,h5⟩
 ·exact Or.inl h2
 ·exact Or.inr ⟨g,cap,cur,rfl,h3,(heap_setCell_other w ⟨b,i,none⟩ g u (fun e=>hne (by rw [show g = b from e]; rfl))).trans h4,h5⟩
set_option maxRecDepth 100000 in
set_option maxHeartbeats 8000000 in
theorem ywhole_any (v vs:Value) (l:List Pk) (s:List En) (w:World) (h:Pks w v l) (hs:Ens w vs s) (hl:l.length < 40) :
  Calls Tryz.prog 18 #[v,vs] w fun e w'=>∃ v',e = .returned v' ∧ Ens w' v' (insAllE (wholeE l s) []) ∧ Below w.heap.size w w':=by
 obtain ⟨sa,cap,rfl⟩:=h.shape
 obtain ⟨ta,tcap,rfl⟩:=hs.shape
 obtain ⟨M,hM⟩:∃ M,s.length = M:=⟨_,rfl⟩
 have HM:=Lib.hid hM
 have HS:=Lib.hid (show Ens w (.slice ta M tcap) s by rw [← hM]; exact hs)
 have H:=Lib.hid h
 obtain ⟨n,hn⟩:∃ n,l.length = n:=⟨_,rfl⟩
 have HN:=Lib.hid hn
 rw [hn] at hl
 rw [hn,hM]
 clear hn h hs hM
 go_enter Tryz.func18,Tryz.ntmps18
 go_wp2_with fail
 go_loopg [5,12] n (fun gf s5 s12 wx=>∃ (k:Nat) (na:Option Addr) (nc:Nat) (ds:List Ee),s5 = .slice na k nc ∧ s12 = .int .i64 k ∧ Hid (wx.ownsRow w.heap.size 45 11 (.slice na k nc) k (ds.flatMap Ee.enc)) ∧ Hid (ds.length = k ∧ ds.map Ee.en = wholeE (l.take k) s ∧ ∀ x ∈ ds,x.Is w) ∧ Hid (Below w.heap.size w wx) ∧ k ≤ n ∧ n ≤ k + gf)
 case atStart=>exact ⟨0,none,0,[],rfl,rfl,Lib.hid (World.ownsRow_nil _ _ _ _),Lib.hid ⟨rfl,rfl,fun x hx=>by cases hx⟩,Lib.hid (Below.refl _ _),by omega,by omega⟩
 case round =>
  obtain ⟨k,na,nc,ds,rfl,rfl,HO,HD,HB,hkn,hfu⟩:=hrel
  by_cases hlt:k < n
  ·obtain ⟨g',rfl⟩:∃ g',gk = g' + 1:=⟨gk - 1,by omega⟩
   have hlt':(k:Int) < (n:Int):=by omega
   have hk0:(0:Int) ≤ k:=by omega
   have hkl:k < l.length:=by rw [HN.out]; exact hlt
   obtain ⟨_,a',cap',e1,_,hcells⟩:=H.out
   rw [HN.out] at e1
   simp only [Value.slice.injEq,true_and] at e1
   obtain ⟨rfl,rfl⟩:=e1
   obtain ⟨kb,off,rfl,hcl2⟩:=hcells (by omega)
   obtain ⟨a1,n1,c1,a2,n2,c2,a3,n3,c3,a4,n4,c4,a5,n5,c5,a6,n6,c6,⟨x0,x1,x2,x3,x4,x5,x6,x7,x8⟩,hh⟩:=pk_read (hcl2 k hkl)
   rw [Nat.mul_comm 9 k] at x0 x1 x2 x3 x4 x5 x6 x7 x8
   replace x0:=Rl.cell_on x0 HB.out
   replace x1:=Rl.cell_on x1 HB.out
   replace x2:=Rl.cell_on x2 HB.out
   replace x3:=Rl.cell_on x3 HB.out
   replace x4:=Rl.cell_on x4 HB.out
   replace x5:=Rl.cell_on x5 HB.out
   replace x6:=Rl.cell_on x6 HB.out
   replace x7:=Rl.cell_on x7 HB.out
   replace x8:=Rl.cell_on x8 HB.out
   have htk:=take_snoc (z:=nPk) hkl
   obtain ⟨x,hx⟩:∃ x,l.getD k nPk = x:=⟨_,rfl⟩
   rw [hx] at x0 x1 x8 hh htk
   have HTK:=Lib.hid htk
   have HH:=Lib.hid hh
   have hb2:=(Below.refl wr.heap.size wr).alloc (Nat.le_refl _) (.cells #[.string (S x.nm),.string (S x.vs),.slice a1 n1 c1,.slice a2 n2 c2,.slice a3 n3 c3,.slice a4 n4 c4,.slice a5 n5 c5,.slice a6 n6 c6,.bool x.ess] 40)
   have i2:=Blk.Is.new wr 40 #[.string (S x.nm),.string (S x.vs),.slice a1 n1 c1,.slice a2 n2 c2,.slice a3 n3 c3,.slice a4 n4 c4,.slice a5 n5 c5,.slice a6 n6 c6,.bool x.ess]
   obtain ⟨bx,hbx⟩:∃ bx,wr.heap.size = bx:=⟨_,rfl⟩
   obtain ⟨V,hV⟩:∃ V,wr.alloc (.cells #[.string (S x.nm),.string (S x.vs),.slice a1 n1 c1,.slice a2 n2 c2,.slice a3 n3 c3,.slice a4 n4 c4,.slice a5 n5 c5,.slice a6 n6 c6,.bool x.ess] 40) = V:=⟨_,rfl⟩
   rw [hV] at hb2 i2
   rw [hbx] at i2
   have o2:=Own.owns_below HO.out hb2
   have b2:=HB.out.trans (hb2.mono HB.out.size)
   have z0:=i2.at (i:=0) rfl
   have z1:=i2.at (i:=1) rfl
   have z2:=i2.at (i:=2) rfl
   have z3:=i2.at (i:=3) rfl
   have z4:=i2.at (i:=4) rfl
   have z5:=i2.at (i:=5) rfl
   have z6:=i2.at (i:=6) rfl
   have z7:=i2.at (i:=7) rfl
   have z8:=i2.at (i:=8) rfl
   have hbA:=(Below.refl V.heap.size V).alloc (Nat.le_refl _) (.cells #[.string (S x.nm),.string (S x.vs),.slice a1 n1 c1,.slice a2 n2 c2,.slice a3 n3 c3,.slice a4 n4 c4,.slice a5 n5 c5,.slice a6 n6 c6,.bool x.ess,.bool true,.bool false] 45)
   have iA:=Blk.Is.new V 45 #[.string (S x.nm),.string (S x.vs),.slice a1 n1 c1,.slice a2 n2 c2,.slice a3 n3 c3,.slice a4 n4 c4,.slice a5 n5 c5,.slice a6 n6 c6,.bool x.ess,.bool true,.bool false]
   obtain ⟨bA,hbAe⟩:∃ bA,V.heap.size = bA:=⟨_,rfl⟩
   obtain ⟨WA,hWA⟩:∃ WA,V.alloc (.cells #[.string (S x.nm),.string (S x.vs),.slice a1 n1 c1,.slice a2 n2 c2,.slice a3 n3 c3,.slice a4 n4 c4,.slice a5 n5 c5,.slice a6 n6 c6,.bool x.ess,.bool true,.bool false] 45) = WA:=⟨_,rfl⟩
   rw [hWA] at hbA iA
   rw [hbAe] at iA
   have O2:=Lib.hid (Own.owns_below o2 hbA)
   have HB2:=Lib.hid (b2.trans (hbA.mono b2.size))
   have HIA:=Lib.hid iA
   have z0A:=(Rl.is_on i2 hbA).at (i:=0) rfl
   have hA0:w.heap.size ≤ bA:=by rw [← hbAe]; exact b2.size
   have HA0:=Lib.hid hA0
   have HNE:Hid ((Value.slice na k nc).ownBlock ≠ some bA):=Lib.hid fun e=>by
    have:=(Rl.own_lt HO.out e).2
    have:=hb2.size
    omega
   have hu:=hV
   have cf:=yfind_any (.slice ta M tcap) s x.nm WA (HS.out.below HB2.out)
   obtain ⟨F,hFd⟩:∃ F,fnd s x.nm = F:=⟨_,rfl⟩
   have HFD:=Lib.hid hFd
   rw [hFd] at cf
   have HWA0:=Lib.hid hWA
   clear hcells hcl2 hkl htk hx hb2 i2 hV hh HO HB o2 b2 hbA iA hWA hA0 hFd
   cases F with
   | none =>
    go_upto_region 6 with fail
    rw [HWA0.out]
    go_wp2_with fail
    refine cf.mono ?_
    rintro e w1 ⟨rfl,k1⟩
    have OW:=Lib.hid (Own.owns_below O2.out k1)
    have BW:=Lib.hid (HB2.out.trans (k1.mono HB2.out.size))
    have IS:=Lib.hid (Rl.is_on HIA.out k1)
    clear cf hu k1 x0 x1 x2 x3 x4 x5 x6 x7 x8 z0 z1 z2 z3 z4 z5 z6 z7 z8 z0A O2 HB2 hbx hbAe
    have y0:=IS.out.at (i:=0) rfl
    have y1:=IS.out.at (i:=1) rfl
    have y2:=IS.out.at (i:=2) rfl
    have y3:=IS.out.at (i:=3) rfl
    have y4:=IS.out.at (i:=4) rfl
    have y5:=IS.out.at (i:=5) rfl
    have y6:=IS.out.at (i:=6) rfl
    have y7:=IS.out.at (i:=7) rfl
    have y8:=IS.out.at (i:=8) rfl
    have y9:=IS.out.at (i:=9) rfl
    have y10:=IS.out.at (i:=10) rfl
    have hbB:=(Below.refl w1.heap.size w1).alloc (Nat.le_refl _) (.cells #[.string (S x.nm),.string (S x.vs),.slice a1 n1 c1,.slice a2 n2 c2,.slice a3 n3 c3,.slice a4 n4 c4,.slice a5 n5 c5,.slice a6 n6 c6,.bool x.ess,.bool true,.bool false] 45)
    have iB:=Blk.Is.new w1 45 #[.string (S x.nm),.string (S x.vs),.slice a1 n1 c1,.slice a2 n2 c2,.slice a3 n3 c3,.slice a4 n4 c4,.slice a5 n5 c5,.slice a6 n6 c6,.bool x.ess,.bool true,.bool false]
    obtain ⟨WB,hWB⟩:∃ WB,w1.alloc (.cells #[.string (S x.nm),.string (S x.vs),.slice a1 n1 c1,.slice a2 n2 c2,.slice a3 n3 c3,.slice a4 n4 c4,.slice a5 n5 c5,.slice a6 n6 c6,.bool x.ess,.bool true,.bool false] 45) = WB:=⟨_,rfl⟩
    rw [hWB] at hbB iB
    have OA:=Lib.hid (Own.owns_below OW.out hbB)
    have BA:=Lib.hid (BW.out.trans (hbB.mono BW.out.size))
    have HCA:=Lib.hid iB
    have HWA:=Lib.hid hWB
    have ZA:=Lib.hid BA.out.size
    have K1:Hid ((k + 1) * 192 ≤ 140737488355328):=Lib.hid (by omega)
    have K2:Hid (k + 1 ≤ 4611686018427387904):=Lib.hid (by omega)
    clear hbB iB hWB OW BW
    go_wp2_with (at_builtin; rw [HWA.out]; refine append_big Tryz.underlying26 infoEn rfl rfl (.tmp 30) (.tmp 32) rfl w.heap.size (.slice na k nc) k rfl ⟨_,OA.out⟩ w1.heap.size 1 rfl [.string (S x.nm),.string (S x.vs),.slice a1 n1 c1,.slice a2 n2 c2,.slice a3 n3 c3,.slice a4 n4 c4,.slice a5 n5 c5,.slice a6 n6 c6,.bool x.ess,.bool true,.bool false] rfl (fun j u hj=>HCA.out.at (by rw [← Array.getElem?_toList]; exact hj)) (fun u hu=>by simp only [List.mem_cons,List.not_mem_nil,or_false] at hu; rcases hu with rfl | rfl | rfl | rfl | rfl | rfl | rfl | rfl | rfl | rfl | rfl <;> rfl) K1.out K2.out ZA.out ?_; intro v9 w9 h9 g9 _; have h9:=h9 _ OA.out; have b9:=Own.below_grown BA.out OA.out g9 ZA.out; obtain ⟨a9,r9,rfl,_⟩:=Rl.own_shape h9; have O9:=Lib.hid h9; have B9:=Lib.hid b9; clear h9 g9 b9)
    go_roundg g'
    case measure=>omega
    case rel =>
     refine ⟨k + 1,a9,r9,ds ++ [eeOf x a1 n1 c1 a2 n2 c2 a3 n3 c3 a4 n4 c4 a5 n5 c5 a6 n6 c6 true false],rfl,by go_num,Lib.hid ?_,Lib.hid ⟨by rw [List.length_append,HD.out.1]; rfl,?_,fun y hy=>?_⟩,B9,by omega,by omega⟩
     ·rw [List.flatMap_append]
      exact O9.out
     ·rw [List.map_append,HD.out.2.1,HTK.out]
      unfold wholeE conf
      rw [List.map_append,List.map_append]
      have e:holdOf s x.nm = false:=by unfold holdOf; rw [HFD.out]
      show _ = _ ++ [(⟨x,true,holdOf s x.nm⟩:En)]
      rw [e]; rfl
     ·rcases List.mem_append.1 hy with hy | hy
      ·exact HD.out.2.2 y hy
      ·rw [List.mem_singleton.1 hy]
       exact HH.out

   | some q =>
    have hqM:q < s.length:=fnd_lt HFD.out
    have hqm:(q:Int) < (M:Int):=by have:=HM.out; omega
    have hq0:(0:Int) ≤ q:=by omega
    have hqg:(q:Int) ≥ 0:=hq0
    have HQ:=Lib.hid hqM
    go_upto_region 6 with fail
    rw [HWA0.out]
    go_wp2_with fail
    refine cf.mono ?_
    rintro e w1 ⟨rfl,k1⟩
    have O:=Lib.hid (Own.owns_below O2.out k1)
    have B:=Lib.hid (HB2.out.trans (k1.mono HB2.out.size))
    have I1:=Rl.is_on HIA.out k1
    clear cf hu k1 x0 x1 x2 x3 x4 x5 x6 x7 x8 z0 z1 z2 z3 z4 z5 z6 z7 z8 z0A O2 HB2 hbx hbAe
    obtain ⟨_,a',cap',e1,_,hcells⟩:=HS.out.below B.out
    rw [HM.out] at e1
    simp only [Value.slice.injEq,true_and] at e1
    obtain ⟨rfl,rfl⟩:=e1
    obtain ⟨kq,oq,rfl,hcl2⟩:=hcells (by omega)
    obtain ⟨_,_,_,_,_,_,_,_,_,_,_,_,_,_,_,_,_,_,⟨_,_,_,_,_,_,_,_,_,_,p10⟩,_⟩:=en_read (hcl2 q HQ.out)
    rw [Nat.mul_comm 11 q] at p10
    obtain ⟨b,hb⟩:∃ b,(s.getD q nEn).hld = b:=⟨_,rfl⟩
    rw [hb] at p10
    have HBB:=Lib.hid hb
    have hc:=I1.at (i:=10) rfl
    have hf:=I1.free 10
    have hi:=I1.set 10 (.bool b)
    have hbs:=B.out.setCell (p:=⟨bA,10,none⟩) HA0.out (.bool b)
    have hos:=own_elsewhere O.out bA 10 (.bool b) HNE.out
    obtain ⟨WS,hWS⟩:∃ W',w1.setCell ⟨bA,10,none⟩ (.bool b) = W':=⟨_,rfl⟩
    rw [hWS] at hi hbs hos
    have OW:=Lib.hid hos
    have BW:=Lib.hid hbs
    have IS:Hid (Blk.Is WS bA 45 #[.string (S x.nm),.string (S x.vs),.slice a1 n1 c1,.slice a2 n2 c2,.slice a3 n3 c3,.slice a4 n4 c4,.slice a5 n5 c5,.slice a6 n6 c6,.bool x.ess,.bool true,.bool b]):=Lib.hid hi
    have hu:=hWS
    clear hcells hcl2 hb hi hbs hos hWS I1 O B
    go_upto_region 9 with fail
    clear hu hc hf p10
    have y0:=IS.out.at (i:=0) rfl
    have y1:=IS.out.at (i:=1) rfl
    have y2:=IS.out.at (i:=2) rfl
    have y3:=IS.out.at (i:=3) rfl
    have y4:=IS.out.at (i:=4) rfl
    have y5:=IS.out.at (i:=5) rfl
    have y6:=IS.out.at (i:=6) rfl
    have y7:=IS.out.at (i:=7) rfl
    have y8:=IS.out.at (i:=8) rfl
    have y9:=IS.out.at (i:=9) rfl
    have y10:=IS.out.at (i:=10) rfl
    have hbB:=(Below.refl WS.heap.size WS).alloc (Nat.le_refl _) (.cells #[.string (S x.nm),.string (S x.vs),.slice a1 n1 c1,.slice a2 n2 c2,.slice a3 n3 c3,.slice a4 n4 c4,.slice a5 n5 c5,.slice a6 n6 c6,.bool x.ess,.bool true,.bool b] 45)
    have iB:=Blk.Is.new WS 45 #[.string (S x.nm),.string (S x.vs),.slice a1 n1 c1,.slice a2 n2 c2,.slice a3 n3 c3,.slice a4 n4 c4,.slice a5 n5 c5,.slice a6 n6 c6,.bool x.ess,.bool true,.bool b]
    obtain ⟨WB,hWB⟩:∃ WB,WS.alloc (.cells #[.string (S x.nm),.string (S x.vs),.slice a1 n1 c1,.slice a2 n2 c2,.slice a3 n3 c3,.slice a4 n4 c4,.slice a5 n5 c5,.slice a6 n6 c6,.bool x.ess,.bool true,.bool b] 45) = WB:=⟨_,rfl⟩
    rw [hWB] at hbB iB
    have OA:=Lib.hid (Own.owns_below OW.out hbB)
    have BA:=Lib.hid (BW.out.trans (hbB.mono BW.out.size))
    have HCA:=Lib.hid iB
    have HWA:=Lib.hid hWB
    have ZA:=Lib.hid BA.out.size
    have K1:Hid ((k + 1) * 192 ≤ 140737488355328):=Lib.hid (by omega)
    have K2:Hid (k + 1 ≤ 4611686018427387904):=Lib.hid (by omega)
    clear hbB iB hWB OW BW
    go_wp2_with (at_builtin; rw [HWA.out]; refine append_big Tryz.underlying26 infoEn rfl rfl (.tmp 30) (.tmp 32) rfl w.heap.size (.slice na k nc) k rfl ⟨_,OA.out⟩ WS.heap.size 1 rfl [.string (S x.nm),.string (S x.vs),.slice a1 n1 c1,.slice a2 n2 c2,.slice a3 n3 c3,.slice a4 n4 c4,.slice a5 n5 c5,.slice a6 n6 c6,.bool x.ess,.bool true,.bool b] rfl (fun j u hj=>HCA.out.at (by rw [← Array.getElem?_toList]; exact hj)) (fun u hu=>by simp only [List.mem_cons,List.not_mem_nil,or_false] at hu; rcases hu with rfl | rfl | rfl | rfl | rfl | rfl | rfl | rfl | rfl | rfl | rfl <;> rfl) K1.out K2.out ZA.out ?_; intro v9 w9 h9 g9 _; have h9:=h9 _ OA.out; have b9:=Own.below_grown BA.out OA.out g9 ZA.out; obtain ⟨a9,r9,rfl,_⟩:=Rl.own_shape h9; have O9:=Lib.hid h9; have B9:=Lib.hid b9; clear h9 g9 b9)
    go_roundg g'
    case measure=>omega
    case rel =>
     refine ⟨k + 1,a9,r9,ds ++ [eeOf x a1 n1 c1 a2 n2 c2 a3 n3 c3 a4 n4 c4 a5 n5 c5 a6 n6 c6 true b],rfl,by go_num,Lib.hid ?_,Lib.hid ⟨by rw [List.length_append,HD.out.1]; rfl,?_,fun y hy=>?_⟩,B9,by omega,by omega⟩
     ·rw [List.flatMap_append]
      exact O9.out
     ·rw [List.map_append,HD.out.2.1,HTK.out]
      unfold wholeE conf
      rw [List.map_append,List.map_append]
      have e:holdOf s x.nm = b:=by unfold holdOf; rw [HFD.out]; exact HBB.out
      show _ = _ ++ [(⟨x,true,holdOf s x.nm⟩:En)]
      rw [e]; rfl
     ·rcases List.mem_append.1 hy with hy | hy
      ·exact HD.out.2.2 y hy
      ·rw [List.mem_singleton.1 hy]
       exact HH.out

  ·obtain rfl:n = k:=by omega
   have hge:¬ (n:Int) < (n:Int):=by omega
   have hcf:ds.map Ee.en = wholeE l s:=by rw [HD.out.2.1,List.take_of_length_le (Nat.le_of_eq HN.out)]
   have hen:=own_ees HO.out HD.out.1 (fun x hx=>(HD.out.2.2 x hx).below HB.out) (by omega)
   rw [hcf] at hen
   have hlen:(wholeE l s).length ≤ 60000:=by unfold wholeE conf; rw [List.length_map,List.length_map,HN.out]; omega
   have cs:=ysortedE_any (.slice na n nc) (wholeE l s) wr hen hlen
   clear hcf hen hlen HO HD
   go_wp2_with fail
   refine cs.mono ?_
   rintro e w2 ⟨v2,rfl,he,hb⟩
   have HE:=Lib.hid he
   have HBF:=Lib.hid (HB.out.trans (hb.mono HB.out.size))
   clear cs he hb HB
   go_wp2_with fail
   go_ret
   exact ⟨_,rfl,HE.out,HBF.out⟩
end Sa
end Go.Proofs.YtgpcilepkmckeaaGreatDoor

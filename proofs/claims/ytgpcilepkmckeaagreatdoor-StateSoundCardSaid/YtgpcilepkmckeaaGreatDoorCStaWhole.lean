/-
isWhole: each may be, each name stands once; configured: packages as entries.
-/
import Derived.Test.YtgpcilepkmckeaaGreatDoorCStaVis
import Derived.Test.YtgpcilepkmckeaaGreatDoorCRecMay3
import Derived.Test.YtgpcilepkmckeaaGreatDoorCRecBare
import Derived.Test.YtgpcilepkmckeaaGreatDoorCRecMem
import Derived.Test.YtgpcilepkmckeaaGreatDoorShelf
import Derived.Shelf.Slices.CompactS
namespace Go.Proofs.YtgpcilepkmckeaaGreatDoor
open Go.RowKit
set_option linter.unusedSimpArgs false
set_option linter.unusedVariables false
namespace Sa
open Ver (Bs li li_len S S_self S_size S_li)
open Rl (At Pv Ats Pvs Clss Slc LimA LimP LimC Vars aV nA mem_getD tcells)
open Rc (Pk nPk PkV PkC Has En nEn Ens EnC CAt Pks pk_read mayK append_big infoEn)
/-! ### names sorted,and each once -/
def srt (ns:List Bs):List Bs:=ns.mergeSort fun x y=>decide (x ≤ y)
theorem srt_perm (ns:List Bs):(srt ns).Perm ns:=List.mergeSort_perm _ _
theorem srt_pair (ns:List Bs):(srt ns).Pairwise fun x y=>x ≤ y:=by
 have tr:∀ a b c:Bs,decide (a ≤ b) = true → decide (b ≤ c) = true → decide (a ≤ c) = true:=fun a b c h1 h2=>by simp only [decide_eq_true_eq] at *; exact List.le_trans h1 h2
 have tt:∀ a b:Bs,(decide (a ≤ b) || decide (b ≤ a)) = true:=fun a b=>by simp only [Bool.or_eq_true,decide_eq_true_eq]; exact List.le_total a b
 exact (List.pairwise_mergeSort tr tt ns).imp fun h=>by simpa using h
theorem getB {ns:List Bs} {j:Nat} (hj:j < ns.length):ns.toArray[j]! = ns[j]:=by
 rw [getElem!_pos ns.toArray j (by simpa using hj)]; simp
theorem compact_len (ns:List Bs):(Lib.compact (srt ns)).length = ns.length ↔ ns.Nodup:=by
 have hl:(srt ns).length = ns.length:=(srt_perm ns).length_eq
 have hP:=srt_pair ns
 constructor
 ·intro h
  have hk:∀ j,j < (srt ns).length → Lib.keeps (srt ns).toArray j = true:=by
   intro j hj
   unfold Lib.compact Lib.compactUpTo at h
   rw [List.length_map,← hl] at h
   have h2:((List.range (srt ns).length).filter (Lib.keeps (srt ns).toArray)).length = (List.range (srt ns).length).length:=by rw [h,List.length_range]
   exact (List.length_filter_eq_length_iff.1 h2) j (List.mem_range.2 hj)
  refine (srt_perm ns).nodup_iff.1 ?_
  unfold List.Nodup
  rw [List.pairwise_iff_getElem] at hP ⊢
  intro i j hi hj hij e
  have k1:=hk (i + 1) (by omega)
  unfold Lib.keeps at k1
  rw [decide_eq_true_eq] at k1
  rcases k1 with k1 | k1
  ·omega
  ·refine k1 ?_
   rw [getB (show i + 1 < (srt ns).length by omega),Nat.add_sub_cancel,getB hi]
   have l1:=hP i (i + 1) hi (by omega) (by omega)
   by_cases e2:i + 1 = j
   ·subst e2; exact e.symm
   ·have l2:=hP (i + 1) j (by omega) hj (by omega)
    rw [← e] at l2
    exact List.le_antisymm l2 l1
 ·intro h
  have hn:(srt ns).Nodup:=(srt_perm ns).nodup_iff.2 h
  rw [Lib.compact_all (srt ns),hl]
  intro j hj
  unfold Lib.keeps
  rw [decide_eq_true_eq]
  by_cases h0:j = 0
  ·exact .inl h0
  ·refine .inr ?_
   rw [getB hj,getB (show j - 1 < (srt ns).length by omega)]
   unfold List.Nodup at hn
   rw [List.pairwise_iff_getElem] at hn
   exact fun e=>hn (j - 1) j (by omega) hj (by omega) e.symm
theorem put_chg (enc:Bs → Value) (w:World) (R q:Nat) (d:Array Bs) (os:Array Obj):Blk.Chg (fun k=>k = R) w (Sort.grow (Sort.putRow enc (Sort.ahead w q) R 0 d) os):=by
 unfold Sort.putRow
 refine ⟨rfl,rfl,rfl,?_,fun k hk hn=>?_⟩
 ·rw [Sort.size_grow]
  simp [Sort.mapBlock,Sort.ahead]
 ·rw [Sort.heap_grow_old _ _ (by simpa [Sort.mapBlock,Sort.ahead] using hk)]
  simp only [Sort.mapBlock,Sort.ahead,Array.getElem?_modify]
  rw [if_neg (fun e=>hn e.symm)]
theorem put_chg0 (enc:Bs → Value) (w:World) (R q:Nat) (d:Array Bs):Blk.Chg (fun k=>k = R) w (Sort.putRow enc (Sort.ahead w q) R 0 d):=by
 have:=put_chg enc w R q d #[]
 rwa [show Sort.grow (Sort.putRow enc (Sort.ahead w q) R 0 d) #[] = Sort.putRow enc (Sort.ahead w q) R 0 d from Sort.grow_empty _] at this
theorem holds_own {w:World} {B R cap:Nat} {ns:List Bs} (h:w.ownsRow B 9 1 (.slice (some ⟨R,0,none⟩) ns.length cap) ns.length (tcells ns)):Sort.Holds encStr w R 0 ns.toArray:=by
 intro j hj
 have hj':j < ns.length:=by simpa using hj
 rw [Nat.zero_add,getB hj']
 refine ⟨Rl.own_cell h ?_,Rl.own_free h j⟩
 unfold tcells
 rw [List.getElem?_map,List.getElem?_map,List.getElem?_eq_getElem hj']
 rfl
def whB (l:List Pk):Bool:=(l.all fun p=>decide (mayK p = 0)) && decide (l.map Pk.nm).Nodup
theorem whB_iff {l:List Pk}:whB l = true ↔ Whol l:=by
 unfold whB Whol
 rw [Bool.and_eq_true,List.all_eq_true,decide_eq_true_eq]
 simp
theorem take_nm {l:List Pk} {k:Nat} (hk:k < l.length):(l.take (k + 1)).map Pk.nm = (l.take k).map Pk.nm ++ [(l.getD k nPk).nm]:=by
 rw [List.getD_eq_getElem?_getD,List.getElem?_eq_getElem hk,Option.getD_some,← List.take_append_getElem hk,List.map_append]; rfl
set_option maxRecDepth 100000 in
set_option maxHeartbeats 8000000 in
theorem isWhole_any (v:Value) (l:List Pk) (w:World) (h:Pks w v l) (hL:∀ x ∈ l,x.Lim) (hv:Vars w) (hl:l.length ≤ 60000) :
  Calls Tryz.prog 22 #[v] w fun e w'=>e = .returned (.bool (whB l)) ∧ Below w.heap.size w w':=by
 obtain ⟨sa,cap,rfl⟩:=h.shape
 obtain ⟨G,hG⟩:∃ G,whB l = G:=⟨_,rfl⟩
 have HG:=Lib.hid hG
 rw [hG]
 have H:=Lib.hid h
 have HL:=Lib.hid hL
 have HV:=Lib.hid hv
 obtain ⟨n,hn⟩:∃ n,l.length = n:=⟨_,rfl⟩
 have HN:=Lib.hid hn
 rw [hn] at hl
 rw [hn]
 clear hn hG h hL hv
 go_enter Tryz.func22,Tryz.ntmps22
 go_wp2_with fail
 go_loopg [3,8] n (fun gf s3 s8 wx=>∃ (k:Nat) (na:Option Addr) (nc:Nat),s3 = .slice na k nc ∧ s8 = .int .i64 k ∧ Hid (wx.ownsRow w.heap.size 9 1 (.slice na k nc) k (tcells ((l.take k).map Pk.nm))) ∧ Hid (∀ j,j < k → mayK (l.getD j nPk) = 0) ∧ Hid (Below w.heap.size w wx) ∧ k ≤ n ∧ n ≤ k + gf)
 case atStart=>exact ⟨0,none,0,rfl,rfl,Lib.hid (World.ownsRow_nil _ _ _ _),Lib.hid (fun j hj=>absurd hj (by omega)),Lib.hid (Below.refl _ _),by omega,by omega⟩
 case round =>
  obtain ⟨k,na,nc,rfl,rfl,HO,HM,HB,hkn,hfu⟩:=hrel
  by_cases hlt:k < n
  ·obtain ⟨g',rfl⟩:∃ g',gk = g' + 1:=⟨gk - 1,by omega⟩
   have hlt':(k:Int) < (n:Int):=by omega
   have hk0:(0:Int) ≤ k:=by omega
   have hkl:k < l.length:=by rw [HN.out]; exact hlt
   obtain ⟨_,a',cap',e1,_,hcells⟩:=H.out.below HB.out
   rw [HN.out] at e1
   simp only [Value.slice.injEq,true_and] at e1
   obtain ⟨rfl,rfl⟩:=e1
   obtain ⟨kb,off,rfl,hcl2⟩:=hcells (by omega)
   obtain ⟨a1,n1,c1,a2,n2,c2,a3,n3,c3,a4,n4,c4,a5,n5,c5,a6,n6,c6,⟨x0,x1,x2,x3,x4,x5,x6,x7,x8⟩,hh⟩:=pk_read (hcl2 k hkl)
   rw [Nat.mul_comm 9 k] at x0 x1 x2 x3 x4 x5 x6 x7 x8
   have hlim:=HL.out _ (mem_getD (z:=nPk) hkl)
   have htk:=take_nm hkl
   have HKL:=Lib.hid hkl
   obtain ⟨x,hx⟩:∃ x,l.getD k nPk = x:=⟨_,rfl⟩
   rw [hx] at x0 x1 x8 hlim hh htk
   have HX:=Lib.hid hx
   have HTK:=Lib.hid htk
   have hb2:=(Below.refl wr.heap.size wr).alloc (Nat.le_refl _) (.cells #[.string (S x.nm),.string (S x.vs),.slice a1 n1 c1,.slice a2 n2 c2,.slice a3 n3 c3,.slice a4 n4 c4,.slice a5 n5 c5,.slice a6 n6 c6,.bool x.ess] 40)
   have i2:=Blk.Is.new wr 40 #[.string (S x.nm),.string (S x.vs),.slice a1 n1 c1,.slice a2 n2 c2,.slice a3 n3 c3,.slice a4 n4 c4,.slice a5 n5 c5,.slice a6 n6 c6,.bool x.ess]
   obtain ⟨bx,hbx⟩:∃ bx,wr.heap.size = bx:=⟨_,rfl⟩
   obtain ⟨V,hV⟩:∃ V,wr.alloc (.cells #[.string (S x.nm),.string (S x.vs),.slice a1 n1 c1,.slice a2 n2 c2,.slice a3 n3 c3,.slice a4 n4 c4,.slice a5 n5 c5,.slice a6 n6 c6,.bool x.ess] 40) = V:=⟨_,rfl⟩
   rw [hV] at hb2 i2
   rw [hbx] at i2
   have hbV:=HB.out.trans (hb2.mono HB.out.size)
   have cm:=Rc.may_any (.agg #[.string (S x.nm),.string (S x.vs),.slice a1 n1 c1,.slice a2 n2 c2,.slice a3 n3 c3,.slice a4 n4 c4,.slice a5 n5 c5,.slice a6 n6 c6,.bool x.ess]) x V ⟨_,_,_,_,_,_,rfl,hh.below hb2⟩ hlim (HV.out.on hbV)
   have O2:=Lib.hid (Own.owns_below HO.out hb2)
   have B2:=Lib.hid hbV
   have I2:=Lib.hid i2
   have z0:=i2.at (i:=0) rfl
   have z1:=i2.at (i:=1) rfl
   have z2:=i2.at (i:=2) rfl
   have z3:=i2.at (i:=3) rfl
   have z4:=i2.at (i:=4) rfl
   have z5:=i2.at (i:=5) rfl
   have z6:=i2.at (i:=6) rfl
   have z7:=i2.at (i:=7) rfl
   have z8:=i2.at (i:=8) rfl
   have hu:=hV
   clear hcells hcl2 hkl hlim htk hx hb2 i2 hbV hV hh HO HB
   by_cases hm:mayK x = 0
   ·rw [hm] at cm
    have HM2:Hid (∀ j,j < k + 1 → mayK (l.getD j nPk) = 0):=Lib.hid fun j hj=>by
     by_cases e:j = k
     ·rw [e,HX.out,hm]
     ·exact HM.out j (by omega)
    clear hm HM HX
    go_wp2_with fail
    refine cm.mono ?_
    rintro e w4 ⟨rfl,k4⟩
    have i4:=Rl.is_on I2.out k4
    have q0:=i4.at (i:=0) rfl
    have O4:=Lib.hid (Own.owns_below O2.out k4)
    have B4:=Lib.hid (B2.out.trans (k4.mono B2.out.size))
    have hbA:=(Below.refl w4.heap.size w4).alloc (Nat.le_refl _) (.cells #[.string (S x.nm)] 9)
    have iA:=Blk.Is.new w4 9 #[.string (S x.nm)]
    obtain ⟨WA,hWA⟩:∃ WA,w4.alloc (.cells #[.string (S x.nm)] 9) = WA:=⟨_,rfl⟩
    rw [hWA] at hbA iA
    have OA:=Lib.hid (Own.owns_below O4.out hbA)
    have BA:=Lib.hid (B4.out.trans (hbA.mono B4.out.size))
    have HCA:=Lib.hid iA
    have HWA:=Lib.hid hWA
    have ZA:=Lib.hid BA.out.size
    have K70:Hid (k + 1 ≤ 70000):=Lib.hid (by omega)
    have HT2:Hid (tcells ((l.take (k + 1)).map Pk.nm) = tcells ((l.take k).map Pk.nm) ++ [.string (S x.nm)]):=Lib.hid (by
     rw [HTK.out]; unfold tcells; simp)
    clear cm k4 i4 hbA iA hWA O2 B2 O4 B4 I2
    go_wp2_with (at_builtin; rw [HWA.out]; refine Rl.append_el Tryz.underlying72 Rl.infoText rfl (by decide) rfl (.tmp 15) (.tmp 18) rfl w.heap.size (.slice na k nc) k _ rfl OA.out w4.heap.size 1 rfl [.string (S x.nm)] rfl (fun j u hj=>HCA.out.at (by rw [← Array.getElem?_toList]; exact hj)) (fun u hu=>by simp only [List.mem_singleton] at hu; rw [hu]; rfl) K70.out ZA.out ?_; intro v9 w9 h9 g9; have b9:=Own.below_grown BA.out OA.out g9 ZA.out; obtain ⟨a9,r9,rfl,_⟩:=Rl.own_shape h9; have O9:=Lib.hid h9; have B9:=Lib.hid b9; clear h9 g9 b9)
    go_roundg g'
    case measure=>omega
    case rel=>exact ⟨k + 1,a9,r9,rfl,by go_num,Lib.hid (by rw [HT2.out]; exact O9.out),HM2,B9,by omega,by omega⟩
   ·have hmn:(mayK x != 0) = true:=by simp [hm]
    have hG:G = false:=by
     rw [← HG.out,Bool.eq_false_iff]
     intro h
     have:=(whB_iff.1 h).1 _ (mem_getD (z:=nPk) HKL.out)
     rw [HX.out] at this
     exact hm this
    subst hG
    obtain ⟨mk,hmk⟩:∃ mk,mayK x = mk:=⟨_,rfl⟩
    rw [hmk] at cm hm hmn
    clear HG HM HX hmk
    go_wp2_with fail
    refine cm.mono ?_
    rintro e w4 ⟨rfl,k4⟩
    have hb:=B2.out.trans (k4.mono B2.out.size)
    clear cm
    go_wp2_with fail
    go_ret
    exact ⟨rfl,hb⟩
  ·obtain rfl:n = k:=by omega
   have hge:¬ (n:Int) < (n:Int):=by omega
   have hns:((l.take n).map Pk.nm) = l.map Pk.nm:=by rw [List.take_of_length_le (Nat.le_of_eq HN.out)]
   rw [hns] at HO
   obtain ⟨ns,hnse⟩:∃ ns,l.map Pk.nm = ns:=⟨_,rfl⟩
   have hnl:ns.length = n:=by rw [← hnse,List.length_map,HN.out]
   have hwh:whB l = decide ns.Nodup:=by
    unfold whB
    rw [hnse,show (l.all fun p=>decide (mayK p = 0)) = true from List.all_eq_true.2 fun p hp=>by
     obtain ⟨j,hj,rfl⟩:=List.mem_iff_getElem.1 hp
     have:=HM.out j (by rw [← HN.out]; exact hj)
     rw [getD_of hj] at this
     exact decide_eq_true this,Bool.true_and]
   rw [HG.out] at hwh
   rw [hnse] at HO
   have HWH:=Lib.hid hwh
   have HNL:=Lib.hid hnl
   clear hns hnse HM hwh hkn hfu hlt HG
   by_cases h0:n = 0
   ·have hnil:ns = []:=List.eq_nil_of_length_eq_zero (by omega)
    have hG:G = true:=by rw [HWH.out,hnil]; rfl
    subst hG
    clear hnil hnl
    subst h0
    have c1:=Tryz.slices_Sort_string_none na nc wr
    have c2:=fun w=>Tryz.slices_Compact_string_empty na nc w
    go_wp2_with fail
    refine c1.mono ?_
    rintro e w5 ⟨rfl,rfl⟩
    clear c1
    go_wp2_with fail
    refine (c2 _).mono ?_
    rintro e w5 ⟨rfl,rfl⟩
    clear c2
    go_wp2_with fail
    go_ret
    exact ⟨rfl,HB.out⟩
   ·obtain ⟨R,c2,e2,hcap⟩:=Rl.own_slice HO.out (by omega)
    simp only [Value.slice.injEq,true_and] at e2
    obtain ⟨rfl,rfl⟩:=e2
    have hlt2:=Rl.own_lt HO.out (k:=R) rfl
    have ho:wr.ownsRow w.heap.size 9 1 (.slice (some ⟨R,0,none⟩) ns.length nc) ns.length (tcells ns):=by rw [hnl]; exact HO.out
    have hH:=holds_own ho
    have c1:=Tryz.slices_Sort_string R 0 nc ns wr hH hlt2.2 (by omega)
    rw [hnl] at c1
    have HH:=Lib.hid hH
    clear ho hH h0 hnl
    go_wp2_with fail
    refine c1.mono ?_
    rintro e w5 ⟨rfl,q,os,hw5⟩
    have hch:Blk.Chg (fun k=>k = R) wr w5:=by rw [hw5]; exact put_chg _ _ _ _ _ _
    have hH5:Sort.Holds encStr w5 R 0 (srt ns).toArray:=by
     rw [hw5]
     refine Sort.holds_grow _ _ _ _ _ _ ?_ (Sort.holds_putRow _ _ _ _ ns.toArray _ (Sort.holds_ahead _ _ _ _ _ _ HH.out) ?_)
     ·rw [Sort.size_putRow]; exact hlt2.2
     ·simp [(srt_perm ns).length_eq]
    have hls:(srt ns).length = n:=by rw [(srt_perm ns).length_eq,HNL.out]
    have c3:=Tryz.slices_Compact_string R 0 nc (srt ns) w5 hH5 (by omega) (by omega)
    rw [hls] at c3
    have hb5:Below w.heap.size w w5:=HB.out.trans (hch.below (B:=w.heap.size) (fun k hk=>by rw [hk]; exact hlt2.1) HB.out.size)
    have B5:=Lib.hid hb5
    have hcl:(Lib.compact (srt ns)).length = n ↔ ns.Nodup:=by rw [← HNL.out]; exact compact_len ns
    have hR1:=hlt2.1
    obtain ⟨cl,hcle⟩:∃ cl,(Lib.compact (srt ns)).length = cl:=⟨_,rfl⟩
    rw [hcle] at c3 hcl
    have HCL:=Lib.hid hcl
    clear c1 hw5 hch hH5 hls hb5 hcl hlt2 hcle
    go_wp2_with fail
    refine c3.mono ?_
    rintro e w6 ⟨rfl,q2,hw6⟩
    have hch:Blk.Chg (fun k=>k = R) w5 w6:=by rw [hw6]; exact put_chg0 _ _ _ _ _
    have hb6:Below w.heap.size w w6:=B5.out.trans (hch.below (B:=w.heap.size) (fun k hk=>by rw [hk]; exact hR1) B5.out.size)
    have B6:=Lib.hid hb6
    have hcn:((cl:Int) == (n:Int)) = G:=by
     rw [HWH.out]
     by_cases hnd:ns.Nodup
     ·rw [decide_eq_true hnd,HCL.out.2 hnd]; simp
     ·rw [decide_eq_false hnd,beq_eq_false_iff_ne]
      exact fun e=>hnd (HCL.out.1 (by omega))
    clear c3 hw6 hch hb6
    go_wp2_with fail
    go_ret
    exact ⟨rfl,B6.out⟩
end Sa
end Go.Proofs.YtgpcilepkmckeaaGreatDoor

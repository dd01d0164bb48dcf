/-
All, Of: what there is to choose from, what can be reached. What every program must know of universes: the law's awake.
-/
import Derived.Test.YtmhpjjjjgakpiaaGreatDoorDUniJoin
import Derived.Test.YtmhpjjjjgakpiaaGreatDoorDUniFollow
import Derived.Test.YtmhpjjjjgakpiaaGreatDoorDTextTexts
namespace Go.Proofs.YtmhpjjjjgakpiaaGreatDoor
open Go.RowKit
set_option linter.unusedSimpArgs false
set_option linter.unusedVariables false
namespace Un
open Ver (Bs S S_size)
open Rl (At Vars mem_getD)
open Rc (Pk nPk En nEn Pks Ens PkC In Acc mayAll nmsOf)
open Ix (Idx Few LimS Sorts MayL MayP rising gK)
structure Got (r:List Pk) (s:List En) (xs:List Pk):Prop where
 so:Sorts (joinL r s) xs
 may:MayL (joinL r s)
theorem Got.len {r:List Pk} {s:List En} {xs:List Pk} (h:Got r s xs):xs.length ≤ 24:=by rw [h.so.1.length_eq]; exact h.may.len
theorem Got.each {r:List Pk} {s:List En} {xs:List Pk} (h:Got r s xs):∀ p ∈ xs,MayP p:=fun p hp=>h.may.each p (h.so.1.mem_iff.1 hp)
theorem Got.few {r:List Pk} {s:List En} {xs:List Pk} (h:Got r s xs):∀ p ∈ xs,Few p:=fun p hp=>(h.each p hp).few
theorem Got.cls {r:List Pk} {s:List En} {xs:List Pk} (h:Got r s xs):∀ p ∈ xs,(clsOf p).length ≤ 60000:=fun p hp=>by
 have k:=h.each p hp
 unfold clsOf
 rw [List.length_append,List.length_append]
 have:=(Ix.mayC_of k.pre).1
 have:=(Ix.mayC_of k.dep).1
 have:=(Ix.mayC_of k.rcm).1
 omega
theorem got_of {r:List Pk} {s:List En} {xs:List Pk} (hs:Sorts (joinL r s) xs) (h0:allE r s = 0):Got r s xs:=by
 refine ⟨hs,?_⟩
 unfold allE at h0
 by_cases h1:mayAll r ≠ 0
 ·rw [if_pos h1] at h0; exact absurd h0 h1
 ·rw [if_neg h1] at h0
  by_cases h2:Rc.mayEn s ≠ 0
  ·rw [if_pos h2] at h0; exact absurd h0 h2
  ·rw [if_neg h2] at h0
   exact Ix.mayAll_of h0
theorem join_lim {r:List Pk} {s:List En} (h1:∀ x ∈ r,x.Lim) (h2:∀ x ∈ s,x.pk.Lim):∀ x ∈ joinL r s,x.Lim:=fun x hx=>by
 rcases List.mem_append.1 hx with hx | hx
 ·obtain ⟨y,hy,rfl⟩:=List.mem_map.1 hx
  exact h2 y hy
 ·exact h1 x (List.mem_filter.1 hx).1
def nmX (xs:List Pk):List Bs:=nmsOf xs []
theorem nmX_mem (xs:List Pk) (n:Bs):n ∈ nmX xs ↔ ∃ p ∈ xs,p.nm = n:=by
 unfold nmX
 rw [Ix.nms_mem]
 simp
theorem nmX_nodup (xs:List Pk):(nmX xs).Nodup:=Ix.nms_nodup xs [] List.nodup_nil
theorem nmX_len (xs:List Pk):(nmX xs).length ≤ xs.length:=by
 have:=Ix.len_le (nmX_nodup xs) (b:=xs.map Pk.nm) fun n hn=>by
  obtain ⟨p,hp,rfl⟩:=(nmX_mem xs n).1 hn
  exact List.mem_map.2 ⟨p,hp,rfl⟩
 rwa [List.length_map] at this
theorem nmX_gK (xs:List Pk) (n:Bs):n ∈ nmX xs ↔ gK xs xs.length false n ≠ []:=by
 rw [nmX_mem]
 have e:=gK_map xs n
 constructor
 ·rintro ⟨p,hp,hn⟩ h0
  rw [h0] at e
  have:p ∈ xs.filter fun p=>decide (p.nm = n):=List.mem_filter.2 ⟨hp,by simp [hn]⟩
  rw [← e] at this
  cases this
 ·intro h
  cases hg:gK xs xs.length false n with
  | nil=>exact absurd hg h
  | cons i t =>
   rw [hg,List.map_cons] at e
   have:xs.getD i nPk ∈ xs.filter fun p=>decide (p.nm = n):=by rw [← e]; simp
   obtain ⟨h1,h2⟩:=List.mem_filter.1 this
   exact ⟨_,h1,by simpa using h2⟩
theorem inW_len (W:List Bs) (xs:List Pk):(inW W xs).length ≤ xs.length:=List.length_filter_le _ _
set_option maxRecDepth 100000 in
set_option maxHeartbeats 8000000 in
theorem all_any (v1 v2:Value) (r:List Pk) (s:List En) (w:World) (h1:Pks w v1 r) (h2:Ens w v2 s) (hL1:∀ x ∈ r,x.Lim) (hL2:∀ x ∈ s,x.pk.Lim) (hv:Vars w) :
  Calls Tryz.prog 10 #[v1,v2] w fun e w'=>((allE r s ≠ 0 ∧ e = .returned (.tuple #[.slice none 0 0,.int .i64 (allE r s)])) ∨ (allE r s = 0 ∧ ∃ xs v',e = .returned (.tuple #[v',.int .i64 0]) ∧ Got r s xs ∧ Pks w' v' xs)) ∧ Below w.heap.size w w':=by
 have cj:=join_any v1 v2 r s w h1 h2 hL1 hL2 hv
 obtain ⟨sa1,cap1,rfl⟩:=h1.shape
 obtain ⟨sa2,cap2,rfl⟩:=h2.shape
 have HLJ:=Lib.hid (join_lim hL1 hL2)
 generalize r.length = n1 at *
 generalize s.length = n2 at *
 clear h1 h2 hL1 hL2 hv
 go_enter Tryz.func10,Tryz.ntmps10
 go_wp2_with fail
 refine cj.mono ?_
 rintro e w1 ⟨hj,k1⟩
 have K1:=Lib.hid k1
 clear cj k1
 rcases hj with ⟨hE,rfl⟩ | ⟨hE,pb,xs,rfl,hso,hix⟩
 ·have hne:(allE r s != 0) = true:=by simp [hE]
  have HE:=Lib.hid hE
  obtain ⟨E,hEE⟩:∃ E,allE r s = E:=⟨_,rfl⟩
  have HEE:=Lib.hid hEE
  rw [hEE] at hne ⊢
  clear hE hEE
  go_wp2_with fail
  go_ret2
  exact ⟨.inl ⟨HE.out,by rw [HEE.out]; rfl⟩,K1.out⟩
 ·have hg:=got_of hso hE
  have hlx:∀ p ∈ xs,p.Lim:=fun p hp=>HLJ.out p (hso.1.mem_iff.1 hp)
  have hlen:=hg.len
  have cn:=Ix.names_any pb xs w1 (nmX xs) hix (nmX_nodup xs) (nmX_gK xs) (by have:=nmX_len xs; omega)
  have hon:ofNms xs (rising (nmX xs)) = xs:=by
   rw [ofNms_rising hso (nmX_nodup xs)]
   exact inW_all fun p hp=>(nmX_mem xs _).2 ⟨p,hp,rfl⟩
  have hls:∀ n ∈ rising (nmX xs),LimS n:=fun n hn=>by
   obtain ⟨p,hp,rfl⟩:=(nmX_mem xs n).1 ((rising_mem _ n).1 hn)
   exact (hlx p hp).nm
  have HG:=Lib.hid hg
  have HIX:=Lib.hid hix
  have HON:=Lib.hid hon
  have HLS:=Lib.hid hls
  have HE:=Lib.hid hE
  clear hE hso hix hg hlx hon hls
  go_wp2_with fail
  refine cn.mono ?_
  rintro e w2 ⟨v2,rfl,ht,k2⟩
  have cd:=named_any pb xs v2 (rising (nmX xs)) w2 (Idx.below HIX.out k2) HG.out.few (by have:=HG.out.len; omega) ht HLS.out (by rw [HON.out]; have:=HG.out.len; omega)
  rw [HON.out] at cd
  have K2:=Lib.hid (K1.out.trans (k2.mono K1.out.size))
  clear cn ht k2
  go_wp2_with fail
  refine cd.mono ?_
  rintro e w3 ⟨v3,rfl,hacc,k3⟩
  have hpk:Pks w3 v3 xs:=Acc.slc nPk hacc (by omega)
  have HPK:=Lib.hid hpk
  have hb:=K2.out.trans (k3.mono K2.out.size)
  clear cd hacc hpk k3
  go_wp2_with fail
  go_ret2
  exact ⟨.inr ⟨HE.out,xs,_,rfl,HG.out,HPK.out⟩,hb⟩
set_option maxRecDepth 100000 in
set_option maxHeartbeats 16000000 in
theorem of_reach (v1 v2 v3:Value) (r:List Pk) (s:List En) (ns:List Bs) (w:World) (h1:Pks w v1 r) (h2:Ens w v2 s) (h3:Txt.Texts w v3 (ns.map S)) (hL1:∀ x ∈ r,x.Lim) (hL2:∀ x ∈ s,x.pk.Lim) (hL3:∀ n ∈ ns,LimS n) (hv:Vars w) :
  Calls Tryz.prog 13 #[v1,v2,v3] w fun e w'=>((allE r s ≠ 0 ∧ e = .returned (.tuple #[.slice none 0 0,.int .i64 (allE r s)])) ∨ (allE r s = 0 ∧ ∃ xs WF v',e = .returned (.tuple #[v',.int .i64 0]) ∧ Got r s xs ∧ Reaches xs (s.map (fun x=>x.pk.nm) ++ ns) WF ∧ Pks w' v' (inW WF xs))) ∧ Below w.heap.size w w':=by
 have cj:=join_any v1 v2 r s w h1 h2 hL1 hL2 hv
 obtain ⟨sa1,cap1,rfl⟩:=h1.shape
 obtain ⟨sa2,cap2,rfl⟩:=h2.shape
 obtain ⟨hx3,sa3,cap3,rfl,hc3,_⟩:=id h3
 have H2:=Lib.hid h2
 have H3:=Lib.hid h3
 have HL2:=Lib.hid hL2
 have HL3:=Lib.hid hL3
 have HLJ:=Lib.hid (join_lim hL1 hL2)
 have HV:=Lib.hid hv
 obtain ⟨m,hm⟩:∃ m,s.length = m:=⟨_,rfl⟩
 have HMN:=Lib.hid hm
 rw [hm] at cj H2 ⊢
 generalize r.length = n1 at *
 generalize (ns.map S).length = n3 at *
 clear h1 h2 h3 hL1 hL2 hL3 hv hm
 go_enter Tryz.func13,Tryz.ntmps13
 go_wp2_with fail
 refine cj.mono ?_
 rintro e w1 ⟨hj,k1⟩
 have K1:=Lib.hid k1
 clear cj k1
 rcases hj with ⟨hE,rfl⟩ | ⟨hE,pb,xs,rfl,hso,hix⟩
 ·have hne:(allE r s != 0) = true:=by simp [hE]
  have HE:=Lib.hid hE
  obtain ⟨E,hEE⟩:∃ E,allE r s = E:=⟨_,rfl⟩
  have HEE:=Lib.hid hEE
  rw [hEE] at hne ⊢
  clear hE hEE
  go_wp2_with fail
  go_ret2
  exact ⟨.inl ⟨HE.out,by rw [HEE.out]; rfl⟩,K1.out⟩
 ·have hg:=got_of hso hE
  have hlx:∀ p ∈ xs,p.Lim:=fun p hp=>HLJ.out p (hso.1.mem_iff.1 hp)
  have hlen:=hg.len
  have hm10:m ≤ 24:=by
   have:=hg.may.len
   unfold joinL at this
   rw [List.length_append,List.length_map,HMN.out] at this
   omega
  have hlim:∀ n ∈ nmX xs,LimS n:=fun n hn=>by
   obtain ⟨p,hp,rfl⟩:=(nmX_mem xs n).1 hn
   exact (hlx p hp).nm
  have cw:=newWork_any pb xs (nmX xs) w1 hix (nmX_nodup xs) (nmX_gK xs) (by have:=nmX_len xs; omega) hlim
  have HG:=Lib.hid hg
  have HIX:=Lib.hid hix
  have HLX:=Lib.hid hlx
  have HE:=Lib.hid hE
  clear hE hso hix hg hlx hlim
  go_wp2_with fail
  refine cw.mono ?_
  rintro e w2 ⟨rfl,hwl,k2⟩
  have HW2:=Lib.hid hwl
  have K2:=Lib.hid k2
  clear cw hwl k2
  go_wp2_with fail
  go_loopg [26] m (fun gf s26 wx=>∃ (k:Nat) (vx:Value),s26 = .int .i64 k ∧ Hid (WL wx (w1.heap.size + 2) (w1.heap.size + 1) w1.heap.size pb vx (nmX xs) (ent (nmX xs) [] ((s.take k).map fun x=>x.pk.nm))) ∧ Hid (Below w1.heap.size w1 wx) ∧ k ≤ m ∧ m ≤ k + gf)
  case atStart=>exact ⟨0,_,rfl,HW2,K2,by omega,by omega⟩
  case round =>
   obtain ⟨k,vx,rfl,HX,HB,hkn,hfu⟩:=hrel
   by_cases hlt:k < m
   ·obtain ⟨g',rfl⟩:∃ g',gk = g' + 1:=⟨gk - 1,by omega⟩
    have hlt':(k:Int) < (m:Int):=by omega
    have hk0:(0:Int) ≤ k:=by omega
    have hkl:k < s.length:=by rw [HMN.out]; exact hlt
    have hbw:Below w.heap.size w wr:=K1.out.trans (HB.out.mono K1.out.size)
    obtain ⟨_,a',cap',e1,_,hcells⟩:=H2.out
    rw [HMN.out] at e1
    simp only [Value.slice.injEq,true_and] at e1
    obtain ⟨rfl,rfl⟩:=e1
    obtain ⟨kb,off,rfl,hcl2⟩:=hcells (by omega)
    obtain ⟨a1,n1,c1,a2,n2,c2,a3,n3,c3,a4,n4,c4,a5,n5,c5,a6,n6,c6,⟨x0,x1,x2,x3,x4,x5,x6,x7,x8,x9,x10⟩,hh⟩:=Rc.en_read (hcl2 k hkl)
    rw [Nat.mul_comm 11 k] at x0 x1 x2 x3 x4 x5 x6 x7 x8 x9 x10
    replace x0:=Rl.cell_on x0 hbw
    replace x1:=Rl.cell_on x1 hbw
    replace x2:=Rl.cell_on x2 hbw
    replace x3:=Rl.cell_on x3 hbw
    replace x4:=Rl.cell_on x4 hbw
    replace x5:=Rl.cell_on x5 hbw
    replace x6:=Rl.cell_on x6 hbw
    replace x7:=Rl.cell_on x7 hbw
    replace x8:=Rl.cell_on x8 hbw
    replace x9:=Rl.cell_on x9 hbw
    replace x10:=Rl.cell_on x10 hbw
    have ht:=take_snoc (z:=nEn) hkl
    have hlm:=(HL2.out _ (mem_getD (z:=nEn) hkl)).nm
    obtain ⟨x,hx⟩:∃ x,s.getD k nEn = x:=⟨_,rfl⟩
    rw [hx] at x0 x1 x8 x9 x10 ht hlm
    obtain ⟨WK,hWK⟩:∃ WK,ent (nmX xs) [] ((s.take k).map fun x=>x.pk.nm) = WK:=⟨_,rfl⟩
    have hnext:ent (nmX xs) [] ((s.take (k + 1)).map fun x=>x.pk.nm) = ent (nmX xs) WK [x.pk.nm]:=by
     rw [ht,List.map_append,ent_app,hWK]; rfl
    rw [hWK] at HX
    have hb2:=(Below.refl wr.heap.size wr).alloc (Nat.le_refl _) (.cells #[.string (S x.pk.nm),.string (S x.pk.vs),.slice a1 n1 c1,.slice a2 n2 c2,.slice a3 n3 c3,.slice a4 n4 c4,.slice a5 n5 c5,.slice a6 n6 c6,.bool x.pk.ess,.bool x.cfg,.bool x.hld] 52)
    have i2:=Blk.Is.new wr 52 #[.string (S x.pk.nm),.string (S x.pk.vs),.slice a1 n1 c1,.slice a2 n2 c2,.slice a3 n3 c3,.slice a4 n4 c4,.slice a5 n5 c5,.slice a6 n6 c6,.bool x.pk.ess,.bool x.cfg,.bool x.hld]
    obtain ⟨V1,hV1⟩:∃ V1,wr.alloc (.cells #[.string (S x.pk.nm),.string (S x.pk.vs),.slice a1 n1 c1,.slice a2 n2 c2,.slice a3 n3 c3,.slice a4 n4 c4,.slice a5 n5 c5,.slice a6 n6 c6,.bool x.pk.ess,.bool x.cfg,.bool x.hld] 52) = V1:=⟨_,rfl⟩
    rw [hV1] at hb2 i2
    have z0:=i2.at (i:=0) rfl
    have hb3:=(Below.refl V1.heap.size V1).alloc (Nat.le_refl _) (.cells #[.string (S x.pk.nm)] 9)
    have i3:=Blk.Is.new V1 9 #[.string (S x.pk.nm)]
    obtain ⟨V2,hV2⟩:∃ V2,V1.alloc (.cells #[.string (S x.pk.nm)] 9) = V2:=⟨_,rfl⟩
    rw [hV2] at hb3 i3
    have hsz2:V2.heap.size = V1.heap.size + 1:=by rw [← hV2]; simp
    have hr2:Below wr.heap.size wr V2:=hb2.trans (hb3.mono hb2.size)
    have ce:=enter_any _ _ pb _ vx (nmX xs) WK [x.pk.nm] (.slice (some ⟨V1.heap.size,0,none⟩) 1 1) V2 V1.heap.size (V1.heap.size + 1) (HX.out.below hr2) (one_text i3 1 (Nat.le_refl _)) (by omega)
     (fun z hz=>.inl ((HX.out.below hb2).lt z hz)) (fun n hn=>by rw [List.mem_singleton.1 hn]; exact hlm)
    have hlow:=HX.out.low (B:=w1.heap.size) (by omega) (by omega) (by omega)
    have HNX:=Lib.hid hnext
    have HR2:=Lib.hid hr2
    have HV2:=Lib.hid hV2
    have HLO:=Lib.hid hlow
    rw [← hV2] at ce
    have hu:=hV1
    clear hcells hcl2 hh ht hlm hx hWK hnext hb2 i2 hV1 hb3 i3 hV2 hsz2 hr2 hlow hbw hkl
    go_wp2_with fail
    clear hu z0 x0 x1 x2 x3 x4 x5 x6 x7 x8 x9 x10
    refine ce.mono ?_
    rintro e w5 ⟨rfl,v5,f1,f2,f3⟩
    rw [HV2.out] at f2
    have hz:=HB.out.trans (HR2.out.mono HB.out.size)
    have hz5:Below w1.heap.size w1 w5:=hz.trans (f2.below HLO.out hz.size)
    have F1:=Lib.hid f1
    have Z5:=Lib.hid hz5
    clear ce f1 f2 f3 hz hz5 HX HB
    go_wp2_with fail
    go_roundg g'
    case measure=>omega
    case rel=>exact ⟨k + 1,v5,by go_num,by rw [HNX.out]; exact F1,Z5,by omega,by omega⟩
   ·have hge:¬ (m:Int) < (m:Int):=by omega
    obtain rfl:m = k:=by omega
    have hall:s.take m = s:=List.take_of_length_le (Nat.le_of_eq HMN.out)
    rw [hall] at HX
    obtain ⟨W0,hW0⟩:∃ W0,ent (nmX xs) [] (s.map fun x=>x.pk.nm) = W0:=⟨_,rfl⟩
    rw [hW0] at HX
    have hbw:Below w.heap.size w wr:=K1.out.trans (HB.out.mono K1.out.size)
    have hlow:=HX.out.low (B:=w1.heap.size) (by omega) (by omega) (by omega)
    have h1s:=K1.out.size
    have hin:In 0 w.heap.size wr (fun u=>Txt.Texts u (.slice sa3 n3 cap3) (ns.map S)):=fun u hu =>
     H3.out.below ⟨hu.os.trans hbw.os,hu.tape.trans hbw.tape,hu.output.trans hbw.output,Nat.le_trans hbw.size hu.size,fun k hk=>(hu.block k (Nat.lt_of_lt_of_le hk hbw.size) (by omega)).trans (hbw.block k hk)⟩
    have ce:=enter_any _ _ pb _ vx (nmX xs) W0 ns (.slice sa3 n3 cap3) wr 0 w.heap.size HX.out hin hbw.size (fun z hz=>.inr (by have:=hlow z hz; omega)) HL3.out
    have HW0:=Lib.hid hW0
    have HLO:=Lib.hid hlow
    clear hall hW0 hbw hlow h1s hin HX
    go_wp2_with fail
    refine ce.mono ?_
    rintro e w5 ⟨rfl,v5,f1,f2,f3⟩
    obtain ⟨W1,hW1⟩:∃ W1,ent (nmX xs) W0 ns = W1:=⟨_,rfl⟩
    rw [hW1] at f1
    have hz5:Below w1.heap.size w1 w5:=HB.out.trans (f2.below HLO.out HB.out.size)
    have hmem:∀ n,n ∈ W1 ↔ n ∈ s.map (fun x=>x.pk.nm) ++ ns ∧ n ∈ nmX xs:=fun n=>by
     rw [← hW1,ent_mem,← HW0.out,ent_mem,List.mem_append]
     simp only [List.not_mem_nil,false_or]
     constructor
     ·rintro (⟨h1,h2⟩ | ⟨h1,h2⟩)
      ·exact ⟨.inl h1,h2⟩
      ·exact ⟨.inr h1,h2⟩
     ·rintro ⟨h1 | h1,h2⟩
      ·exact .inl ⟨h1,h2⟩
      ·exact .inr ⟨h1,h2⟩
    have cf:=follow_any _ _ pb _ v5 (nmX xs) W1 xs w1 w5 (Rch xs (s.map (fun x=>x.pk.nm) ++ ns)) f1 HIX.out hz5 ⟨by omega,by omega,by omega⟩ HLX.out HG.out.few (by have:=HG.out.len; omega) (HV.out.on K1.out) HG.out.cls (nmX_mem xs)
     (fun n hn=>.seed ((hmem n).1 hn).1 ((nmX_mem xs n).1 ((hmem n).1 hn).2)) (fun p hp h a ha q hq hs=>.step h hp ha hq hs)
    have HM:=Lib.hid hmem
    clear ce f1 f2 f3 hW1 hz5 hmem HB
    go_wp2_with fail
    refine cf.mono ?_
    rintro e w6 ⟨v6,WF,rfl,ht6,hnd,hin6,hr6,hsub,hsh,k6⟩
    have hre:Reaches xs (s.map (fun x=>x.pk.nm) ++ ns) WF:=reaches_of hr6 (fun n hn hp=>hin6 n ((HM.out n).2 ⟨hn,(nmX_mem xs n).2 hp⟩)) hsh
    have hon:ofNms xs (rising WF) = inW WF xs:=ofNms_rising HG.out.so hnd
    have hlw:(inW WF xs).length ≤ 24:=Nat.le_trans (inW_len WF xs) HG.out.len
    have cd:=named_any pb xs v6 (rising WF) w6 (Idx.below HIX.out k6) HG.out.few (by have:=HG.out.len; omega) ht6 (fun n hn=>by
     obtain ⟨p,hp,rfl⟩:=(nmX_mem xs n).1 (hsub n ((rising_mem WF n).1 hn))
     exact (HLX.out p hp).nm) (by rw [hon]; omega)
    rw [hon] at cd
    have HRE:=Lib.hid hre
    have K6:=Lib.hid (K1.out.trans (k6.mono K1.out.size))
    clear cf ht6 hnd hin6 hr6 hsub hsh k6 hre hon
    go_wp2_with fail
    refine cd.mono ?_
    rintro e w7 ⟨v7,rfl,hacc,k7⟩
    have hpk:Pks w7 v7 (inW WF xs):=Acc.slc nPk hacc (by omega)
    have HPK:=Lib.hid hpk
    have hb:=K6.out.trans (k7.mono K6.out.size)
    clear cd hacc hpk k7
    go_wp2_with fail
    go_ret2
    exact ⟨.inr ⟨HE.out,xs,WF,_,rfl,HG.out,HRE.out,HPK.out⟩,hb⟩
end Un
end Go.Proofs.YtmhpjjjjgakpiaaGreatDoor
namespace Go.Proofs.YtmhpjjjjgakpiaaGreatDoor
open Go.RowKit
set_option linter.unusedSimpArgs false
set_option linter.unusedVariables false
namespace Un
open Ver (Bs S S_li)
open Rl (At Pv Slc Pvs Ats Clss Vars nA)
open Rc (Pk nPk En PkC CAt Has Pks Ens)
open Ix (Sorts LimS)
def awA:At:=([98,98],0,[])
def aw1:Pk:=⟨[97,97],[49],[],[[awA]],[],[],[],[],false⟩
def aw2:Pk:=⟨[98,98],[49],[],[],[],[],[],[],false⟩
def aw3:Pk:=⟨[99,99],[49],[],[],[],[],[],[],false⟩
def awR:List Pk:=[aw1,aw2,aw3]
theorem aw_mem {p:Pk} (h:p ∈ awR):p = aw1 ∨ p = aw2 ∨ p = aw3:=by simpa [awR] using h
theorem aw_all:allE awR [] = 0:=by decide +kernel
theorem aw_join:joinL awR [] = awR:=by kernel_rfl
theorem aw_sorts:Sorts awR awR:=by
 refine ⟨List.Perm.refl _,fun i j hij hj=>?_⟩
 have hj3:j < 3:=hj
 have h3:(i = 0 ∧ j = 1) ∨ (i = 0 ∧ j = 2) ∨ (i = 1 ∧ j = 2):=by omega
 rcases h3 with ⟨rfl,rfl⟩ | ⟨rfl,rfl⟩ | ⟨rfl,rfl⟩ <;> decide +kernel
theorem aw_lim:∀ p ∈ awR,p.Lim:=fun p hp=>by
 rcases aw_mem hp with rfl | rfl | rfl
 all_goals
  refine ⟨by decide,by decide,?_,?_,?_,?_,?_,?_⟩
  all_goals
   intro y hy
   first
    | (cases hy; done)
    | (simp only [aw1,List.mem_singleton] at hy; subst hy; intro z hz; simp only [List.mem_singleton] at hz; subst hz; exact ⟨by decide,by decide⟩)
theorem aw_reach {WF:List Bs} (h:Reaches awR ([] ++ [[97,97]]) WF):inW WF awR = [aw1,aw2]:=by
 have ha:[97,97] ∈ WF:=h.seed (by simp) ⟨aw1,by simp [awR],rfl⟩
 have hb:[98,98] ∈ WF:=h.shut aw1 (by simp [awR]) ha awA (by decide +kernel) aw2 (by simp [awR]) (by decide +kernel)
 have hc:¬ [99,99] ∈ WF:=fun hc=>by
  have key:∀ n,Rch awR ([] ++ [[97,97]]) n → n = [97,97] ∨ n = [98,98]:=fun n hn=>by
   induction hn with
   | seed h1 _=>exact .inl (by simpa using h1)
   | @step p q a _ hp hk hq hs ih =>
    rcases aw_mem hp with rfl | rfl | rfl
    ·have hak:a = awA:=by simpa [asks,aw1] using hk
     subst hak
     rcases aw_mem hq with rfl | rfl | rfl
     ·exact .inl rfl
     ·exact .inr rfl
     ·exact absurd hs (by decide +kernel)
    ·simp [asks,aw2] at hk
    ·simp [asks,aw3] at hk
  rcases key _ ((h _).1 hc) with e | e <;> exact absurd e (by decide)
 have e1:decide (aw1.nm ∈ WF) = true:=decide_eq_true ha
 have e2:decide (aw2.nm ∈ WF) = true:=decide_eq_true hb
 have e3:decide (aw3.nm ∈ WF) = false:=decide_eq_false hc
 unfold inW awR
 simp only [List.filter,e1,e2,e3]
theorem slc_nil {α:Type} (sz:Nat) (z:α) (P:World → Nat → Nat → α → Prop) (w:World):Slc sz z P w (.slice none 0 0) []:=⟨by simp,none,0,rfl,by simp,fun h=>absurd h (by simp)⟩
def c1 (b1:Nat):List Value:=[.string ⟨#[97,97]⟩,.string ⟨#[49]⟩,.slice none 0 0,.slice (some ⟨b1,0,none⟩) 1 1,.slice none 0 0,.slice none 0 0,.slice none 0 0,.slice none 0 0,.bool false]
def c2:List Value:=[.string ⟨#[98,98]⟩,.string ⟨#[49]⟩,.slice none 0 0,.slice none 0 0,.slice none 0 0,.slice none 0 0,.slice none 0 0,.slice none 0 0,.bool false]
def c3:List Value:=[.string ⟨#[99,99]⟩,.string ⟨#[49]⟩,.slice none 0 0,.slice none 0 0,.slice none 0 0,.slice none 0 0,.slice none 0 0,.slice none 0 0,.bool false]
theorem at_of {w:World} {b:Nat} {T:TypeId} {cs:Array Value} (h:Blk.Is w b T cs) {o:Nat} {xs:List Value} (hx:∀ j,j < xs.length → cs[o + j]? = xs[j]?):∀ j u,xs[j]? = some u → w.cell? ⟨b,o + j,none⟩ = some u:=fun j u hj =>
 h.at ((hx j (List.getElem?_eq_some_iff.1 hj).1).trans hj)
theorem aw_pks {w:World} {b0 b1 b3:Nat} (h0:Blk.Is w b0 54 #[.string ⟨#[98,98]⟩,.int .i64 0,.string ⟨#[]⟩]) (h1:Blk.Is w b1 47 #[.slice (some ⟨b0,0,none⟩) 1 1]) (h3:Blk.Is w b3 40 #[.string ⟨#[97,97]⟩,.string ⟨#[49]⟩,.slice none 0 0,.slice (some ⟨b1,0,none⟩) 1 1,.slice none 0 0,.slice none 0 0,.slice none 0 0,.slice none 0 0,.bool false,.string ⟨#[98,98]⟩,.string ⟨#[49]⟩,.slice none 0 0,.slice none 0 0,.slice none 0 0,.slice none 0 0,.slice none 0 0,.slice none 0 0,.bool false,.string ⟨#[99,99]⟩,.string ⟨#[49]⟩,.slice none 0 0,.slice none 0 0,.slice none 0 0,.slice none 0 0,.slice none 0 0,.slice none 0 0,.bool false]):Pks w (.slice (some ⟨b3,0,none⟩) 3 3) awR:=by
 have nc:Clss w (.slice none 0 0) []:=slc_nil _ _ _ _
 have na:Ats w (.slice none 0 0) []:=slc_nil _ _ _ _
 have np:Pvs w (.slice none 0 0) []:=slc_nil _ _ _ _
 have ha:Ats w (.slice (some ⟨b0,0,none⟩) 1 1) [awA]:=⟨by decide,_,_,rfl,by decide,fun _=>⟨b0,0,rfl,fun i hi=>by
  have:i = 0:=by have:i < 1:=hi; omega
  subst this
  exact ⟨h0.at (i:=0) rfl,h0.at (i:=1) rfl,h0.at (i:=2) rfl⟩⟩⟩
 have hd:Clss w (.slice (some ⟨b1,0,none⟩) 1 1) [[awA]]:=⟨by decide,_,_,rfl,by decide,fun _=>⟨b1,0,rfl,fun i hi=>by
  have:i = 0:=by have:i < 1:=hi; omega
  subst this
  exact ⟨_,h1.at (i:=0) rfl,ha⟩⟩⟩
 refine ⟨by decide,some ⟨b3,0,none⟩,3,rfl,by decide,fun _=>⟨b3,0,rfl,fun i hi=>?_⟩⟩
 have hi3:i < 3:=hi
 rcases i with _ | _ | _ | i
 ·refine ⟨c1 b1,⟨_,_,_,_,_,_,rfl,nc,hd,nc,na,na,np⟩,at_of h3 fun j hj=>?_⟩
  have hj9:j < 9:=hj
  rcases j with _ | _ | _ | _ | _ | _ | _ | _ | _ | j
  all_goals first | rfl | omega
 ·refine ⟨c2,⟨_,_,_,_,_,_,rfl,nc,nc,nc,na,na,np⟩,at_of h3 fun j hj=>?_⟩
  have hj9:j < 9:=hj
  rcases j with _ | _ | _ | _ | _ | _ | _ | _ | _ | j
  all_goals first | rfl | omega
 ·refine ⟨c3,⟨_,_,_,_,_,_,rfl,nc,nc,nc,na,na,np⟩,at_of h3 fun j hj=>?_⟩
  have hj9:j < 9:=hj
  rcases j with _ | _ | _ | _ | _ | _ | _ | _ | _ | j
  all_goals first | rfl | omega
 ·omega
set_option maxRecDepth 100000 in
set_option maxHeartbeats 4000000 in
theorem awake_any (w:World) (hv:Vars w) :
  Calls Tryz.prog 9 #[] w fun e w'=>e = .returned (.bool true) ∧ Below w.heap.size w w':=by
 have b0:=(Below.refl w.heap.size w).alloc (Nat.le_refl _) (.cells #[.string ⟨#[98,98]⟩,.int .i64 0,.string ⟨#[]⟩] 54)
 have i0:=Blk.Is.new w 54 #[.string ⟨#[98,98]⟩,.int .i64 0,.string ⟨#[]⟩]
 obtain ⟨g0,hg0⟩:∃ g,w.heap.size = g:=⟨_,rfl⟩
 obtain ⟨W0,hW0⟩:∃ W,w.alloc (.cells #[.string ⟨#[98,98]⟩,.int .i64 0,.string ⟨#[]⟩] 54) = W:=⟨_,rfl⟩
 have s0:W0.heap.size = g0 + 1:=by rw [← hW0,← hg0]; simp
 rw [hW0] at b0 i0
 rw [hg0] at i0
 have b1:=b0.alloc b0.size (.cells #[.slice (some ⟨g0,0,none⟩) 1 1] 47)
 have i0:=i0.alloc (.cells #[.slice (some ⟨g0,0,none⟩) 1 1] 47)
 have i1:=Blk.Is.new W0 47 #[.slice (some ⟨g0,0,none⟩) 1 1]
 obtain ⟨W1,hW1⟩:∃ W,W0.alloc (.cells #[.slice (some ⟨g0,0,none⟩) 1 1] 47) = W:=⟨_,rfl⟩
 have s1:W1.heap.size = g0 + 2:=by rw [← hW1]; simp [s0]
 rw [hW1] at b1 i0 i1
 rw [s0] at i1
 have b2:=b1.alloc b1.size (.cells #[.string ⟨#[97,97]⟩,.string ⟨#[49]⟩,.slice none 0 0,.slice (some ⟨g0 + 1,0,none⟩) 1 1,.slice none 0 0,.slice none 0 0,.slice none 0 0,.slice none 0 0,.bool false,.string ⟨#[98,98]⟩,.string ⟨#[49]⟩,.slice none 0 0,.slice none 0 0,.slice none 0 0,.slice none 0 0,.slice none 0 0,.slice none 0 0,.bool false,.string ⟨#[99,99]⟩,.string ⟨#[49]⟩,.slice none 0 0,.slice none 0 0,.slice none 0 0,.slice none 0 0,.slice none 0 0,.slice none 0 0,.bool false] 40)
 have i0:=i0.alloc (.cells #[.string ⟨#[97,97]⟩,.string ⟨#[49]⟩,.slice none 0 0,.slice (some ⟨g0 + 1,0,none⟩) 1 1,.slice none 0 0,.slice none 0 0,.slice none 0 0,.slice none 0 0,.bool false,.string ⟨#[98,98]⟩,.string ⟨#[49]⟩,.slice none 0 0,.slice none 0 0,.slice none 0 0,.slice none 0 0,.slice none 0 0,.slice none 0 0,.bool false,.string ⟨#[99,99]⟩,.string ⟨#[49]⟩,.slice none 0 0,.slice none 0 0,.slice none 0 0,.slice none 0 0,.slice none 0 0,.slice none 0 0,.bool false] 40)
 have i1:=i1.alloc (.cells #[.string ⟨#[97,97]⟩,.string ⟨#[49]⟩,.slice none 0 0,.slice (some ⟨g0 + 1,0,none⟩) 1 1,.slice none 0 0,.slice none 0 0,.slice none 0 0,.slice none 0 0,.bool false,.string ⟨#[98,98]⟩,.string ⟨#[49]⟩,.slice none 0 0,.slice none 0 0,.slice none 0 0,.slice none 0 0,.slice none 0 0,.slice none 0 0,.bool false,.string ⟨#[99,99]⟩,.string ⟨#[49]⟩,.slice none 0 0,.slice none 0 0,.slice none 0 0,.slice none 0 0,.slice none 0 0,.slice none 0 0,.bool false] 40)
 have i2:=Blk.Is.new W1 40 #[.string ⟨#[97,97]⟩,.string ⟨#[49]⟩,.slice none 0 0,.slice (some ⟨g0 + 1,0,none⟩) 1 1,.slice none 0 0,.slice none 0 0,.slice none 0 0,.slice none 0 0,.bool false,.string ⟨#[98,98]⟩,.string ⟨#[49]⟩,.slice none 0 0,.slice none 0 0,.slice none 0 0,.slice none 0 0,.slice none 0 0,.slice none 0 0,.bool false,.string ⟨#[99,99]⟩,.string ⟨#[49]⟩,.slice none 0 0,.slice none 0 0,.slice none 0 0,.slice none 0 0,.slice none 0 0,.slice none 0 0,.bool false]
 obtain ⟨W2,hW2⟩:∃ W,W1.alloc (.cells #[.string ⟨#[97,97]⟩,.string ⟨#[49]⟩,.slice none 0 0,.slice (some ⟨g0 + 1,0,none⟩) 1 1,.slice none 0 0,.slice none 0 0,.slice none 0 0,.slice none 0 0,.bool false,.string ⟨#[98,98]⟩,.string ⟨#[49]⟩,.slice none 0 0,.slice none 0 0,.slice none 0 0,.slice none 0 0,.slice none 0 0,.slice none 0 0,.bool false,.string ⟨#[99,99]⟩,.string ⟨#[49]⟩,.slice none 0 0,.slice none 0 0,.slice none 0 0,.slice none 0 0,.slice none 0 0,.slice none 0 0,.bool false] 40) = W:=⟨_,rfl⟩
 have s2:W2.heap.size = g0 + 3:=by rw [← hW2]; simp [s1]
 rw [hW2] at b2 i0 i1 i2
 rw [s1] at i2
 have b3:=b2.alloc b2.size (.cells #[.string ⟨#[97,97]⟩] 9)
 have i0':=i0.alloc (.cells #[.string ⟨#[97,97]⟩] 9)
 have i1':=i1.alloc (.cells #[.string ⟨#[97,97]⟩] 9)
 have i2':=i2.alloc (.cells #[.string ⟨#[97,97]⟩] 9)
 have i3:=Blk.Is.new W2 9 #[.string ⟨#[97,97]⟩]
 obtain ⟨W3,hW3⟩:∃ W,W2.alloc (.cells #[.string ⟨#[97,97]⟩] 9) = W:=⟨_,rfl⟩
 rw [hW3] at b3 i0' i1' i2' i3
 rw [s2] at i3
 have hr:=aw_pks i0' i1' i2'
 have he:Ens W3 (.slice none 0 0) []:=slc_nil _ _ _ _
 have ht:Txt.Texts W3 (.slice (some ⟨g0 + 3,0,none⟩) 1 1) (([[97,97]]:List Bs).map S):=(one_text (nm:=[97,97]) i3 1 (Nat.le_refl _)).here
 have ca:=of_reach _ _ _ awR [] [[97,97]] W3 hr he ht aw_lim (fun x hx=>by cases hx) (fun n hn=>by rw [List.mem_singleton.1 hn]; unfold LimS; decide) (hv.on b3)
 have HB:=Lib.hid b3
 have u0:=hW0
 have u1:=hW1
 have u2:=hW2
 have U3:=Lib.hid hW3
 clear b0 i0 b1 i1 b2 i2 b3 i0' i1' i2' i3 hr he ht hv hW0 hW1 hW2 hW3
 rw [← U3.out] at ca
 go_enter Tryz.func9,Tryz.ntmps9
 go_wp2_with fail
 clear u0 u1 u2
 refine ca.mono ?_
 rintro e w1 ⟨hca,k1⟩
 rw [U3.out] at k1
 have hb1:=HB.out.trans (k1.mono HB.out.size)
 clear ca k1
 rcases hca with ⟨h0,_⟩ | ⟨_,xs,WF,v',rfl,hg,hre,hpk⟩
 ·exact absurd aw_all h0
 ·have hso:=hg.so
  have hmy:=hg.may
  rw [aw_join] at hso hmy
  obtain rfl:xs = awR:=Ix.sorts_one hmy (List.Perm.refl _) hso aw_sorts
  rw [aw_reach hre] at hpk
  obtain ⟨_,a,cap,rfl,_,hcl⟩:=hpk
  obtain ⟨kb,off,rfl,hc2⟩:=hcl (by decide)
  obtain ⟨cs,⟨u1,u2,u3,u4,u5,u6,rfl,_⟩,hcell⟩:=hc2 1 (by decide)
  have x0:=hcell 0 _ rfl
  have x9:w1.cell? ⟨kb,off + 9,none⟩ = some (.string ⟨#[98,98]⟩):=x0
  have HB1:=Lib.hid hb1
  clear hg hre hso hmy hc2 hcell x0 hcl hb1
  go_wp2_with fail
  go_ret
  exact ⟨rfl,HB1.out⟩
end Un
end Go.Proofs.YtmhpjjjjgakpiaaGreatDoor

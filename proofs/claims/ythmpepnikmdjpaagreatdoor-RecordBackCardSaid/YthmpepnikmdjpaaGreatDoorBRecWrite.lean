/-
Packages, entries as they are printed: write, Print, PrintStatus, Stanza.
-/
import Derived.Test.YthmpepnikmdjpaaGreatDoorBRecVals2
import Derived.Test.YthmpepnikmdjpaaGreatDoorBRecAll2
import Derived.Test.YthmpepnikmdjpaaGreatDoorBRecParse
namespace Go.Proofs.YthmpepnikmdjpaaGreatDoor
open Go.RowKit
set_option linter.unusedSimpArgs false
set_option linter.unusedVariables false
namespace Rc
open Ver (Bs li li_len S S_self S_size S_li sameV)
open Va (Hi Vl VAt wrT)
open Stz (Fld Sz Flds Stzs Szd BytesAt)
open Rl (At Pv Ats Pvs Clss Slc LimA LimP LimC Vars nA nP mem_getD may nmB isV pvA aV pV tcells)
theorem flds_shape {w:World} {v:Value} {fs:List Fld} (h:Flds w v fs):∃ a c,v = .slice a fs.length c:=by
 obtain ⟨_,a,c,e,_⟩:=h
 exact ⟨a,c,e⟩
theorem prt_bad {β:Type} {sz:β → Sz} {my:List β → Int} {l:List β} (h:my l ≠ 0):prt sz my l = ([],my l):=by unfold prt; rw [if_pos h]
theorem prt_good {β:Type} {sz:β → Sz} {my:List β → Int} {l:List β} (h:my l = 0):prt sz my l = ((Stz.print (l.map sz)).1,(((Stz.print (l.map sz)).2:Nat):Int)):=by unfold prt; rw [if_neg (by rw [h]; simp)]
def Printed (t:Stz.Bs × Int) (w:World) (e:Ending) (w':World):Prop:=∃ u,e = .returned (.tuple #[u,.int .i64 t.2]) ∧ BytesAt w' u t.1 ∧ Below w.heap.size w w'
set_option maxRecDepth 100000 in
set_option maxHeartbeats 8000000 in
theorem writeP_any (v:Value) (l:List Pk) (w:World) (h:Pks w v l) (hL:∀ x ∈ l,x.Lim) (hG:Gl w) (hP:Va.Pow w) :
  Calls Tryz.prog 73 #[v,.func (.func 19) #[] #[],.func (.func 68) #[] #[]] w fun e w'=>Printed (prt szP mayAll l) w e w':=by
 have eg1:=enters_of Tryz.func19 (by kernel_rfl) rfl
 have eg2:=enters_of Tryz.func68 (by kernel_rfl) rfl
 obtain ⟨sa,cap,rfl⟩:=h.shape
 have cm:=mayAll_any _ l w h hL hG.v
 have H:=Lib.hid h
 have HL:=Lib.hid hL
 have HG:=Lib.hid hG
 have HP:=Lib.hid hP
 obtain ⟨n,hn⟩:∃ n,l.length = n:=⟨_,rfl⟩
 have HN:=Lib.hid hn
 rw [hn] at cm ⊢
 obtain ⟨M,hM⟩:∃ M:Int,mayAll l = M:=⟨_,rfl⟩
 rw [hM] at cm
 have HM:=Lib.hid hM
 obtain ⟨TT,hTT⟩:∃ T,prt szP mayAll l = T:=⟨_,rfl⟩
 rw [hTT]
 have HTT:=Lib.hid hTT
 clear hn hM h hL hG hP hTT
 go_enter Tryz.func73,Tryz.ntmps73
 go_wp2_with fail
 refine cm.mono ?_
 rintro e w1 ⟨rfl,k1⟩
 have K1:=Lib.hid k1
 clear cm k1
 by_cases hz:M = 0
 ·subst hz
  have hm0:mayAll l = 0:=HM.out
  have HM0:=Lib.hid hm0
  have HT0:Hid (TT = ((Stz.print (l.map szP)).1,(((Stz.print (l.map szP)).2:Nat):Int))):=Lib.hid (by rw [← HTT.out]; exact prt_good hm0)
  have hlen:l.length ≤ 24:=by have:=(mayAll_ok HM0.out).1; omega
  have HLN:=Lib.hid hlen
  clear hm0 hlen HM
  go_wp2_with fail
  go_loopg [9,20] n (fun gf s9 s20 wx=>∃ (k:Nat) (a:Option Addr) (c:Nat),s9 = .slice a k c ∧ s20 = .int .i64 k ∧ Hid (Acc SzC 2 40 w1.heap.size w1.heap.size wx (.slice a k c) ((l.take k).map szP)) ∧ Hid (Below w.heap.size w wx ∧ Below w1.heap.size w1 wx) ∧ k ≤ n ∧ n ≤ k + gf)
  case atStart=>exact ⟨0,none,0,rfl,rfl,Lib.hid (Acc.nil _ _ _ _ _ _),Lib.hid ⟨K1.out,Below.refl _ _⟩,by omega,by omega⟩
  case round =>
   obtain ⟨k,a,c,rfl,rfl,HA,HW,hkn,hfu⟩:=hrel
   by_cases hlt:k < n
   ·obtain ⟨g',rfl⟩:∃ g',gk = g' + 1:=⟨gk - 1,by omega⟩
    have hbw:=HW.out.1
    have hlt':(k:Int) < (n:Int):=by omega
    have hk0:(0:Int) ≤ k:=by omega
    have hkl:k < l.length:=by rw [HN.out]; exact hlt
    obtain ⟨_,a',cap',e1,_,hcells⟩:=H.out.below hbw
    simp only [Value.slice.injEq,true_and] at e1
    obtain ⟨rfl,rfl⟩:=e1
    obtain ⟨kb,off,rfl,hcl2⟩:=hcells (by omega)
    obtain ⟨a1,n1,c1,a2,n2,c2,a3,n3,c3,a4,n4,c4,a5,n5,c5,a6,n6,c6,⟨x0,x1,x2,x3,x4,x5,x6,x7,x8⟩,hh⟩:=pk_read (hcl2 k hkl)
    rw [Nat.mul_comm 9 k] at x0 x1 x2 x3 x4 x5 x6 x7 x8
    have hmem:=Rl.mem_getD (z:=nPk) hkl
    have hlim:=HL.out _ hmem
    have hok:=(mayAll_ok HM0.out).2 _ hmem
    have ht:l.take (k + 1) = l.take k ++ [l.getD k nPk]:=by
     rw [List.getD_eq_getElem?_getD,List.getElem?_eq_getElem hkl,Option.getD_some,List.take_append_getElem hkl]
    have hlt2:((l.take k).map szP).length = k:=by rw [List.length_map,List.length_take,HN.out]; omega
    have hk24:k + 1 ≤ 70000:=by have:=HLN.out; omega
    generalize hx:l.getD k nPk = x at *
    have hb2:=(Below.refl wr.heap.size wr).alloc (Nat.le_refl _) (.cells #[.string (S x.nm),.string (S x.vs),.slice a1 n1 c1,.slice a2 n2 c2,.slice a3 n3 c3,.slice a4 n4 c4,.slice a5 n5 c5,.slice a6 n6 c6,.bool x.ess] 31)
    have co:=ofPackage_any (.agg #[.string (S x.nm),.string (S x.vs),.slice a1 n1 c1,.slice a2 n2 c2,.slice a3 n3 c3,.slice a4 n4 c4,.slice a5 n5 c5,.slice a6 n6 c6,.bool x.ess]) x (wr.alloc (.cells #[.string (S x.nm),.string (S x.vs),.slice a1 n1 c1,.slice a2 n2 c2,.slice a3 n3 c3,.slice a4 n4 c4,.slice a5 n5 c5,.slice a6 n6 c6,.bool x.ess] 31)) ⟨_,_,_,_,_,_,rfl,hh.below hb2⟩ hok
    have ha2:=HA.out.on hb2
    have hb3:=HW.out.1.trans (hb2.mono HW.out.1.size)
    have hb4:=HW.out.2.trans (hb2.mono HW.out.2.size)
    have CO:=Lib.hid co
    have HT:=Lib.hid ht
    have HT2:=Lib.hid hlt2
    have HA2:=Lib.hid ha2
    have HB3:=Lib.hid hb3
    have HB4:=Lib.hid hb4
    have HLI:=Lib.hid hlim
    clear hx hcells hcl2 hh hmem hlim hok ht hlt2 hb2 co ha2 hb3 hb4 hbw HA HW
    go_wp2_with fail
    generalize wr.alloc (.cells #[.string (S x.nm),.string (S x.vs),.slice a1 n1 c1,.slice a2 n2 c2,.slice a3 n3 c3,.slice a4 n4 c4,.slice a5 n5 c5,.slice a6 n6 c6,.bool x.ess] 31) = W at *
    refine CO.out.mono ?_
    rintro e w2 ⟨cs,rfl,hV,k2⟩
    have hb3:=HB3.out.trans (k2.mono HB3.out.size)
    have cst:=stanzaM_any _ cs _ w2 hV (wrP HLI.out) (HG.out.on hb3) (HP.out.on hb3)
    have HA2:=Lib.hid (HA2.out.on k2)
    have HB4:=Lib.hid (HB4.out.trans (k2.mono HB4.out.size))
    have HB3:=Lib.hid hb3
    clear hb3 hV k2 CO
    go_wp2_with fail
    refine cst.mono ?_
    rintro e w3 ⟨v3,rfl,hF,k3⟩
    obtain ⟨fa,fc,rfl⟩:=flds_shape hF.here
    have HLOW:Hid (∀ g,Value.ownBlock (.slice a k c) = some g → g < w2.heap.size ∨ w3.heap.size ≤ g):=Lib.hid fun g hg=>by
     obtain ⟨_,ho⟩:=HA2.out.own
     exact .inl (Rl.own_lt ho hg).2
    obtain ⟨W4,hW4⟩:∃ W4,w3.alloc (.cells #[.int .i64 0,.slice fa (flds (valsP x)).length fc] 40) = W4:=⟨_,rfl⟩
    have hb5:Below w3.heap.size w3 W4:=by rw [← hW4]; exact (Below.refl _ _).alloc (Nat.le_refl _) _
    have i4:=Blk.Is.new w3 40 #[.int .i64 0,.slice fa (flds (valsP x)).length fc]
    rw [hW4] at i4
    have hin:In w2.heap.size w3.heap.size w3 (fun u=>SzC u [.int .i64 0,.slice fa (flds (valsP x)).length fc] (szP x)):=(In.of (show Hi w2.heap.size w3 (fun u=>SzC u [.int .i64 0,.slice fa (flds (valsP x)).length fc] (szP x)) from fun u hu=>⟨_,rfl,hF u hu⟩))
    have IN4:=Lib.hid (hin.on (Blk.Chg.ofBelow' hb5))
    have HL2:=Lib.hid HB4.out.size
    have HA4:=Lib.hid ((HA2.out.on k3).on hb5)
    have HB3:=Lib.hid ((HB3.out.trans (k3.mono HB3.out.size)).trans (hb5.mono (HB3.out.trans (k3.mono HB3.out.size)).size))
    have HB4:=Lib.hid ((HB4.out.trans (k3.mono HB4.out.size)).trans (hb5.mono (HB4.out.trans (k3.mono HB4.out.size)).size))
    have hm4:w3.heap.size ≤ W4.heap.size:=hb5.size
    have hw14:w1.heap.size ≤ W4.heap.size:=HB4.out.size
    have OW:=HA4.out.own
    rw [HT2.out] at OW
    have OWN:=Lib.hid OW
    have I4:=Lib.hid i4
    have HW4:=Lib.hid hW4
    obtain ⟨bx,hbx⟩:∃ bx,w3.heap.size = bx:=⟨_,rfl⟩
    rw [hbx] at I4 HLOW IN4 hm4
    generalize flds (valsP x) = fs at *
    clear cst hF k3 i4 hin hb5 OW hW4 HA2
    go_wp2_with (first | (at_builtin; (try rw [HW4.out]); refine append_at Tryz.underlying55 Stz.infoStanza rfl (by decide) rfl (.tmp 24) (.tmp 29) rfl w1.heap.size (.slice a k c) k rfl OWN.out bx 1 rfl [.int .i64 0,.slice fa fs.length fc] rfl (fun j u hj=>I4.out.at (by rw [← Array.getElem?_toList]; exact hj)) (fun u hu=>by simp only [List.mem_cons,List.not_mem_nil,or_false] at hu; rcases hu with rfl | rfl <;> rfl) hk24 hw14 ?_; intro v' w9 h2 h3 h4; have acc9:=HA4.out.more (cs:=[.int .i64 0,.slice fa fs.length fc]) rfl IN4.out hm4 HLOW.out HL2.out (by rw [HT2.out]; exact h2) h3 h4; obtain ⟨a9,c9,e9⟩:=acc9.shape; rw [List.length_append,HT2.out] at e9; have hb9:Below w.heap.size w w9:=Own.below_grown HB3.out (Stz.own_mono OWN.out.choose_spec K1.out.size) h3 (HB3.out.size); have hb19:Below w1.heap.size w1 w9:=Own.below_grown HB4.out OWN.out.choose_spec h3 hw14; have AC9:=Lib.hid acc9; have HB9:=Lib.hid (⟨hb9,hb19⟩:_ ∧ _); subst e9; clear h2 h3 h4 acc9 hb9 hb19 OWN HA4 IN4 HLOW HB3 HB4 I4) | fail)
    go_roundg g'
    case measure=>omega
    case rel =>
     refine ⟨k + 1,a9,c9,rfl,by go_num,Lib.hid ?_,HB9,by omega,by omega⟩
     rw [HT.out,List.map_append]
     exact AC9.out
   ·have hge:¬ (k:Int) < (n:Int):=by omega
    obtain rfl:k = n:=by omega
    have hacc:=HA.out
    rw [List.take_of_length_le (by rw [HN.out]; exact Nat.le_refl _)] at hacc
    have hst:=(Acc.stzs hacc (Nat.le_refl _) (by rw [List.length_map]; have:=HLN.out; omega)).here
    have cp:=Stz.print_any _ (l.map szP) wr hst (fun s hs f hf=>by
     obtain ⟨x,hx,rfl⟩:=List.mem_map.1 hs
     exact flds_szd (wrP (HL.out x hx)) f hf) (HG.out.on HW.out.1).u
    rw [show (Value.slice a k c) = .slice a k c from rfl] at cp
    have HWW:=Lib.hid HW.out.1
    obtain ⟨PT,hPT⟩:∃ P,Stz.print (l.map szP) = P:=⟨_,rfl⟩
    rw [hPT] at cp HT0
    clear hPT
    clear hacc hst HA HW
    go_wp2_with fail
    refine cp.mono ?_
    rintro e w4 ⟨u,rfl,hu,k4⟩
    have hb:=HWW.out.trans (k4.mono HWW.out.size)
    have HU:=Lib.hid hu
    have HB:=Lib.hid hb
    clear cp k4 hb hu
    go_wp2_with fail
    go_ret2
    rw [HT0.out]
    exact ⟨_,rfl,HU.out,HB.out⟩
 ·have hz1:(M != 0) = true:=by simp [hz]
  have HT0:Hid (TT = ([],M)):=Lib.hid (by rw [← HTT.out,prt_bad (by rw [HM.out]; exact hz),HM.out])
  clear hz
  go_wp2_with fail
  go_ret2
  rw [HT0.out]
  exact ⟨_,rfl,BytesAt.none _,K1.out⟩
set_option maxRecDepth 100000 in
set_option maxHeartbeats 8000000 in
theorem writeE_any (v:Value) (l:List En) (w:World) (h:Ens w v l) (hL:∀ x ∈ l,x.pk.Lim) (hG:Gl w) (hP:Va.Pow w) :
  Calls Tryz.prog 79 #[v,.func (.func 21) #[] #[],.func (.func 80) #[] #[]] w fun e w'=>Printed (prt szE mayEn l) w e w':=by
 have eg1:=enters_of Tryz.func21 (by kernel_rfl) rfl
 have eg2:=enters_of Tryz.func80 (by kernel_rfl) rfl
 obtain ⟨sa,cap,rfl⟩:=h.shape
 have cm:=mayEntries_any _ l w h hL hG.v
 have H:=Lib.hid h
 have HL:=Lib.hid hL
 have HG:=Lib.hid hG
 have HP:=Lib.hid hP
 obtain ⟨n,hn⟩:∃ n,l.length = n:=⟨_,rfl⟩
 have HN:=Lib.hid hn
 rw [hn] at cm ⊢
 obtain ⟨M,hM⟩:∃ M:Int,mayEn l = M:=⟨_,rfl⟩
 rw [hM] at cm
 have HM:=Lib.hid hM
 obtain ⟨TT,hTT⟩:∃ T,prt szE mayEn l = T:=⟨_,rfl⟩
 rw [hTT]
 have HTT:=Lib.hid hTT
 clear hn hM h hL hG hP hTT
 go_enter Tryz.func79,Tryz.ntmps79
 go_wp2_with fail
 refine cm.mono ?_
 rintro e w1 ⟨rfl,k1⟩
 have K1:=Lib.hid k1
 clear cm k1
 by_cases hz:M = 0
 ·subst hz
  have hm0:mayEn l = 0:=HM.out
  have HM0:=Lib.hid hm0
  have HT0:Hid (TT = ((Stz.print (l.map szE)).1,(((Stz.print (l.map szE)).2:Nat):Int))):=Lib.hid (by rw [← HTT.out]; exact prt_good hm0)
  have hlen:l.length ≤ 24:=by have:=(mayEn_ok HM0.out).1; omega
  have HLN:=Lib.hid hlen
  clear hm0 hlen HM
  go_wp2_with fail
  go_loopg [9,20] n (fun gf s9 s20 wx=>∃ (k:Nat) (a:Option Addr) (c:Nat),s9 = .slice a k c ∧ s20 = .int .i64 k ∧ Hid (Acc SzC 2 40 w1.heap.size w1.heap.size wx (.slice a k c) ((l.take k).map szE)) ∧ Hid (Below w.heap.size w wx ∧ Below w1.heap.size w1 wx) ∧ k ≤ n ∧ n ≤ k + gf)
  case atStart=>exact ⟨0,none,0,rfl,rfl,Lib.hid (Acc.nil _ _ _ _ _ _),Lib.hid ⟨K1.out,Below.refl _ _⟩,by omega,by omega⟩
  case round =>
   obtain ⟨k,a,c,rfl,rfl,HA,HW,hkn,hfu⟩:=hrel
   by_cases hlt:k < n
   ·obtain ⟨g',rfl⟩:∃ g',gk = g' + 1:=⟨gk - 1,by omega⟩
    have hbw:=HW.out.1
    have hlt':(k:Int) < (n:Int):=by omega
    have hk0:(0:Int) ≤ k:=by omega
    have hkl:k < l.length:=by rw [HN.out]; exact hlt
    obtain ⟨_,a',cap',e1,_,hcells⟩:=H.out.below hbw
    simp only [Value.slice.injEq,true_and] at e1
    obtain ⟨rfl,rfl⟩:=e1
    obtain ⟨kb,off,rfl,hcl2⟩:=hcells (by omega)
    obtain ⟨a1,n1,c1,a2,n2,c2,a3,n3,c3,a4,n4,c4,a5,n5,c5,a6,n6,c6,⟨x0,x1,x2,x3,x4,x5,x6,x7,x8,x9,x10⟩,hh⟩:=en_read (hcl2 k hkl)
    rw [Nat.mul_comm 11 k] at x0 x1 x2 x3 x4 x5 x6 x7 x8 x9 x10
    have hmem:=Rl.mem_getD (z:=nEn) hkl
    have hlim:=HL.out _ hmem
    have hok:=(mayEn_ok HM0.out).2 _ hmem
    have ht:l.take (k + 1) = l.take k ++ [l.getD k nEn]:=by
     rw [List.getD_eq_getElem?_getD,List.getElem?_eq_getElem hkl,Option.getD_some,List.take_append_getElem hkl]
    have hlt2:((l.take k).map szE).length = k:=by rw [List.length_map,List.length_take,HN.out]; omega
    have hk24:k + 1 ≤ 70000:=by have:=HLN.out; omega
    generalize hx:l.getD k nEn = x at *
    have hb2:=(Below.refl wr.heap.size wr).alloc (Nat.le_refl _) (.cells #[.string (S x.pk.nm),.string (S x.pk.vs),.slice a1 n1 c1,.slice a2 n2 c2,.slice a3 n3 c3,.slice a4 n4 c4,.slice a5 n5 c5,.slice a6 n6 c6,.bool x.pk.ess,.bool x.cfg,.bool x.hld] 68)
    have co:=ofEntry_any (.agg #[.string (S x.pk.nm),.string (S x.pk.vs),.slice a1 n1 c1,.slice a2 n2 c2,.slice a3 n3 c3,.slice a4 n4 c4,.slice a5 n5 c5,.slice a6 n6 c6,.bool x.pk.ess,.bool x.cfg,.bool x.hld]) x (wr.alloc (.cells #[.string (S x.pk.nm),.string (S x.pk.vs),.slice a1 n1 c1,.slice a2 n2 c2,.slice a3 n3 c3,.slice a4 n4 c4,.slice a5 n5 c5,.slice a6 n6 c6,.bool x.pk.ess,.bool x.cfg,.bool x.hld] 68)) ⟨_,_,_,_,_,_,rfl,hh.below hb2⟩ hok
    have ha2:=HA.out.on hb2
    have hb3:=HW.out.1.trans (hb2.mono HW.out.1.size)
    have hb4:=HW.out.2.trans (hb2.mono HW.out.2.size)
    have CO:=Lib.hid co
    have HT:=Lib.hid ht
    have HT2:=Lib.hid hlt2
    have HA2:=Lib.hid ha2
    have HB3:=Lib.hid hb3
    have HB4:=Lib.hid hb4
    have HLI:=Lib.hid hlim
    clear hx hcells hcl2 hh hmem hlim hok ht hlt2 hb2 co ha2 hb3 hb4 hbw HA HW
    go_wp2_with fail
    generalize wr.alloc (.cells #[.string (S x.pk.nm),.string (S x.pk.vs),.slice a1 n1 c1,.slice a2 n2 c2,.slice a3 n3 c3,.slice a4 n4 c4,.slice a5 n5 c5,.slice a6 n6 c6,.bool x.pk.ess,.bool x.cfg,.bool x.hld] 68) = W at *
    refine CO.out.mono ?_
    rintro e w2 ⟨cs,rfl,hV,k2⟩
    have hb3:=HB3.out.trans (k2.mono HB3.out.size)
    have cst:=stanzaM_any _ cs _ w2 hV (wrE HLI.out) (HG.out.on hb3) (HP.out.on hb3)
    have HA2:=Lib.hid (HA2.out.on k2)
    have HB4:=Lib.hid (HB4.out.trans (k2.mono HB4.out.size))
    have HB3:=Lib.hid hb3
    clear hb3 hV k2 CO
    go_wp2_with fail
    refine cst.mono ?_
    rintro e w3 ⟨v3,rfl,hF,k3⟩
    obtain ⟨fa,fc,rfl⟩:=flds_shape hF.here
    have HLOW:Hid (∀ g,Value.ownBlock (.slice a k c) = some g → g < w2.heap.size ∨ w3.heap.size ≤ g):=Lib.hid fun g hg=>by
     obtain ⟨_,ho⟩:=HA2.out.own
     exact .inl (Rl.own_lt ho hg).2
    obtain ⟨W4,hW4⟩:∃ W4,w3.alloc (.cells #[.int .i64 0,.slice fa (flds (valsE x)).length fc] 40) = W4:=⟨_,rfl⟩
    have hb5:Below w3.heap.size w3 W4:=by rw [← hW4]; exact (Below.refl _ _).alloc (Nat.le_refl _) _
    have i4:=Blk.Is.new w3 40 #[.int .i64 0,.slice fa (flds (valsE x)).length fc]
    rw [hW4] at i4
    have hin:In w2.heap.size w3.heap.size w3 (fun u=>SzC u [.int .i64 0,.slice fa (flds (valsE x)).length fc] (szE x)):=(In.of (show Hi w2.heap.size w3 (fun u=>SzC u [.int .i64 0,.slice fa (flds (valsE x)).length fc] (szE x)) from fun u hu=>⟨_,rfl,hF u hu⟩))
    have IN4:=Lib.hid (hin.on (Blk.Chg.ofBelow' hb5))
    have HL2:=Lib.hid HB4.out.size
    have HA4:=Lib.hid ((HA2.out.on k3).on hb5)
    have HB3:=Lib.hid ((HB3.out.trans (k3.mono HB3.out.size)).trans (hb5.mono (HB3.out.trans (k3.mono HB3.out.size)).size))
    have HB4:=Lib.hid ((HB4.out.trans (k3.mono HB4.out.size)).trans (hb5.mono (HB4.out.trans (k3.mono HB4.out.size)).size))
    have hm4:w3.heap.size ≤ W4.heap.size:=hb5.size
    have hw14:w1.heap.size ≤ W4.heap.size:=HB4.out.size
    have OW:=HA4.out.own
    rw [HT2.out] at OW
    have OWN:=Lib.hid OW
    have I4:=Lib.hid i4
    have HW4:=Lib.hid hW4
    obtain ⟨bx,hbx⟩:∃ bx,w3.heap.size = bx:=⟨_,rfl⟩
    rw [hbx] at I4 HLOW IN4 hm4
    generalize flds (valsE x) = fs at *
    clear cst hF k3 i4 hin hb5 OW hW4 HA2
    go_wp2_with (first | (at_builtin; (try rw [HW4.out]); refine append_at Tryz.underlying55 Stz.infoStanza rfl (by decide) rfl (.tmp 24) (.tmp 29) rfl w1.heap.size (.slice a k c) k rfl OWN.out bx 1 rfl [.int .i64 0,.slice fa fs.length fc] rfl (fun j u hj=>I4.out.at (by rw [← Array.getElem?_toList]; exact hj)) (fun u hu=>by simp only [List.mem_cons,List.not_mem_nil,or_false] at hu; rcases hu with rfl | rfl <;> rfl) hk24 hw14 ?_; intro v' w9 h2 h3 h4; have acc9:=HA4.out.more (cs:=[.int .i64 0,.slice fa fs.length fc]) rfl IN4.out hm4 HLOW.out HL2.out (by rw [HT2.out]; exact h2) h3 h4; obtain ⟨a9,c9,e9⟩:=acc9.shape; rw [List.length_append,HT2.out] at e9; have hb9:Below w.heap.size w w9:=Own.below_grown HB3.out (Stz.own_mono OWN.out.choose_spec K1.out.size) h3 (HB3.out.size); have hb19:Below w1.heap.size w1 w9:=Own.below_grown HB4.out OWN.out.choose_spec h3 hw14; have AC9:=Lib.hid acc9; have HB9:=Lib.hid (⟨hb9,hb19⟩:_ ∧ _); subst e9; clear h2 h3 h4 acc9 hb9 hb19 OWN HA4 IN4 HLOW HB3 HB4 I4) | fail)
    go_roundg g'
    case measure=>omega
    case rel =>
     refine ⟨k + 1,a9,c9,rfl,by go_num,Lib.hid ?_,HB9,by omega,by omega⟩
     rw [HT.out,List.map_append]
     exact AC9.out
   ·have hge:¬ (k:Int) < (n:Int):=by omega
    obtain rfl:k = n:=by omega
    have hacc:=HA.out
    rw [List.take_of_length_le (by rw [HN.out]; exact Nat.le_refl _)] at hacc
    have hst:=(Acc.stzs hacc (Nat.le_refl _) (by rw [List.length_map]; have:=HLN.out; omega)).here
    have cp:=Stz.print_any _ (l.map szE) wr hst (fun s hs f hf=>by
     obtain ⟨x,hx,rfl⟩:=List.mem_map.1 hs
     exact flds_szd (wrE (HL.out x hx)) f hf) (HG.out.on HW.out.1).u
    rw [show (Value.slice a k c) = .slice a k c from rfl] at cp
    have HWW:=Lib.hid HW.out.1
    obtain ⟨PT,hPT⟩:∃ P,Stz.print (l.map szE) = P:=⟨_,rfl⟩
    rw [hPT] at cp HT0
    clear hPT
    clear hacc hst HA HW
    go_wp2_with fail
    refine cp.mono ?_
    rintro e w4 ⟨u,rfl,hu,k4⟩
    have hb:=HWW.out.trans (k4.mono HWW.out.size)
    have HU:=Lib.hid hu
    have HB:=Lib.hid hb
    clear cp k4 hb hu
    go_wp2_with fail
    go_ret2
    rw [HT0.out]
    exact ⟨_,rfl,HU.out,HB.out⟩
 ·have hz1:(M != 0) = true:=by simp [hz]
  have HT0:Hid (TT = ([],M)):=Lib.hid (by rw [← HTT.out,prt_bad (by rw [HM.out]; exact hz),HM.out])
  clear hz
  go_wp2_with fail
  go_ret2
  rw [HT0.out]
  exact ⟨_,rfl,BytesAt.none _,K1.out⟩
set_option maxRecDepth 100000 in
set_option maxHeartbeats 2000000 in
theorem print_any (v:Value) (l:List Pk) (w:World) (h:Pks w v l) (hL:∀ x ∈ l,x.Lim) (hG:Gl w) (hP:Va.Pow w) :
  Calls Tryz.prog 27 #[v] w fun e w'=>Printed (prt szP mayAll l) w e w':=by
 have c:=writeP_any v l w h hL hG hP
 generalize prt szP mayAll l = T at *
 clear h hL hG hP
 go_enter Tryz.func27,Tryz.ntmps27
 go_wp2_with fail
 refine c.mono ?_
 rintro e w1 ⟨u,rfl,hu,k1⟩
 have HU:=Lib.hid hu
 clear hu c
 go_wp2_with fail
 go_ret2
 exact ⟨_,rfl,HU.out,k1⟩
set_option maxRecDepth 100000 in
set_option maxHeartbeats 2000000 in
theorem printStatus_any (v:Value) (l:List En) (w:World) (h:Ens w v l) (hL:∀ x ∈ l,x.pk.Lim) (hG:Gl w) (hP:Va.Pow w) :
  Calls Tryz.prog 36 #[v] w fun e w'=>Printed (prt szE mayEn l) w e w':=by
 have c:=writeE_any v l w h hL hG hP
 generalize prt szE mayEn l = T at *
 clear h hL hG hP
 go_enter Tryz.func36,Tryz.ntmps36
 go_wp2_with fail
 refine c.mono ?_
 rintro e w1 ⟨u,rfl,hu,k1⟩
 have HU:=Lib.hid hu
 clear hu c
 go_wp2_with fail
 go_ret2
 exact ⟨_,rfl,HU.out,k1⟩
theorem prtP_ok {l:List Pk} (h:(prt szP mayAll l).2 = 0):mayAll l = 0 ∧ Told ofS mayAll (S (prt szP mayAll l).1) (.ok l):=by
 by_cases hm:mayAll l = 0
 ·rw [prt_good hm] at h ⊢
  exact ⟨hm,pks_back hm (by simpa using h)⟩
 ·rw [prt_bad hm] at h
  exact absurd h hm
theorem prtP_err {l:List Pk} (h:(prt szP mayAll l).2 ≠ 0):(prt szP mayAll l).2 = mayAll l ∨ (mayAll l = 0 ∧ (prt szP mayAll l).2 = 2):=by
 by_cases hm:mayAll l = 0
 ·rw [prt_good hm] at h ⊢
  rcases pks_two hm with e | e
  ·exact absurd (by simp [e]) h
  ·exact .inr ⟨hm,by simp [e]⟩
 ·rw [prt_bad hm]
  exact .inl rfl
theorem prtE_ok {l:List En} (h:(prt szE mayEn l).2 = 0):mayEn l = 0 ∧ Told enS mayEn (S (prt szE mayEn l).1) (.ok l):=by
 by_cases hm:mayEn l = 0
 ·rw [prt_good hm] at h ⊢
  exact ⟨hm,ens_back hm (by simpa using h)⟩
 ·rw [prt_bad hm] at h
  exact absurd h hm
theorem prtE_err {l:List En} (h:(prt szE mayEn l).2 ≠ 0):(prt szE mayEn l).2 = mayEn l ∨ (mayEn l = 0 ∧ (prt szE mayEn l).2 = 2):=by
 by_cases hm:mayEn l = 0
 ·rw [prt_good hm] at h ⊢
  rcases ens_two hm with e | e
  ·exact absurd (by simp [e]) h
  ·exact .inr ⟨hm,by simp [e]⟩
 ·rw [prt_bad hm]
  exact .inl rfl
end Rc
end Go.Proofs.YthmpepnikmdjpaaGreatDoor

/-
The law UniverseGrows.
-/
import Derived.Test.YtmhpjjjjgakpiaaGreatDoorCUniAwake
import Derived.Test.YtmhpjjjjgakpiaaGreatDoorCUniLight
import Derived.Test.YtmhpjjjjgakpiaaGreatDoorCRecSame2
import Derived.Test.YtmhpjjjjgakpiaaGreatDoorCRecSame
import Derived.Test.YtmhpjjjjgakpiaaGreatDoorCIxYNames
namespace Go.Proofs.YtmhpjjjjgakpiaaGreatDoor
open Go.RowKit
set_option linter.unusedSimpArgs false
set_option linter.unusedVariables false
namespace Un
open Ver (Bs S S_size)
open Rl (At Vars mem_getD)
open Rc (Pk nPk En nEn Pks Ens mayAll)
open Ix (Sorts LimS insAll)
theorem of_x (v1 v2 v3:Value) (r:List Pk) (s:List En) (ns:List Bs) (w:World) (h1:Pks w v1 r) (h2:Ens w v2 s) (h3:Txt.Texts w v3 (ns.map S)) (hL1:∀ x ∈ r,x.Lim) (hL2:∀ x ∈ s,x.pk.Lim) (hL3:∀ n ∈ ns,LimS n) (hv:Vars w) :
  Calls Tryz.prog 13 #[v1,v2,v3] w fun e w'=>∃ va,e = .returned (.tuple #[va,.int .i64 (allE r s)]) ∧ (allE r s = 0 → Ix.MayL (joinL r s) ∧ ∃ WF,Reaches (insAll (joinL r s) []) (s.map (fun x=>x.pk.nm) ++ ns) WF ∧ Pks w' va (inW WF (insAll (joinL r s) []))) ∧ Below w.heap.size w w':=by
 refine (of_reach v1 v2 v3 r s ns w h1 h2 h3 hL1 hL2 hL3 hv).mono ?_
 rintro e w' ⟨hc,k⟩
 rcases hc with ⟨hE,rfl⟩ | ⟨hE,xs,WF,va,rfl,hg,hW,hp⟩
 ·exact ⟨_,rfl,fun h=>absurd h hE,k⟩
 ·have hxs:xs = insAll (joinL r s) []:=Ix.sorts_one hg.may (List.Perm.refl _) hg.so (Ix.sorts_ins fun p hp=>(hg.may.each p hp).ver)
  exact ⟨va,by rw [hE],fun _=>⟨hg.may,WF,hxs ▸ hW,hxs ▸ hp⟩,k⟩
theorem sub_ne {a b:Pk} {l m:List Pk} (h:(a :: l).Sublist (b :: m)) (e:¬ a = b):(a :: l).Sublist m:=by
 cases h with
 | cons _ h=>exact h
 | cons_cons _ h=>exact absurd rfl e
theorem sub_step {x y:List Pk} {k j:Nat} (h:(x.drop k).Sublist (y.drop j)) (hk:k < x.length) (hj:j < y.length):(x.getD k nPk = y.getD j nPk → (x.drop (k + 1)).Sublist (y.drop (j + 1))) ∧ (¬ x.getD k nPk = y.getD j nPk → (x.drop k).Sublist (y.drop (j + 1))):=by
 have ex:x.drop k = x.getD k nPk :: x.drop (k + 1):=by rw [List.drop_eq_getElem_cons hk]; simp [List.getD_eq_getElem?_getD,hk]
 have ey:y.drop j = y.getD j nPk :: y.drop (j + 1):=by rw [List.drop_eq_getElem_cons hj]; simp [List.getD_eq_getElem?_getD,hj]
 rw [ey,ex] at h
 refine ⟨fun e=>?_,fun e=>?_⟩
 ·rw [e] at h
  exact List.cons_sublist_cons.1 h
 ·rw [ex]
  exact sub_ne h e
theorem sub_past {x y:List Pk} {k j:Nat} (hk:x.length ≤ k):(x.drop k).Sublist (y.drop (j + 1)):=by
 rw [List.drop_eq_nil_of_le hk]
 exact List.nil_sublist _
theorem sub_end {x y:List Pk} {k:Nat} (h:(x.drop k).Sublist (y.drop y.length)) (hk:k ≤ x.length):k = x.length:=by
 rw [List.drop_length] at h
 have:=h.length_le
 rw [List.length_drop,List.length_nil] at this
 omega
theorem inW_sub {W1 W2:List Bs} {xs:List Pk} (h:∀ n ∈ W1,n ∈ W2):(inW W1 xs).Sublist (inW W2 xs):=by
 have e:inW W1 xs = (inW W2 xs).filter fun p=>decide (p.nm ∈ W1):=by
  unfold inW
  rw [List.filter_filter]
  refine List.filter_congr fun p _=>?_
  by_cases h1:p.nm ∈ W1
  ·simp [h1,h _ h1]
  ·simp [h1]
 rw [e]
 exact List.filter_sublist
theorem names_in (W:List Bs) (xs:List Pk) (n:Bs):n ∈ Ix.insNs ((inW W xs).map Pk.nm) [] ↔ (∃ p ∈ xs,p.nm = n) ∧ n ∈ W:=by
 rw [Ix.insNs_mem,List.mem_map]
 unfold inW
 constructor
 ·rintro (⟨p,hp,rfl⟩ | h)
  ·rw [List.mem_filter,decide_eq_true_eq] at hp
   exact ⟨⟨p,hp.1,rfl⟩,hp.2⟩
  ·cases h
 ·rintro ⟨⟨p,hp,rfl⟩,hn⟩
  exact .inl ⟨p,List.mem_filter.2 ⟨hp,decide_eq_true hn⟩,rfl⟩
theorem again_eq {xs:List Pk} {sn a nx W1 W3:List Bs} (h1:Reaches xs (sn ++ a) W1) (h3:Reaches xs (sn ++ nx) W3) (hn:∀ n,n ∈ nx ↔ (∃ p ∈ xs,p.nm = n) ∧ n ∈ W1):inW W3 xs = inW W1 xs:=by
 have key:∀ n,Rch xs (sn ++ nx) n → n ∈ W1:=fun n h=>by
  induction h with
  | seed hs hp =>
   rcases List.mem_append.1 hs with h | h
   ·exact (h1 _).2 (.seed (List.mem_append_left _ h) hp)
   ·exact ((hn _).1 h).2
  | step _ hp ha hq hs ih=>exact (h1 _).2 (.step ((h1 _).1 ih) hp ha hq hs)
 exact inW_congr fun n hp=>⟨fun h=>key n ((h3 n).1 h),fun h=>(h3 n).2 (.seed (List.mem_append_right _ ((hn n).2 ⟨hp,h⟩)) hp)⟩
theorem tx_append2 (a b:List Bs):tx (a ++ b) = tx a ++ tx b:=by unfold tx; rw [List.map_append]
set_option maxRecDepth 100000 in
set_option maxHeartbeats 32000000 in
theorem grows_walk (v0 v1:Value) (v2 v3:Value) (la lb:List Bs) (r:List Pk) (s:List En) (w:World) (h0:Pks w v0 r) (h1:Ens w v1 s) (h2:Txt.Texts w v2 (la.map S)) (h3:Txt.Texts w v3 (lb.map S)) (hL2:∀ n ∈ la,LimS n) (hL3:∀ n ∈ lb,LimS n) (hL0:∀ x ∈ r,x.Lim) (hL1:∀ x ∈ s,x.pk.Lim) (hbig:s.length * 184 ≤ 140737488355328) (hv:Vars w) :
  Calls Tryz.prog 5 #[v0,v1,v2,v3] w fun e w'=>e = .returned (.bool true) ∧ Below w.heap.size w w':=by
 have cl:=light_any v0 r w h0
 obtain ⟨sa0,cap0,rfl⟩:=h0.shape
 obtain ⟨sa1,cap1,rfl⟩:=h1.shape
 have H0:=Lib.hid h0
 have H1:=Lib.hid h1
 have HL0:=Lib.hid hL0
 have HL1:=Lib.hid hL1
 have HBIG:=Lib.hid hbig
 have HV:=Lib.hid hv
 obtain ⟨hx2,a2,c2,rfl,hc2,_⟩:=id h2
 have H2:=Lib.hid h2
 have HL2:=Lib.hid hL2
 obtain ⟨an,han⟩:∃ an,la.length = an:=⟨_,rfl⟩
 have HAN:=Lib.hid han
 rw [List.length_map,han] at hc2 hx2 H2 ⊢
 obtain ⟨hx3,a3,c3,rfl,hc3,_⟩:=id h3
 have H3:=Lib.hid h3
 have HL3:=Lib.hid hL3
 obtain ⟨bn,hbn⟩:∃ bn,lb.length = bn:=⟨_,rfl⟩
 have HBN:=Lib.hid hbn
 rw [List.length_map,hbn] at hc3 hx3 H3 ⊢
 clear h2 hL2 h3 hL3 han hbn
 obtain ⟨n,hn⟩:∃ n,r.length = n:=⟨_,rfl⟩
 obtain ⟨m,hm⟩:∃ m,s.length = m:=⟨_,rfl⟩
 have HN:=Lib.hid hn
 have HMN:=Lib.hid hm
 rw [hn] at cl H0 ⊢
 rw [hm] at H1 ⊢
 obtain ⟨b1,hb1⟩:∃ b1,lightB r = b1:=⟨_,rfl⟩
 rw [hb1] at cl
 have HB1:=Lib.hid hb1
 clear hn hm h0 h1 hL0 hL1 hbig hv hb1
 go_enter Tryz.func5,Tryz.ntmps5
 go_wp2_with fail
 refine cl.mono ?_
 rintro e w1 ⟨rfl,k1⟩
 have K1:=Lib.hid k1
 clear cl k1
 cases b1 with
 | false =>
  have ca:=awake_any w1 (HV.out.on K1.out)
  go_wp2_with fail
  refine ca.mono ?_
  rintro e w9 ⟨rfl,k9⟩
  have hb:=K1.out.trans (k9.mono K1.out.size)
  clear ca
  go_wp2_with fail
  go_ret
  exact ⟨rfl,hb⟩
 | true =>
  have cb:=bare_any _ s w1 (H1.out.below K1.out) HBIG.out
  go_wp2_with fail
  refine cb.mono ?_
  rintro e w2 ⟨v2,rfl,hp2,k2⟩
  have cl2:=light_any _ _ w2 hp2
  have K2:=Lib.hid (K1.out.trans (k2.mono K1.out.size))
  obtain ⟨b2,hb2⟩:∃ b2,lightB (s.map En.pk) = b2:=⟨_,rfl⟩
  rw [hb2] at cl2
  have HB2:=Lib.hid hb2
  clear cb hp2 k2 hb2
  go_wp2_with fail
  refine cl2.mono ?_
  rintro e w3 ⟨rfl,k3⟩
  have K3:=Lib.hid (K2.out.trans (k3.mono K2.out.size))
  clear cl2 k3
  cases b2 with
  | false =>
   have ca:=awake_any w3 (HV.out.on K3.out)
   go_wp2_with fail
   refine ca.mono ?_
   rintro e w9 ⟨rfl,k9⟩
   have hb:=K3.out.trans (k9.mono K3.out.size)
   clear ca
   go_wp2_with fail
   go_ret
   exact ⟨rfl,hb⟩
  | true =>
   by_cases hba:10 < an
   ·have hba':(10:Int) < (an:Int):=by omega
    have ca:=awake_any w3 (HV.out.on K3.out)
    go_wp2_with fail
    refine ca.mono ?_
    rintro e w9 ⟨rfl,k9⟩
    have hb:=K3.out.trans (k9.mono K3.out.size)
    clear ca
    go_wp2_with fail
    go_ret
    exact ⟨rfl,hb⟩
   ·have hba':¬ (10:Int) < (an:Int):=by omega
    by_cases hbb:10 < bn
    ·have hbb':(10:Int) < (bn:Int):=by omega
     have ca:=awake_any w3 (HV.out.on K3.out)
     go_wp2_with fail
     refine ca.mono ?_
     rintro e w9 ⟨rfl,k9⟩
     have hb:=K3.out.trans (k9.mono K3.out.size)
     clear ca
     go_wp2_with fail
     go_ret
     exact ⟨rfl,hb⟩
    ·have hbb':¬ (10:Int) < (bn:Int):=by omega
     have c1:=of_x _ _ _ r s la w3 (H0.out.below K3.out) (H1.out.below K3.out) (H2.out.below K3.out) HL0.out HL1.out HL2.out (HV.out.on K3.out)
     obtain ⟨E,hE⟩:∃ E,allE r s = E:=⟨_,rfl⟩
     have HE:=Lib.hid hE
     rw [hE] at c1
     clear hE
     go_wp2_with fail
     refine c1.mono ?_
     rintro e w4 ⟨vx,rfl,hcx,k4⟩
     have K4:=Lib.hid (K3.out.trans (k4.mono K3.out.size))
     have HCX:=Lib.hid hcx
     clear c1 k4 hcx
     obtain ⟨i0,hi,hz0,hz1,hz2⟩:=info_parts infoTx
     have HI:=Lib.hid hi
     have OWN:=Lib.hid (World.ownsRow_lit (base:=w4.heap.size) (e:=9) (size:=1) w4 #[] 0 (Nat.le_refl _) (by decide) rfl)
     have hbA:=(Below.refl w4.heap.size w4).alloc (Nat.le_refl _) (.cells #[] 9)
     have hsrc:=texts_src ((H2.out.below K4.out).below hbA) (by rw [HAN.out]; omega)
     rw [HAN.out] at hsrc
     have SRC:=Lib.hid hsrc
     have BA:=Lib.hid hbA
     have hsz:=hbA.size
     obtain ⟨CS,hCS⟩:∃ CS,tx la = CS:=⟨_,rfl⟩
     have HCS:=Lib.hid hCS
     rw [hCS] at SRC
     obtain ⟨CT,hCT⟩:∃ CT,tx lb = CT:=⟨_,rfl⟩
     have HCT:=Lib.hid hCT
     have H34:=Lib.hid (H3.out.below K4.out)
     clear hi hbA hsrc hCS hCT
     go_wp2_with (first | (at_builtin; refine Own.wpList_append_src rfl (.tmp 48) (.tmp 49) 32 32 rfl w4.heap.size 9 i0 _ 1 16 Tryz.underlying32 HI.out hz0 hz1 hz2 rfl _ 0 [] rfl OWN.out _ an CS rfl SRC.out (by simp only [maxLen]; omega) (by omega) hsz ?_; intro v9 w9 o9 g9; have B9:=Lib.hid (Own.below_grown BA.out OWN.out g9 hsz); have o9:w9.ownsRow w4.heap.size 9 1 v9 an CS:=(by simpa using o9); have O9:=Lib.hid o9; have sz9:=B9.out.size; have SRC2:=Lib.hid (show Src Tryz.prog 1 32 (.slice a3 bn c3) bn CT w9 by have h:=texts_src (H34.out.below B9.out) (by rw [HBN.out]; omega); rw [HBN.out,HCT.out] at h; exact h); clear o9 g9) | (at_builtin; refine Own.wpList_append_src rfl (.tmp 50) (.tmp 51) 32 32 rfl w4.heap.size 9 i0 _ 1 16 Tryz.underlying32 HI.out hz0 hz1 hz2 rfl _ an CS rfl O9.out _ bn CT rfl SRC2.out (by simp only [maxLen]; omega) (by omega) sz9 ?_; intro v10 w10 o10 g10; have B10:=Lib.hid (Own.below_grown B9.out O9.out g10 sz9); have O10:=Lib.hid o10; clear o10 g10))
     have K10:=Lib.hid (K4.out.trans (B10.out.mono K4.out.size))
     have ht10:Txt.Texts w10 v10 ((la ++ lb).map S):=Txt.Texts.owned (by
      have h:=O10.out
      rw [← HCS.out,← HCT.out,← HAN.out,← HBN.out] at h
      rw [List.length_map,List.length_append,tx_map,tx_append2]
      exact h) (by rw [List.length_map,List.length_append,HAN.out,HBN.out]; omega)
     have hL23:∀ x ∈ la ++ lb,LimS x:=fun x hx=>(List.mem_append.1 hx).elim (HL2.out x) (HL3.out x)
     have c2:=of_x _ _ v10 r s (la ++ lb) w10 (H0.out.below K10.out) (H1.out.below K10.out) ht10 HL0.out HL1.out hL23 (HV.out.on K10.out)
     rw [HE.out] at c2
     clear ht10 hL23 OWN SRC BA SRC2 O9 O10 H34
     refine c2.mono ?_
     rintro e w5 ⟨vy,rfl,hcy,k5⟩
     have K5:=Lib.hid (K10.out.trans (k5.mono K10.out.size))
     have K45:=Lib.hid (B10.out.trans (k5.mono B10.out.size))
     clear c2 k5
     by_cases hE0:E = 0
     ·subst hE0
      obtain ⟨hMay,WF1,hW1,hpx⟩:=HCX.out rfl
      obtain ⟨_,WF2,hW2,hpy⟩:=hcy rfl
      have hsub:∀ n ∈ WF1,n ∈ WF2:=fun n hn=>(hW2 n).2 (Rch.mono (fun m hm=>(List.mem_append.1 hm).elim (fun h=>List.mem_append_left _ h) fun h=>List.mem_append_right _ (List.mem_append_left _ h)) ((hW1 n).1 hn))
      have hS:=inW_sub (xs:=insAll (joinL r s) []) hsub
      have hl1:=inW_len WF1 (insAll (joinL r s) [])
      have hl2:=inW_len WF2 (insAll (joinL r s) [])
      have hso:Sorts (joinL r s) (insAll (joinL r s) []):=Ix.sorts_ins fun p hp=>(hMay.each p hp).ver
      have hl3:(insAll (joinL r s) []).length ≤ 24:=by rw [hso.1.length_eq]; exact hMay.len
      have nxm:=names_in WF1 (insAll (joinL r s) [])
      have nxl:∀ n ∈ Ix.insNs ((inW WF1 (insAll (joinL r s) [])).map Pk.nm) [],LimS n:=fun n hn=>by
       obtain ⟨⟨p,hp,rfl⟩,_⟩:=(nxm n).1 hn
       exact (join_lim HL0.out HL1.out p (hso.1.mem_iff.1 hp)).nm
      have HW1:=Lib.hid hW1
      obtain ⟨X,hX⟩:∃ X,inW WF1 (insAll (joinL r s) []) = X:=⟨_,rfl⟩
      obtain ⟨Y,hY⟩:∃ Y,inW WF2 (insAll (joinL r s) []) = Y:=⟨_,rfl⟩
      rw [hX] at hpx hS hl1 nxm nxl
      rw [hY] at hpy hS hl2
      obtain ⟨xa,xc,rfl⟩:=hpx.shape
      obtain ⟨ya,yc,rfl⟩:=hpy.shape
      obtain ⟨M,hM⟩:∃ M,X.length = M:=⟨_,rfl⟩
      obtain ⟨N,hN⟩:∃ N,Y.length = N:=⟨_,rfl⟩
      have HXM:=Lib.hid hM
      have HYN:=Lib.hid hN
      have HX:=Lib.hid (hpx.below K45.out)
      have HY:=Lib.hid hpy
      rw [hM] at HX hl1 ⊢
      rw [hN] at HY hl2 ⊢
      have hM24:M ≤ 24:=by omega
      have hN24:N ≤ 24:=by omega
      have NXM:=Lib.hid nxm
      have NXL:=Lib.hid nxl
      have EX:=Lib.hid hX
      have KY:=K5
      have S0:Hid ((X.drop 0).Sublist (Y.drop 0)):=Lib.hid (by rw [List.drop_zero,List.drop_zero]; exact hS)
      clear hMay hW1 hpx hcy hW2 hpy hsub hS hl1 hl2 hso hl3 nxm nxl hX hY hM hN HCX
      go_wp2_with fail
      go_loopg [13,70] N (fun gf s13 s70 wx=>∃ (k j:Nat),s13 = .int .i64 k ∧ s70 = .int .i64 j ∧ Hid ((X.drop k).Sublist (Y.drop j)) ∧ k ≤ M ∧ j ≤ N ∧ N ≤ j + gf ∧ Hid (Below w5.heap.size w5 wx))
      case atStart=>exact ⟨0,0,rfl,rfl,S0,by omega,by omega,by omega,Lib.hid (Below.refl _ _)⟩
      case round =>
       rename World=>wk
       obtain ⟨k,j,rfl,rfl,HS,hkM,hjN,hfu,HB⟩:=hrel
       by_cases hltj:j < N
       ·obtain ⟨g',rfl⟩:∃ g',gk = g' + 1:=⟨gk - 1,by omega⟩
        have hltj':(j:Int) < (N:Int):=by omega
        have hj0:(0:Int) ≤ j:=by omega
        have hltjl:j < Y.length:=by rw [HYN.out]; exact hltj
        obtain ⟨_,a',cap',e1,_,hcells⟩:=HY.out
        rw [HYN.out] at e1
        simp only [Value.slice.injEq,true_and] at e1
        obtain ⟨rfl,rfl⟩:=e1
        obtain ⟨kbq,offq,rfl,hcl2⟩:=hcells (by omega)
        obtain ⟨d1,e1,f1,d2,e2,f2,d3,e3,f3,d4,e4,f4,d5,e5,f5,d6,e6,f6,⟨x0,x1,x2,x3,x4,x5,x6,x7,x8⟩,hhq⟩:=Rc.pk_read (hcl2 j hltjl)
        rw [Nat.mul_comm 9 j] at x0 x1 x2 x3 x4 x5 x6 x7 x8
        replace x0:=Rl.cell_on x0 HB.out
        replace x1:=Rl.cell_on x1 HB.out
        replace x2:=Rl.cell_on x2 HB.out
        replace x3:=Rl.cell_on x3 HB.out
        replace x4:=Rl.cell_on x4 HB.out
        replace x5:=Rl.cell_on x5 HB.out
        replace x6:=Rl.cell_on x6 HB.out
        replace x7:=Rl.cell_on x7 HB.out
        replace x8:=Rl.cell_on x8 HB.out
        obtain ⟨q,hq⟩:∃ q,Y.getD j nPk = q:=⟨_,rfl⟩
        rw [hq] at x0 x1 x8 hhq
        clear hcells hcl2
        have hb2:=(Below.refl wk.heap.size wk).alloc (Nat.le_refl _) (.cells #[.string (S q.nm),.string (S q.vs),.slice d1 e1 f1,.slice d2 e2 f2,.slice d3 e3 f3,.slice d4 e4 f4,.slice d5 e5 f5,.slice d6 e6 f6,.bool q.ess] 40)
        have i2:=Blk.Is.new wk 40 #[.string (S q.nm),.string (S q.vs),.slice d1 e1 f1,.slice d2 e2 f2,.slice d3 e3 f3,.slice d4 e4 f4,.slice d5 e5 f5,.slice d6 e6 f6,.bool q.ess]
        obtain ⟨V0,hV0⟩:∃ V0,wk.alloc (.cells #[.string (S q.nm),.string (S q.vs),.slice d1 e1 f1,.slice d2 e2 f2,.slice d3 e3 f3,.slice d4 e4 f4,.slice d5 e5 f5,.slice d6 e6 f6,.bool q.ess] 40) = V0:=⟨_,rfl⟩
        rw [hV0] at hb2 i2
        have hb9:=HB.out.trans (hb2.mono HB.out.size)
        have hhq9:=hhq.below hb9
        have hu:=hV0
        have z0:=i2.at (i:=0) rfl
        have z1:=i2.at (i:=1) rfl
        have z2:=i2.at (i:=2) rfl
        have z3:=i2.at (i:=3) rfl
        have z4:=i2.at (i:=4) rfl
        have z5:=i2.at (i:=5) rfl
        have z6:=i2.at (i:=6) rfl
        have z7:=i2.at (i:=7) rfl
        have z8:=i2.at (i:=8) rfl
        have HB9:=Lib.hid hb9
        by_cases hltk:k < M
        ·have hltk':(k:Int) < (M:Int):=by omega
         have hk0:(0:Int) ≤ k:=by omega
         have hltkl:k < X.length:=by rw [HXM.out]; exact hltk
         obtain ⟨_,a',cap',e1,_,hcells⟩:=HX.out
         rw [HXM.out] at e1
         simp only [Value.slice.injEq,true_and] at e1
         obtain ⟨rfl,rfl⟩:=e1
         obtain ⟨kbp,offp,rfl,hcl2⟩:=hcells (by omega)
         obtain ⟨g1,h1,l1,g2,h2,l2,g3,h3,l3,g4,h4,l4,g5,h5,l5,g6,h6,l6,⟨y0,y1,y2,y3,y4,y5,y6,y7,y8⟩,hhp⟩:=Rc.pk_read (hcl2 k hltkl)
         rw [Nat.mul_comm 9 k] at y0 y1 y2 y3 y4 y5 y6 y7 y8
         replace y0:=Rl.cell_on y0 hb9
         replace y1:=Rl.cell_on y1 hb9
         replace y2:=Rl.cell_on y2 hb9
         replace y3:=Rl.cell_on y3 hb9
         replace y4:=Rl.cell_on y4 hb9
         replace y5:=Rl.cell_on y5 hb9
         replace y6:=Rl.cell_on y6 hb9
         replace y7:=Rl.cell_on y7 hb9
         replace y8:=Rl.cell_on y8 hb9
         obtain ⟨p,hp⟩:∃ p,X.getD k nPk = p:=⟨_,rfl⟩
         rw [hp] at y0 y1 y8 hhp
         clear hcells hcl2
         have cs:=fun u (hu:Below V0.heap.size V0 u)=>Rc.ysame_any (.agg #[.string (S p.nm),.string (S p.vs),.slice g1 h1 l1,.slice g2 h2 l2,.slice g3 h3 l3,.slice g4 h4 l4,.slice g5 h5 l5,.slice g6 h6 l6,.bool p.ess]) (.agg #[.string (S q.nm),.string (S q.vs),.slice d1 e1 f1,.slice d2 e2 f2,.slice d3 e3 f3,.slice d4 e4 f4,.slice d5 e5 f5,.slice d6 e6 f6,.bool q.ess]) p q u ⟨_,_,_,_,_,_,rfl,(hhp.below hb9).below hu⟩ ⟨_,_,_,_,_,_,rfl,hhq9.below hu⟩
         have hst:=sub_step HS.out hltkl hltjl
         rw [hp,hq] at hst
         obtain ⟨B,hB⟩:∃ B,Rc.eqP p q = B:=⟨_,rfl⟩
         rw [hB] at cs
         have HST:=Lib.hid hst
         have HBB:=Lib.hid hB
         clear hb2 i2 hV0 hb9 hhq9 hhp hhq hst hB hp hq hltkl hltjl
         have RP:Hid (∀ u,Below V0.heap.size V0 u → u.rangeAt kbp (offp + k * 9) [.string (S p.nm),.string (S p.vs),.slice g1 h1 l1,.slice g2 h2 l2,.slice g3 h3 l3,.slice g4 h4 l4,.slice g5 h5 l5,.slice g6 h6 l6,.bool p.ess]):=Lib.hid fun u hu j v hj=>by
          have hj9:j < 9:=(List.getElem?_eq_some_iff.1 hj).1
          rcases j with _ | _ | _ | _ | _ | _ | _ | _ | _ | j
          all_goals first | omega | (simp only [List.getElem?_cons_zero,List.getElem?_cons_succ,Option.some.injEq] at hj; subst hj; first | exact Rl.cell_on y0 hu | exact Rl.cell_on y1 hu | exact Rl.cell_on y2 hu | exact Rl.cell_on y3 hu | exact Rl.cell_on y4 hu | exact Rl.cell_on y5 hu | exact Rl.cell_on y6 hu | exact Rl.cell_on y7 hu | exact Rl.cell_on y8 hu)
         have RQ:Hid (∀ u,Below V0.heap.size V0 u → u.rangeAt wk.heap.size 0 [.string (S q.nm),.string (S q.vs),.slice d1 e1 f1,.slice d2 e2 f2,.slice d3 e3 f3,.slice d4 e4 f4,.slice d5 e5 f5,.slice d6 e6 f6,.bool q.ess]):=Lib.hid fun u hu j v hj=>by
          have hj9:j < 9:=(List.getElem?_eq_some_iff.1 hj).1
          rcases j with _ | _ | _ | _ | _ | _ | _ | _ | _ | j
          all_goals first | omega | (simp only [List.getElem?_cons_zero,List.getElem?_cons_succ,Option.some.injEq] at hj; subst hj; first | exact Rl.cell_on z0 hu | exact Rl.cell_on z1 hu | exact Rl.cell_on z2 hu | exact Rl.cell_on z3 hu | exact Rl.cell_on z4 hu | exact Rl.cell_on z5 hu | exact Rl.cell_on z6 hu | exact Rl.cell_on z7 hu | exact Rl.cell_on z8 hu)
         have Z9:Hid ((Tryz.prog.info? 40).map (·.size) = some 9):=Lib.hid (by kernel_rfl)
         have CS:=Lib.hid cs
         clear cs y0 y1 y2 y3 y4 y5 y6 y7 y8
         go_wp2_with fail
         clear z0 z1 z2 z3 z4 z5 z6 z7 z8
         refine wp_region_held (S:=fun u=>Below V0.heap.size V0 u) (by kernel_rfl) ?_
         have hS0:Below V0.heap.size V0 V0.drew:=(Below.refl _ _).drew
         change wpAnyH _ _ _ _ _ 12 _ _ V0.drew
         generalize V0.drew = u0 at *
         refine wpAnyH_take (i:=0) (v:=.int .i64 (k:Int)) rfl (by kernel_rfl) (by kernel_rfl) (by kernel_rfl) (fun _ _ _ h=>h) (.inl ⟨rfl,fun w _=>rfl⟩) hS0 ?_
         simp only [Act.put,List.getElem_toArray,List.getElem_cons_zero,List.getElem_cons_succ,List.setIfInBounds_toArray,List.set_cons_zero,List.set_cons_succ]
         refine wpAnyH_take (i:=1) (v:=.slice (some ⟨kbp,offp,none⟩) M xc) rfl (by kernel_rfl) (by kernel_rfl) (by kernel_rfl) (fun _ _ _ h=>h) (.inl ⟨rfl,fun w _=>rfl⟩) hS0 ?_
         simp only [Act.put,List.getElem_toArray,List.getElem_cons_zero,List.getElem_cons_succ,List.setIfInBounds_toArray,List.set_cons_zero,List.set_cons_succ]
         refine wpAnyH_take (i:=2) (v:=.int .i64 (M:Int)) rfl (by kernel_rfl) (by kernel_rfl) (by kernel_rfl) (fun _ _ _ h=>h) (.inl ⟨rfl,fun w _=>by first | rfl | simp [execOp,go_sem]⟩) hS0 ?_
         simp only [Act.put,List.getElem_toArray,List.getElem_cons_zero,List.getElem_cons_succ,List.setIfInBounds_toArray,List.set_cons_zero,List.set_cons_succ]
         refine wpAnyH_take (i:=3) (v:=.bool true) rfl (by kernel_rfl) (by kernel_rfl) (by kernel_rfl) (fun _ _ _ h=>h) (.inl ⟨rfl,fun w _=>by simp [execOp,go_sem,hltk']⟩) hS0 ?_
         simp only [Act.put,List.getElem_toArray,List.getElem_cons_zero,List.getElem_cons_succ,List.setIfInBounds_toArray,List.set_cons_zero,List.set_cons_succ]
         refine wpAnyH_take (i:=4) (v:=.bool true) rfl (by kernel_rfl) (by kernel_rfl) (by kernel_rfl) (fun _ _ _ h=>h) (.inl ⟨rfl,fun w _=>rfl⟩) hS0 ?_
         simp only [Act.put,List.getElem_toArray,List.getElem_cons_zero,List.getElem_cons_succ,List.setIfInBounds_toArray,List.set_cons_zero,List.set_cons_succ]
         refine wpAnyH_take (i:=5) (v:=.slice (some ⟨kbp,offp,none⟩) M xc) rfl (by kernel_rfl) (by kernel_rfl) (by kernel_rfl) (fun _ _ _ h=>h) (.inl ⟨rfl,fun w _=>rfl⟩) hS0 ?_
         simp only [Act.put,List.getElem_toArray,List.getElem_cons_zero,List.getElem_cons_succ,List.setIfInBounds_toArray,List.set_cons_zero,List.set_cons_succ]
         refine wpAnyH_take (i:=6) (v:=.int .i64 (k:Int)) rfl (by kernel_rfl) (by kernel_rfl) (by kernel_rfl) (fun _ _ _ h=>h) (.inl ⟨rfl,fun w _=>rfl⟩) hS0 ?_
         simp only [Act.put,List.getElem_toArray,List.getElem_cons_zero,List.getElem_cons_succ,List.setIfInBounds_toArray,List.set_cons_zero,List.set_cons_succ]
         refine wpAnyH_take (i:=7) (v:=.pointer (some ⟨kbp,offp + k * 9,none⟩)) rfl (by kernel_rfl) (by kernel_rfl) (by kernel_rfl) (fun _ _ _ h=>h) (.inl ⟨rfl,fun w _=>by simp [execOp,go_sem,Addr.add,hk0,hltk'] <;> first | omega | (intro h; omega) | (intro h; simp [h])⟩) hS0 ?_
         simp only [Act.put,List.getElem_toArray,List.getElem_cons_zero,List.getElem_cons_succ,List.setIfInBounds_toArray,List.set_cons_zero,List.set_cons_succ]
         refine wpAnyH_take (i:=8) (v:=.agg #[.string (S p.nm),.string (S p.vs),.slice g1 h1 l1,.slice g2 h2 l2,.slice g3 h3 l3,.slice g4 h4 l4,.slice g5 h5 l5,.slice g6 h6 l6,.bool p.ess]) rfl (by kernel_rfl) (by kernel_rfl) (by kernel_rfl) (fun _ _ _ h=>h) (yieldsIf_load_mid rfl 40 (.tmp 81) rfl kbp (offp + k * 9) rfl _ _ RP.out Tryz.underlying40 rfl Z9.out) hS0 ?_
         simp only [Act.put,List.getElem_toArray,List.getElem_cons_zero,List.getElem_cons_succ,List.setIfInBounds_toArray,List.set_cons_zero,List.set_cons_succ]
         refine wpAnyH_take (i:=9) (v:=.agg #[.string (S q.nm),.string (S q.vs),.slice d1 e1 f1,.slice d2 e2 f2,.slice d3 e3 f3,.slice d4 e4 f4,.slice d5 e5 f5,.slice d6 e6 f6,.bool q.ess]) rfl (by kernel_rfl) (by kernel_rfl) (by kernel_rfl) (fun _ _ _ h=>h) (yieldsIf_load_mid rfl 40 (.tmp 15) rfl wk.heap.size 0 rfl _ _ RQ.out Tryz.underlying40 rfl Z9.out) hS0 ?_
         simp only [Act.put,List.getElem_toArray,List.getElem_cons_zero,List.getElem_cons_succ,List.setIfInBounds_toArray,List.set_cons_zero,List.set_cons_succ]
         have cx:=CS.out u0 hS0
         refine wpAnyH_all (rs:=[10]) (by kernel_rfl) (by simp) ?_
         intro i hi
         obtain rfl:=List.mem_singleton.1 hi
         refine Reg.wpOp_list rfl ?_
         go_wp2_with fail
         refine cx.mono ?_
         rintro e u1 ⟨rfl,k1⟩
         go_wp2_with fail
         change _ ∧ _
         have hS1:Below V0.heap.size V0 u1:=hS0.trans (k1.mono hS0.size)
         refine ⟨hS1,?_⟩
         clear cx
         refine wpAnyH_take (i:=11) (v:=.bool B) rfl (by kernel_rfl) (by kernel_rfl) (by kernel_rfl) (fun _ _ _ h=>h) (.inl ⟨rfl,fun w _=>by rfl⟩) hS1 ?_
         simp only [Act.put,List.getElem_toArray,List.getElem_cons_zero,List.getElem_cons_succ,List.setIfInBounds_toArray,List.set_cons_zero,List.set_cons_succ]
         refine wpAnyH_done (by kernel_rfl) ?_ _
         have K9:=Lib.hid (HB9.out.trans (hS1.mono HB9.out.size))
         clear hS0 hS1 k1 CS RP RQ
         cases B with
         | true =>
          have HNX:=Lib.hid (HST.out.1 ((Rc.eqP_iff p q).1 HBB.out))
          clear HST HBB
          go_wp2_with fail
          go_roundg g'
          case measure=>omega
          case rel=>exact ⟨k + 1,j + 1,by go_num,by go_num,HNX,by omega,by omega,by omega,K9⟩
         | false =>
          have HNX:=Lib.hid (HST.out.2 (fun e=>by have:=(Rc.eqP_iff p q).2 e; rw [HBB.out] at this; cases this))
          clear HST HBB
          go_wp2_with fail
          go_roundg g'
          case measure=>omega
          case rel=>exact ⟨k,j + 1,rfl,by go_num,HNX,by omega,by omega,by omega,K9⟩
        ·have hgek:decide ((k:Int) < (M:Int)) = false:=decide_eq_false (by omega)
         have HNX:=Lib.hid (sub_past (y:=Y) (j:=j) (x:=X) (k:=k) (by rw [HXM.out]; omega))
         clear hb2 i2 hV0 hb9 hhq9 hhq hq hltjl
         go_wp2_with fail
         clear z0 z1 z2 z3 z4 z5 z6 z7 z8
         refine wp_region_held (S:=fun u=>Below V0.heap.size V0 u) (by kernel_rfl) ?_
         have hS0:Below V0.heap.size V0 V0.drew:=(Below.refl _ _).drew
         change wpAnyH _ _ _ _ _ 12 _ _ V0.drew
         generalize V0.drew = u0 at *
         refine wpAnyH_take (i:=0) (v:=.int .i64 (k:Int)) rfl (by kernel_rfl) (by kernel_rfl) (by kernel_rfl) (fun _ _ _ h=>h) (.inl ⟨rfl,fun w _=>rfl⟩) hS0 ?_
         simp only [Act.put,List.getElem_toArray,List.getElem_cons_zero,List.getElem_cons_succ,List.setIfInBounds_toArray,List.set_cons_zero,List.set_cons_succ]
         refine wpAnyH_take (i:=1) (v:=.slice xa M xc) rfl (by kernel_rfl) (by kernel_rfl) (by kernel_rfl) (fun _ _ _ h=>h) (.inl ⟨rfl,fun w _=>rfl⟩) hS0 ?_
         simp only [Act.put,List.getElem_toArray,List.getElem_cons_zero,List.getElem_cons_succ,List.setIfInBounds_toArray,List.set_cons_zero,List.set_cons_succ]
         refine wpAnyH_take (i:=2) (v:=.int .i64 (M:Int)) rfl (by kernel_rfl) (by kernel_rfl) (by kernel_rfl) (fun _ _ _ h=>h) (.inl ⟨rfl,fun w _=>by first | rfl | simp [execOp,go_sem]⟩) hS0 ?_
         simp only [Act.put,List.getElem_toArray,List.getElem_cons_zero,List.getElem_cons_succ,List.setIfInBounds_toArray,List.set_cons_zero,List.set_cons_succ]
         refine wpAnyH_take (i:=3) (v:=.bool false) rfl (by kernel_rfl) (by kernel_rfl) (by kernel_rfl) (fun _ _ _ h=>h) (.inl ⟨rfl,fun w _=>by simp [execOp,go_sem,hgek] <;> omega⟩) hS0 ?_
         simp only [Act.put,List.getElem_toArray,List.getElem_cons_zero,List.getElem_cons_succ,List.setIfInBounds_toArray,List.set_cons_zero,List.set_cons_succ]
         refine wpAnyH_take (i:=4) (v:=.bool false) rfl (by kernel_rfl) (by kernel_rfl) (by kernel_rfl) (fun _ _ _ h=>h) (.inl ⟨rfl,fun w _=>rfl⟩) hS0 ?_
         simp only [Act.put,List.getElem_toArray,List.getElem_cons_zero,List.getElem_cons_succ,List.setIfInBounds_toArray,List.set_cons_zero,List.set_cons_succ]
         refine wpAnyH_take (i:=5) (v:=undef) rfl (by kernel_rfl) (by kernel_rfl) (by kernel_rfl) (fun _ _ _ h=>h) (.inr ⟨by kernel_rfl,rfl⟩) hS0 ?_
         simp only [Act.put,List.getElem_toArray,List.getElem_cons_zero,List.getElem_cons_succ,List.setIfInBounds_toArray,List.set_cons_zero,List.set_cons_succ]
         refine wpAnyH_take (i:=6) (v:=undef) rfl (by kernel_rfl) (by kernel_rfl) (by kernel_rfl) (fun _ _ _ h=>h) (.inr ⟨by kernel_rfl,rfl⟩) hS0 ?_
         simp only [Act.put,List.getElem_toArray,List.getElem_cons_zero,List.getElem_cons_succ,List.setIfInBounds_toArray,List.set_cons_zero,List.set_cons_succ]
         refine wpAnyH_take (i:=7) (v:=undef) rfl (by kernel_rfl) (by kernel_rfl) (by kernel_rfl) (fun _ _ _ h=>h) (.inr ⟨by kernel_rfl,rfl⟩) hS0 ?_
         simp only [Act.put,List.getElem_toArray,List.getElem_cons_zero,List.getElem_cons_succ,List.setIfInBounds_toArray,List.set_cons_zero,List.set_cons_succ]
         refine wpAnyH_take (i:=8) (v:=undef) rfl (by kernel_rfl) (by kernel_rfl) (by kernel_rfl) (fun _ _ _ h=>h) (.inr ⟨by kernel_rfl,rfl⟩) hS0 ?_
         simp only [Act.put,List.getElem_toArray,List.getElem_cons_zero,List.getElem_cons_succ,List.setIfInBounds_toArray,List.set_cons_zero,List.set_cons_succ]
         refine wpAnyH_take (i:=9) (v:=undef) rfl (by kernel_rfl) (by kernel_rfl) (by kernel_rfl) (fun _ _ _ h=>h) (.inr ⟨by kernel_rfl,rfl⟩) hS0 ?_
         simp only [Act.put,List.getElem_toArray,List.getElem_cons_zero,List.getElem_cons_succ,List.setIfInBounds_toArray,List.set_cons_zero,List.set_cons_succ]
         refine wpAnyH_take (i:=10) (v:=undef) rfl (by kernel_rfl) (by kernel_rfl) (by kernel_rfl) (fun _ _ _ h=>h) (.inr ⟨by kernel_rfl,rfl⟩) hS0 ?_
         simp only [Act.put,List.getElem_toArray,List.getElem_cons_zero,List.getElem_cons_succ,List.setIfInBounds_toArray,List.set_cons_zero,List.set_cons_succ]
         refine wpAnyH_take (i:=11) (v:=.bool false) rfl (by kernel_rfl) (by kernel_rfl) (by kernel_rfl) (fun _ _ _ h=>h) (.inl ⟨rfl,fun w _=>by rfl⟩) hS0 ?_
         simp only [Act.put,List.getElem_toArray,List.getElem_cons_zero,List.getElem_cons_succ,List.setIfInBounds_toArray,List.set_cons_zero,List.set_cons_succ]
         refine wpAnyH_done (by kernel_rfl) ?_ _
         have K9:=Lib.hid (HB9.out.trans (hS0.mono HB9.out.size))
         clear hS0
         go_wp2_with fail
         go_roundg g'
         case measure=>omega
         case rel=>exact ⟨k,j + 1,rfl,by go_num,HNX,by omega,by omega,by omega,K9⟩
       ·have hgej:¬ (j:Int) < (N:Int):=by omega
        obtain rfl:N = j:=by omega
        have hkk:k = M:=by
         have h:=HS.out
         rw [← HYN.out] at h
         rw [← HXM.out]
         exact sub_end h (by rw [HXM.out]; exact hkM)
        subst hkk
        have cn:=Ix.ynames_any _ X wk (HX.out.below HB.out) (by rw [HXM.out]; omega)
        have hkk':((k:Int) == (k:Int)) = true:=by simp
        clear HS hfu
        go_wp2_with fail
        refine cn.mono ?_
        rintro e w8 ⟨vn,rfl,htn,k8⟩
        have K8:=Lib.hid (HB.out.trans (k8.mono HB.out.size))
        clear cn k8
        have K80:=Lib.hid (KY.out.trans (K8.out.mono KY.out.size))
        have c3:=of_x _ _ vn r s _ w8 (H0.out.below K80.out) (H1.out.below K80.out) htn HL0.out HL1.out (NXL.out) (HV.out.on K80.out)
        rw [HE.out] at c3
        have HX8:=Lib.hid (HX.out.below K8.out)
        go_wp2_with fail
        refine c3.mono ?_
        rintro e w9 ⟨vz,rfl,hz,k9⟩
        obtain ⟨_,WF3,hW3,hpz⟩:=hz trivial
        have K90:=Lib.hid (K80.out.trans (k9.mono K80.out.size))
        rw [again_eq HW1.out hW3 NXM.out,EX.out] at hpz
        have cs:=Rc.samePks_yes _ vz X w9 (HX8.out.below k9) hpz
        clear c3 k9 hz hW3 hpz
        go_wp2_with fail
        refine cs.mono ?_
        rintro e w10 ⟨rfl,k10⟩
        have K100:=Lib.hid (K90.out.trans (k10.mono K90.out.size))
        clear cs k10
        have ca:=awake_any w10 (HV.out.on K100.out)
        go_wp2_with fail
        refine ca.mono ?_
        rintro e w9 ⟨rfl,k9⟩
        have hb:=K100.out.trans (k9.mono K100.out.size)
        clear ca
        go_wp2_with fail
        go_ret
        exact ⟨rfl,hb⟩
     ·have hEE:(E == E) = true:=by simp
      have hE1:(E == 0) = false:=by simpa using hE0
      clear hcy HCX
      have ca:=awake_any w5 (HV.out.on K5.out)
      go_wp2_with fail
      refine ca.mono ?_
      rintro e w9 ⟨rfl,k9⟩
      have hb:=K5.out.trans (k9.mono K5.out.size)
      clear ca
      go_wp2_with fail
      go_ret
      exact ⟨rfl,hb⟩
end Un
end Go.Proofs.YtmhpjjjjgakpiaaGreatDoor

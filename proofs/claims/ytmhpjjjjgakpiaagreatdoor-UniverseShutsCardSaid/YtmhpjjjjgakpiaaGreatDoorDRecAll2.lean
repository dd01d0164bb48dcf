/-
MayAll, MayEntries: packages, entries: may they be?
-/
import Derived.Test.YtmhpjjjjgakpiaaGreatDoorDTextUtf
import Derived.Handy
import Derived.Laws.Entries
import Derived.Laws.OwnMore
import Derived.Laws.Pointers
import Derived.WalkLawsBesides
import Derived.Test.YtmhpjjjjgakpiaaGreatDoorDRecAll
namespace Go.Proofs.YtmhpjjjjgakpiaaGreatDoor
open Go.RowKit
set_option linter.unusedSimpArgs false
set_option linter.unusedVariables false
namespace Rc
open Ver (Bs S)
open Rl (Vars mem_getD may tcells)
set_option maxRecDepth 100000 in
set_option maxHeartbeats 8000000 in
theorem countNames_any (v:Value) (l:List Pk) (w:World) (h:Pks w v l) (hl:l.length ≤ 1000) :
  Calls Tryz.prog 63 #[v] w fun e w'=>e = .returned (.int .i64 (nmsOf l []).length) ∧ Below w.heap.size w w':=by
 obtain ⟨sa,cap,rfl⟩:=h.shape
 obtain ⟨G,hG⟩:∃ G,nmsOf l [] = G:=⟨_,rfl⟩
 have HG:=Lib.hid hG
 rw [hG]
 have H:=Lib.hid h
 obtain ⟨n,hn⟩:∃ n,l.length = n:=⟨_,rfl⟩
 have HN:=Lib.hid hn
 rw [hn] at hl ⊢
 clear hn hG h
 go_enter Tryz.func63,Tryz.ntmps63
 go_wp2_with fail
 go_loopg [3,8] n (fun gf s3 s8 wx=>∃ (k m:Nat) (pa:Option Addr) (cp:Nat) (ns:List Bs),s3 = .slice pa m cp ∧ s8 = .int .i64 k ∧ Hid (wx.ownsRow w.heap.size 9 1 (.slice pa m cp) m (tcells ns)) ∧ Below w.heap.size w wx ∧ Hid (ns.length = m ∧ nmsOf (l.drop k) ns = G) ∧ m ≤ k ∧ k ≤ n ∧ n ≤ k + gf)
 case atStart=>exact ⟨0,0,none,0,[],rfl,rfl,Lib.hid (World.ownsRow_nil w _ _ 1),Below.refl _ _,Lib.hid ⟨rfl,HG.out⟩,by omega,by omega,by omega⟩
 case round =>
  obtain ⟨k,m,pa,cp,ns,rfl,rfl,HO,hbw,HE,hmk,hkn,hfu⟩:=hrel
  by_cases hlt:k < n
  ·obtain ⟨g',rfl⟩:∃ g',gk = g' + 1:=⟨gk - 1,by omega⟩
   have hlt':(k:Int) < (n:Int):=by omega
   have hk0:(0:Int) ≤ k:=by omega
   have hkl:k < l.length:=by rw [HN.out]; exact hlt
   obtain ⟨_,a',cap',e1,_,hcells⟩:=H.out.below hbw
   simp only [Value.slice.injEq,true_and] at e1
   obtain ⟨rfl,rfl⟩:=e1
   obtain ⟨kb,off,rfl,hcl2⟩:=hcells (by omega)
   obtain ⟨a1,n1,c1,a2,n2,c2,a3,n3,c3,a4,n4,c4,a5,n5,c5,a6,n6,c6,⟨x0,x1,x2,x3,x4,x5,x6,x7,x8⟩,hh⟩:=pk_read (hcl2 k hkl)
   rw [Nat.mul_comm 9 k] at x0 x1 x2 x3 x4 x5 x6 x7 x8
   have hd:l.drop k = l.getD k nPk :: l.drop (k + 1):=by
    rw [List.drop_eq_getElem_cons hkl,List.getD_eq_getElem?_getD,List.getElem?_eq_getElem hkl]; rfl
   have hE:=HE.out.2
   rw [hd] at hE
   generalize hx:l.getD k nPk = x at *
   have hE2:nmsOf (l.drop (k + 1)) (if x.nm ∈ ns then ns else ns ++ [x.nm]) = G:=hE
   have hb2:=(Below.refl wr.heap.size wr).alloc (Nat.le_refl _) (.cells #[.string (S x.nm),.string (S x.vs),.slice a1 n1 c1,.slice a2 n2 c2,.slice a3 n3 c3,.slice a4 n4 c4,.slice a5 n5 c5,.slice a6 n6 c6,.bool x.ess] 40)
   have HB2:=Lib.hid (hbw.trans (hb2.mono hbw.size))
   have ho2:=Own.owns_below HO.out hb2
   have hT:Txt.Texts (wr.alloc (.cells #[.string (S x.nm),.string (S x.vs),.slice a1 n1 c1,.slice a2 n2 c2,.slice a3 n3 c3,.slice a4 n4 c4,.slice a5 n5 c5,.slice a6 n6 c6,.bool x.ess] 40)) (.slice pa m cp) (ns.map S):=by
    refine Txt.Texts.owned (B:=w.heap.size) ?_ (by rw [List.length_map,HE.out.1]; omega)
    rw [List.length_map,HE.out.1]; exact ho2
   have cc:=containsStr_any _ ns x.nm _ hT
   have HO2:=Lib.hid ho2
   have HE2:=Lib.hid hE2
   have HNS:=Lib.hid HE.out.1
   clear hd hE hE2 hx hb2 ho2 hT hcells hcl2 hh hbw HO HE
   obtain ⟨N,hN⟩:∃ N,S x.nm = N:=⟨_,rfl⟩
   rw [hN] at x0 HB2 HO2 cc
   have HNN:=Lib.hid hN
   clear hN
   by_cases hw:x.nm ∈ ns
   ·have he:=HE2.out
    rw [if_pos hw] at he
    have HE3:=Lib.hid he
    rw [decide_eq_true hw] at cc
    clear HE2 he hw
    go_wp2_with fail
    generalize wr.alloc (.cells #[.string N,.string (S x.vs),.slice a1 n1 c1,.slice a2 n2 c2,.slice a3 n3 c3,.slice a4 n4 c4,.slice a5 n5 c5,.slice a6 n6 c6,.bool x.ess] 40) = W at *
    refine cc.mono ?_
    rintro e w1 ⟨rfl,rfl⟩
    clear cc
    go_wp2_with fail
    go_roundg g'
    case measure=>omega
    case rel=>exact ⟨k + 1,m,pa,cp,ns,rfl,by go_num,HO2,HB2.out,Lib.hid ⟨HNS.out,HE3.out⟩,by omega,by omega,by omega⟩
   ·have he:=HE2.out
    rw [if_neg hw] at he
    have HE3:=Lib.hid he
    rw [decide_eq_false hw] at cc
    clear HE2 he hw
    have i3:=Blk.Is.new wr 40 #[.string N,.string (S x.vs),.slice a1 n1 c1,.slice a2 n2 c2,.slice a3 n3 c3,.slice a4 n4 c4,.slice a5 n5 c5,.slice a6 n6 c6,.bool x.ess]
    go_wp2_with fail
    generalize wr.alloc (.cells #[.string N,.string (S x.vs),.slice a1 n1 c1,.slice a2 n2 c2,.slice a3 n3 c3,.slice a4 n4 c4,.slice a5 n5 c5,.slice a6 n6 c6,.bool x.ess] 40) = W at *
    refine cc.mono ?_
    rintro e w1 ⟨rfl,rfl⟩
    clear cc
    have c0:=i3.at (i:=0) rfl
    have hb3:=(Below.refl w1.heap.size w1).alloc (Nat.le_refl _) (.cells #[.string N] 9)
    have hc3:=(Blk.Is.new w1 9 #[.string N]).at (i:=0) rfl
    obtain ⟨W3,hW3⟩:∃ W3,w1.alloc (.cells #[.string N] 9) = W3:=⟨_,rfl⟩
    rw [hW3] at hb3 hc3
    have HW3:=Lib.hid hW3
    have HC3:=Lib.hid hc3
    have HO3:=Lib.hid (Own.owns_below HO2.out hb3)
    have HB3:=Lib.hid (HB2.out.trans (hb3.mono HB2.out.size))
    have HSZ:=Lib.hid HB3.out.size
    have hk70:m + 1 ≤ 70000:=by omega
    have HT2:=Lib.hid (Rl.tcells_app ns x.nm)
    clear hW3 hc3 hb3 HB2 HO2 i3
    go_wp2_with (at_builtin; rw [HW3.out]; refine Rl.append_el Tryz.underlying32 Rl.infoText rfl (by decide) rfl (.tmp 17) (.tmp 20) rfl w.heap.size (.slice pa m cp) m (tcells ns) rfl HO3.out w1.heap.size 1 rfl [.string N] rfl (Rl.one_cell HC3.out) (fun u hu=>by simp only [List.mem_singleton] at hu; rw [hu]; rfl) hk70 HSZ.out ?_; intro v' w4 h4 h5; have hb4:=Own.below_grown HB3.out HO3.out h5 HSZ.out; obtain ⟨a4,c4,rfl,_⟩:=Rl.own_shape h4; have H4:=Lib.hid h4; have HB4:=Lib.hid hb4; clear h4 h5 hb4 HW3 HC3 HO3 HB3)
    go_roundg g'
    case measure=>omega
    case rel=>exact ⟨k + 1,m + 1,a4,c4,ns ++ [x.nm],rfl,by go_num,Lib.hid (by rw [HT2.out,HNN.out]; exact H4.out),HB4.out,Lib.hid ⟨by rw [List.length_append,HNS.out]; rfl,HE3.out⟩,by omega,by omega,by omega⟩
  ·have hge:¬ (k:Int) < (n:Int):=by omega
   obtain rfl:k = n:=by omega
   have hG:G = ns:=by
    have:=HE.out.2
    rw [List.drop_eq_nil_of_le (by rw [HN.out]; omega)] at this
    exact this.symm
   have hGl:G.length = m:=by rw [hG]; exact HE.out.1
   have HGL:=Lib.hid hGl
   clear HG HE hG hGl
   go_wp2_with fail
   go_ret
   exact ⟨by rw [HGL.out]; rfl,hbw⟩
set_option maxRecDepth 100000 in
set_option maxHeartbeats 8000000 in
theorem mayAll_any (v:Value) (l:List Pk) (w:World) (h:Pks w v l) (hL:∀ x ∈ l,x.Lim) (hv:Vars w) :
  Calls Tryz.prog 38 #[v] w fun e w'=>e = .returned (.int .i64 (mayAll l)) ∧ Below w.heap.size w w':=by
 obtain ⟨sa,cap,rfl⟩:=h.shape
 obtain ⟨G,hG⟩:∃ G:Int,mayAll l = G:=⟨_,rfl⟩
 have hG2:=hG
 unfold mayAll at hG2
 rw [hG]
 have H:=Lib.hid h
 have HL:=Lib.hid hL
 have HV:=Lib.hid hv
 have HG:=Lib.hid hG2
 obtain ⟨n,hn⟩:∃ n,l.length = n:=⟨_,rfl⟩
 have HN:=Lib.hid hn
 have hn4:=h.1
 rw [hn] at hn4 ⊢
 rw [hn] at hG2
 clear hn hG h hL hv
 by_cases hmost:24 < n
 ·have hm':(24:Int) < (n:Int):=by omega
  rw [if_pos hmost] at hG2
  subst hG2
  clear HG
  go_enter Tryz.func38,Tryz.ntmps38
  go_wp2_with fail
  go_ret
  exact ⟨rfl,Below.refl _ _⟩
 ·have hm':¬ (24:Int) < (n:Int):=by omega
  rw [if_neg hmost] at hG2
  have HG2:=Lib.hid hG2
  clear hG2 HG
  go_enter Tryz.func38,Tryz.ntmps38
  go_wp2_with fail
  go_loopg [13] n (fun gf s1 wx=>∃ k:Nat,s1 = .int .i64 k ∧ Below w.heap.size w wx ∧ Hid (∀ j,j < k → mayK (l.getD j nPk) = 0) ∧ k ≤ n ∧ n ≤ k + gf)
  case atStart=>exact ⟨0,rfl,Below.refl _ _,fun j hj=>absurd hj (by omega),by omega,by omega⟩
  case round =>
   obtain ⟨k,rfl,hbw,HE,hkn,hfu⟩:=hrel
   by_cases hlt:k < n
   ·obtain ⟨g',rfl⟩:∃ g',gk = g' + 1:=⟨gk - 1,by omega⟩
    have hlt':(k:Int) < (n:Int):=by omega
    have hk0:(0:Int) ≤ k:=by omega
    have hkl:k < l.length:=by rw [HN.out]; exact hlt
    obtain ⟨_,a',cap',e1,_,hcells⟩:=H.out.below hbw
    simp only [Value.slice.injEq,true_and] at e1
    obtain ⟨rfl,rfl⟩:=e1
    obtain ⟨kb,off,rfl,hcl2⟩:=hcells (by omega)
    obtain ⟨a1,n1,c1,a2,n2,c2,a3,n3,c3,a4,n4,c4,a5,n5,c5,a6,n6,c6,⟨x0,x1,x2,x3,x4,x5,x6,x7,x8⟩,hh⟩:=pk_read (hcl2 k hkl)
    rw [Nat.mul_comm 9 k] at x0 x1 x2 x3 x4 x5 x6 x7 x8
    have hmem:=mem_getD (z:=nPk) hkl
    have hlim:=HL.out _ hmem
    generalize hx:l.getD k nPk = x at *
    have HX:=Lib.hid hx
    have hb2:=(Below.refl wr.heap.size wr).alloc (Nat.le_refl _) (.cells #[.string (S x.nm),.string (S x.vs),.slice a1 n1 c1,.slice a2 n2 c2,.slice a3 n3 c3,.slice a4 n4 c4,.slice a5 n5 c5,.slice a6 n6 c6,.bool x.ess] 40)
    have HB2:=Lib.hid (hbw.trans (hb2.mono hbw.size))
    have ca:=may_any _ x (wr.alloc (.cells #[.string (S x.nm),.string (S x.vs),.slice a1 n1 c1,.slice a2 n2 c2,.slice a3 n3 c3,.slice a4 n4 c4,.slice a5 n5 c5,.slice a6 n6 c6,.bool x.ess] 40)) ⟨_,_,_,_,_,_,rfl,hh.below hb2⟩ hlim (HV.out.on HB2.out)
    obtain ⟨M,hM⟩:∃ M,mayK x = M:=⟨_,rfl⟩
    rw [hM] at ca
    have HM:=Lib.hid hM
    have CA:=Lib.hid ca
    have HMEM:=Lib.hid hmem
    clear hb2 hcells hcl2 hx hlim hh hmem hM ca hbw
    by_cases hz:M = 0
    ·subst hz
     go_wp2_with fail
     generalize wr.alloc (.cells #[.string (S x.nm),.string (S x.vs),.slice a1 n1 c1,.slice a2 n2 c2,.slice a3 n3 c3,.slice a4 n4 c4,.slice a5 n5 c5,.slice a6 n6 c6,.bool x.ess] 40) = W at *
     refine CA.out.mono ?_
     rintro e w1 ⟨rfl,k1⟩
     have hb1:=HB2.out.trans (k1.mono HB2.out.size)
     have HE2:Hid (∀ j,j < k + 1 → mayK (l.getD j nPk) = 0):=fun j hj=>by
      by_cases e:j = k
      ·rw [e,HX.out]; exact HM.out
      ·exact HE.out j (by omega)
     clear k1 HB2 CA HE HX HM HMEM
     go_wp2_with fail
     go_roundg g'
     case measure=>omega
     case rel=>exact ⟨k + 1,by go_num,hb1,HE2.out,by omega,by omega⟩
    ·have hne:(M != 0) = true:=by simp [hz]
     have hG:G = M:=by
      have h1:=HG2.out
      have h2:eachK l = M:=by
       have:=eachK_at (z:=nPk) (fun p=>p) (l:=l) (i:=k) (M:=M) (by rw [HN.out]; exact hlt) HE.out (by rw [HX.out]; exact HM.out) hz
       rwa [map_idP] at this
      rw [h2,if_pos hz] at h1
      exact h1.symm
     subst hG
     clear HG2 HM HX HE hz HMEM
     go_wp2_with fail
     generalize wr.alloc (.cells #[.string (S x.nm),.string (S x.vs),.slice a1 n1 c1,.slice a2 n2 c2,.slice a3 n3 c3,.slice a4 n4 c4,.slice a5 n5 c5,.slice a6 n6 c6,.bool x.ess] 40) = W at *
     refine CA.out.mono ?_
     rintro e w1 ⟨rfl,k1⟩
     have hb1:=HB2.out.trans (k1.mono HB2.out.size)
     go_wp2_with fail
     go_ret
     exact ⟨rfl,hb1⟩
   ·have hge:¬ (k:Int) < (n:Int):=by omega
    obtain rfl:k = n:=by omega
    have hz:eachK l = 0:=by
     have:=eachK_all (z:=nPk) (fun p=>p) (l:=l) (fun j hj=>HE.out j (by rw [← HN.out]; exact hj))
     rwa [map_idP] at this
    have hG3:=HG2.out
    rw [hz,if_neg (by simp)] at hG3
    have HG3:=Lib.hid hG3
    clear HG2 hz HE hG3
    have HBW:=Lib.hid hbw
    clear hbw
    have hmf:∀ (fn:Fn) (first cap:Array Value) (w:World),(Instr.makeFunc fn first cap).run Tryz.prog w = .ok (.func fn first cap) w:=fun _ _ _ _=>rfl
    go_wp2_with fail
    go_loopg [25] k (fun gf s25 wx=>∃ i:Nat,s25 = .int .i64 i ∧ Below w.heap.size w wx ∧ Hid (∀ j,j < i → (l.take j).any (again (l.getD j nPk)) = false) ∧ i ≤ k ∧ k ≤ i + gf)
    case atStart=>exact ⟨0,rfl,HBW.out,fun j hj=>absurd hj (by omega),by omega,by omega⟩
    case round =>
     obtain ⟨i,rfl,hbw,HE,hin,hfu2⟩:=hrel
     by_cases hlt:i < k
     ·obtain ⟨g',rfl⟩:∃ g',gk = g' + 1:=⟨gk - 1,by omega⟩
      have hlt':(i:Int) < (k:Int):=by omega
      have hk0:(0:Int) ≤ i:=by omega
      have hkl:i < l.length:=by rw [HN.out]; exact hlt
      obtain ⟨_,a',cap',e1,_,hcells⟩:=H.out.below hbw
      simp only [Value.slice.injEq,true_and] at e1
      obtain ⟨rfl,rfl⟩:=e1
      obtain ⟨kb,off,rfl,hcl2⟩:=hcells (by omega)
      obtain ⟨a1,n1,c1,a2,n2,c2,a3,n3,c3,a4,n4,c4,a5,n5,c5,a6,n6,c6,⟨x0,x1,x2,x3,x4,x5,x6,x7,x8⟩,hh⟩:=pk_read (hcl2 i hkl)
      rw [Nat.mul_comm 9 i] at x0 x1 x2 x3 x4 x5 x6 x7 x8
      have hmem:=mem_getD (z:=nPk) hkl
      have hlim:=HL.out _ hmem
      have hb2:=(Below.refl wr.heap.size wr).alloc (Nat.le_refl _) (.cells #[.string (S (l.getD i nPk).nm),.string (S (l.getD i nPk).vs),.slice a1 n1 c1,.slice a2 n2 c2,.slice a3 n3 c3,.slice a4 n4 c4,.slice a5 n5 c5,.slice a6 n6 c6,.bool (l.getD i nPk).ess] 40)
      have i2:=Blk.Is.new wr 40 #[.string (S (l.getD i nPk).nm),.string (S (l.getD i nPk).vs),.slice a1 n1 c1,.slice a2 n2 c2,.slice a3 n3 c3,.slice a4 n4 c4,.slice a5 n5 c5,.slice a6 n6 c6,.bool (l.getD i nPk).ess]
      have HB2:=Lib.hid (hbw.trans (hb2.mono hbw.size))
      have ht:=slc_take ((H.out.below hbw).below hb2) (i:=i) (by omega)
      have ca:=containsPk_any _ (l.take i) wr.heap.size (l.getD i nPk) _ ht ⟨a1,n1,c1,a2,n2,c2,a3,n3,c3,a4,n4,c4,a5,n5,c5,a6,n6,c6,i2,hh.below hb2⟩ (fun y hy=>(HL.out y (List.mem_of_mem_take hy)).vs) hlim.vs (HV.out.on HB2.out).maxLen
      have hyes:=fun h=>twice_yes (l:=l) hkl h
      have HY:=Lib.hid hyes
      obtain ⟨T,hT⟩:∃ T,(l.take i).any (again (l.getD i nPk)) = T:=⟨_,rfl⟩
      rw [hT] at ca
      have HT:=Lib.hid hT
      generalize hx:l.getD i nPk = x at *
      have HX:=Lib.hid hx
      have HCA:=Lib.hid ca
      clear hb2 i2 hcells hcl2 hx hlim hh hmem ca hbw hyes hT ht
      cases T with
      | true =>
       have hG:G = 4:=by rw [← HG3.out,if_pos (HY.out HT.out)]
       subst hG
       clear HG3 HY HT HX HE
       go_wp2_with fail
       generalize wr.alloc (.cells #[.string (S x.nm),.string (S x.vs),.slice a1 n1 c1,.slice a2 n2 c2,.slice a3 n3 c3,.slice a4 n4 c4,.slice a5 n5 c5,.slice a6 n6 c6,.bool x.ess] 40) = W at *
       refine HCA.out.mono ?_
       rintro e w1 ⟨rfl,k1⟩
       have hb1:=HB2.out.trans (k1.mono HB2.out.size)
       go_wp2_with fail
       go_ret
       exact ⟨rfl,hb1⟩
      | false =>
       have HE2:Hid (∀ j,j < i + 1 → (l.take j).any (again (l.getD j nPk)) = false):=fun j hj=>by
        by_cases e:j = i
        ·rw [e,HX.out]; exact HT.out
        ·exact HE.out j (by omega)
       clear HY HT HX HE
       go_wp2_with fail
       generalize wr.alloc (.cells #[.string (S x.nm),.string (S x.vs),.slice a1 n1 c1,.slice a2 n2 c2,.slice a3 n3 c3,.slice a4 n4 c4,.slice a5 n5 c5,.slice a6 n6 c6,.bool x.ess] 40) = W at *
       refine HCA.out.mono ?_
       rintro e w1 ⟨rfl,k1⟩
       have hb1:=HB2.out.trans (k1.mono HB2.out.size)
       clear HCA k1 HB2
       go_wp2_with fail
       go_roundg g'
       case measure=>omega
       case rel=>exact ⟨i + 1,by go_num,hb1,HE2.out,by omega,by omega⟩
     ·have hge2:¬ (i:Int) < (k:Int):=by omega
      obtain rfl:i = k:=by omega
      have htw:twice l = false:=twice_no fun j hj=>HE.out j (by rw [← HN.out]; exact hj)
      have hG4:=HG3.out
      rw [htw,if_neg (by simp)] at hG4
      have hcn:=countNames_any _ l wr (H.out.below hbw) (by rw [HN.out]; omega)
      rw [HN.out] at hcn
      generalize (nmsOf l []).length = m at *
      have HBW2:=Lib.hid hbw
      clear htw HE HG3 hbw
      by_cases hm10:10 < m
      ·have hm10':(10:Int) < (m:Int):=by omega
       rw [if_pos hm10] at hG4
       subst hG4
       go_wp2_with fail
       refine hcn.mono ?_
       rintro e w1 ⟨rfl,k1⟩
       have hb1:=HBW2.out.trans (k1.mono HBW2.out.size)
       clear hcn
       go_wp2_with fail
       go_ret
       exact ⟨rfl,hb1⟩
      ·have hm10':¬ (10:Int) < (m:Int):=by omega
       rw [if_neg hm10] at hG4
       subst hG4
       go_wp2_with fail
       refine hcn.mono ?_
       rintro e w1 ⟨rfl,k1⟩
       have hb1:=HBW2.out.trans (k1.mono HBW2.out.size)
       clear hcn
       go_wp2_with fail
       go_ret
       exact ⟨rfl,hb1⟩
set_option maxRecDepth 100000 in
set_option maxHeartbeats 8000000 in
theorem mayEntries_any (v:Value) (l:List En) (w:World) (h:Ens w v l) (hL:∀ x ∈ l,x.pk.Lim) (hv:Vars w) :
  Calls Tryz.prog 39 #[v] w fun e w'=>e = .returned (.int .i64 (mayEn l)) ∧ Below w.heap.size w w':=by
 obtain ⟨sa,cap,rfl⟩:=h.shape
 obtain ⟨G,hG⟩:∃ G:Int,mayEn l = G:=⟨_,rfl⟩
 have hG2:=hG
 unfold mayEn at hG2
 rw [hG]
 have H:=Lib.hid h
 have HL:=Lib.hid hL
 have HV:=Lib.hid hv
 have HG:=Lib.hid hG2
 obtain ⟨n,hn⟩:∃ n,l.length = n:=⟨_,rfl⟩
 have HN:=Lib.hid hn
 have hn4:=h.1
 rw [hn] at hn4 ⊢
 rw [hn] at hG2
 clear hn hG h hL hv
 by_cases hmost:10 < n
 ·have hm':(10:Int) < (n:Int):=by omega
  rw [if_pos hmost] at hG2
  subst hG2
  clear HG
  go_enter Tryz.func39,Tryz.ntmps39
  go_wp2_with fail
  go_ret
  exact ⟨rfl,Below.refl _ _⟩
 ·have hm':¬ (10:Int) < (n:Int):=by omega
  rw [if_neg hmost] at hG2
  have HG2:=Lib.hid hG2
  clear hG2 HG
  go_enter Tryz.func39,Tryz.ntmps39
  go_wp2_with fail
  go_loopg [12] n (fun gf s1 wx=>∃ k:Nat,s1 = .int .i64 k ∧ Below w.heap.size w wx ∧ Hid (∀ j,j < k → mayK (l.getD j nEn).pk = 0) ∧ k ≤ n ∧ n ≤ k + gf)
  case atStart=>exact ⟨0,rfl,Below.refl _ _,fun j hj=>absurd hj (by omega),by omega,by omega⟩
  case round =>
   obtain ⟨k,rfl,hbw,HE,hkn,hfu⟩:=hrel
   by_cases hlt:k < n
   ·obtain ⟨g',rfl⟩:∃ g',gk = g' + 1:=⟨gk - 1,by omega⟩
    have hlt':(k:Int) < (n:Int):=by omega
    have hk0:(0:Int) ≤ k:=by omega
    have hkl:k < l.length:=by rw [HN.out]; exact hlt
    obtain ⟨_,a',cap',e1,_,hcells⟩:=H.out.below hbw
    simp only [Value.slice.injEq,true_and] at e1
    obtain ⟨rfl,rfl⟩:=e1
    obtain ⟨kb,off,rfl,hcl2⟩:=hcells (by omega)
    obtain ⟨a1,n1,c1,a2,n2,c2,a3,n3,c3,a4,n4,c4,a5,n5,c5,a6,n6,c6,⟨x0,x1,x2,x3,x4,x5,x6,x7,x8,x9,x10⟩,hh⟩:=en_read (hcl2 k hkl)
    rw [Nat.mul_comm 11 k] at x0 x1 x2 x3 x4 x5 x6 x7 x8 x9 x10
    have hmem:=mem_getD (z:=nEn) hkl
    have hlim:=HL.out _ hmem
    generalize hx:l.getD k nEn = x at *
    have HX:=Lib.hid hx
    have hb2:=(Below.refl wr.heap.size wr).alloc (Nat.le_refl _) (.cells #[.string (S x.pk.nm),.string (S x.pk.vs),.slice a1 n1 c1,.slice a2 n2 c2,.slice a3 n3 c3,.slice a4 n4 c4,.slice a5 n5 c5,.slice a6 n6 c6,.bool x.pk.ess,.bool x.cfg,.bool x.hld] 52)
    have HB2:=Lib.hid (hbw.trans (hb2.mono hbw.size))
    have ca:=may_any _ x.pk (wr.alloc (.cells #[.string (S x.pk.nm),.string (S x.pk.vs),.slice a1 n1 c1,.slice a2 n2 c2,.slice a3 n3 c3,.slice a4 n4 c4,.slice a5 n5 c5,.slice a6 n6 c6,.bool x.pk.ess,.bool x.cfg,.bool x.hld] 52)) ⟨_,_,_,_,_,_,rfl,hh.below hb2⟩ hlim (HV.out.on HB2.out)
    obtain ⟨M,hM⟩:∃ M,mayK x.pk = M:=⟨_,rfl⟩
    rw [hM] at ca
    have HM:=Lib.hid hM
    have CA:=Lib.hid ca
    have HMEM:=Lib.hid hmem
    clear hb2 hcells hcl2 hx hlim hh hmem hM ca hbw
    by_cases hz:M = 0
    ·subst hz
     go_wp2_with fail
     generalize wr.alloc (.cells #[.string (S x.pk.nm),.string (S x.pk.vs),.slice a1 n1 c1,.slice a2 n2 c2,.slice a3 n3 c3,.slice a4 n4 c4,.slice a5 n5 c5,.slice a6 n6 c6,.bool x.pk.ess,.bool x.cfg,.bool x.hld] 52) = W at *
     refine CA.out.mono ?_
     rintro e w1 ⟨rfl,k1⟩
     have hb1:=HB2.out.trans (k1.mono HB2.out.size)
     have HE2:Hid (∀ j,j < k + 1 → mayK (l.getD j nEn).pk = 0):=fun j hj=>by
      by_cases e:j = k
      ·rw [e,HX.out]; exact HM.out
      ·exact HE.out j (by omega)
     clear k1 HB2 CA HE HX HM HMEM
     go_wp2_with fail
     go_roundg g'
     case measure=>omega
     case rel=>exact ⟨k + 1,by go_num,hb1,HE2.out,by omega,by omega⟩
    ·have hne:(M != 0) = true:=by simp [hz]
     have hG:G = M:=by
      have h1:=HG2.out
      have h2:eachK (l.map En.pk) = M:=eachK_at (z:=nEn) En.pk (i:=k) (by rw [HN.out]; exact hlt) HE.out (by rw [HX.out]; exact HM.out) hz
      rw [h2,if_pos hz] at h1
      exact h1.symm
     subst hG
     clear HG2 HM HX HE hz HMEM
     go_wp2_with fail
     generalize wr.alloc (.cells #[.string (S x.pk.nm),.string (S x.pk.vs),.slice a1 n1 c1,.slice a2 n2 c2,.slice a3 n3 c3,.slice a4 n4 c4,.slice a5 n5 c5,.slice a6 n6 c6,.bool x.pk.ess,.bool x.cfg,.bool x.hld] 52) = W at *
     refine CA.out.mono ?_
     rintro e w1 ⟨rfl,k1⟩
     have hb1:=HB2.out.trans (k1.mono HB2.out.size)
     go_wp2_with fail
     go_ret
     exact ⟨rfl,hb1⟩
   ·have hge:¬ (k:Int) < (n:Int):=by omega
    obtain rfl:k = n:=by omega
    have hz:eachK (l.map En.pk) = 0:=eachK_all (z:=nEn) En.pk (fun j hj=>HE.out j (by rw [← HN.out]; exact hj))
    have hG3:=HG2.out
    rw [hz,if_neg (by simp)] at hG3
    have HG3:=Lib.hid hG3
    clear HG2 hz HE hG3
    have HBW:=Lib.hid hbw
    clear hbw
    go_wp2_with fail
    go_loopg [25] k (fun gf s25 wx=>∃ i:Nat,s25 = .int .i64 i ∧ Below w.heap.size w wx ∧ Hid (∀ j,j < i → 0 < j → geB (l.getD (j - 1) nEn).pk.nm (l.getD j nEn).pk.nm = false) ∧ i ≤ k ∧ k ≤ i + gf)
    case atStart=>exact ⟨0,rfl,HBW.out,fun j hj=>absurd hj (by omega),by omega,by omega⟩
    case round =>
     obtain ⟨i,rfl,hbw,HE,hin,hfu2⟩:=hrel
     by_cases hlt:i < k
     ·obtain ⟨g',rfl⟩:∃ g',gk = g' + 1:=⟨gk - 1,by omega⟩
      have hlt':(i:Int) < (k:Int):=by omega
      have hk0:(0:Int) ≤ i:=by omega
      have hkl:i < l.length:=by rw [HN.out]; exact hlt
      obtain ⟨_,a',cap',e1,_,hcells⟩:=H.out.below hbw
      simp only [Value.slice.injEq,true_and] at e1
      obtain ⟨rfl,rfl⟩:=e1
      obtain ⟨kb,off,rfl,hcl2⟩:=hcells (by omega)
      by_cases hi0:0 < i
      ·have hd:decide ((0:Int) < (i:Int)) = true:=decide_eq_true (by omega)
       have hi1:(i:Int) - 1 = ((i - 1:Nat):Int):=by omega
       have hi2:((i - 1:Nat):Int) < (k:Int):=by omega
       have hi3:(0:Int) ≤ ((i - 1:Nat):Int):=by omega
       have hxa:wr.cell? ⟨kb,off + (i - 1) * 11,none⟩ = some (.string (S (l.getD (i - 1) nEn).pk.nm)):=by
        obtain ⟨a1,n1,c1,a2,n2,c2,a3,n3,c3,a4,n4,c4,a5,n5,c5,a6,n6,c6,⟨c0,_⟩,_⟩:=en_read (hcl2 (i - 1) (by omega))
        rw [Nat.mul_comm 11 (i - 1)] at c0; exact c0
       have hxb:wr.cell? ⟨kb,off + i * 11,none⟩ = some (.string (S (l.getD i nEn).pk.nm)):=by
        obtain ⟨a1,n1,c1,a2,n2,c2,a3,n3,c3,a4,n4,c4,a5,n5,c5,a6,n6,c6,⟨c0,_⟩,_⟩:=en_read (hcl2 i hkl)
        rw [Nat.mul_comm 11 i] at c0; exact c0
       obtain ⟨T,hT⟩:∃ T,geB (l.getD (i - 1) nEn).pk.nm (l.getD i nEn).pk.nm = T:=⟨_,rfl⟩
       have hyes:=fun h=>falls_yes (l:=l) hkl hi0 h
       have hless:Go.Op.bytesLess (S (l.getD (i - 1) nEn).pk.nm).toList (S (l.getD i nEn).pk.nm).toList = !T:=by
        rw [← hT]; unfold geB; rw [Bool.not_not]
       have HY:=Lib.hid hyes
       have HT:=Lib.hid hT
       have HBW3:=Lib.hid hbw
       generalize S (l.getD (i - 1) nEn).pk.nm = A at *
       generalize S (l.getD i nEn).pk.nm = B at *
       clear hcells hcl2 hyes hT hbw
       cases T with
       | true =>
        rw [Bool.not_true] at hless
        have hG:G = 4:=by rw [← HG3.out,if_pos (HY.out HT.out)]
        subst hG
        clear HG3 HY HT HE
        go_wp2_with fail
        go_quiet (fail)
        have hbq:=HBW3.out.trans ((Va.below_drewN wr nq).mono HBW3.out.size)
        go_wp2_with fail
        go_ret
        exact ⟨rfl,hbq⟩
       | false =>
        rw [Bool.not_false] at hless
        have HE2:Hid (∀ j,j < i + 1 → 0 < j → geB (l.getD (j - 1) nEn).pk.nm (l.getD j nEn).pk.nm = false):=fun j hj h0=>by
         by_cases e:j = i
         ·rw [e]; exact HT.out
         ·exact HE.out j (by omega) h0
        clear HY HT HE
        go_wp2_with fail
        go_quiet (fail)
        have hbq:=Lib.hid (HBW3.out.trans ((Va.below_drewN wr nq).mono HBW3.out.size))
        generalize wr.drewN nq = wd at *
        go_wp2_with fail
        go_roundg g'
        case measure=>omega
        case rel=>exact ⟨i + 1,by go_num,hbq.out,HE2.out,by omega,by omega⟩
      ·have hd:decide ((0:Int) < (i:Int)) = false:=decide_eq_false (by omega)
       have HE2:Hid (∀ j,j < i + 1 → 0 < j → geB (l.getD (j - 1) nEn).pk.nm (l.getD j nEn).pk.nm = false):=fun j hj h0=>absurd h0 (by omega)
       have HBW3:=Lib.hid hbw
       clear hcells hcl2 hbw HE
       go_wp2_with fail
       go_quiet (fail)
       have hbq:=Lib.hid (HBW3.out.trans ((Va.below_drewN wr nq).mono HBW3.out.size))
       generalize wr.drewN nq = wd at *
       go_wp2_with fail
       go_roundg g'
       case measure=>omega
       case rel=>exact ⟨i + 1,by go_num,hbq.out,HE2.out,by omega,by omega⟩
     ·have hge2:¬ (i:Int) < (k:Int):=by omega
      obtain rfl:i = k:=by omega
      have htw:falls l = false:=falls_no fun j hj=>HE.out j (by rw [← HN.out]; exact hj)
      have hG4:=HG3.out
      rw [htw,if_neg (by simp)] at hG4
      subst hG4
      have HBW2:=Lib.hid hbw
      clear htw HE HG3 hbw
      go_wp2_with fail
      go_ret
      exact ⟨rfl,HBW2.out⟩
end Rc
end Go.Proofs.YtmhpjjjjgakpiaaGreatDoor

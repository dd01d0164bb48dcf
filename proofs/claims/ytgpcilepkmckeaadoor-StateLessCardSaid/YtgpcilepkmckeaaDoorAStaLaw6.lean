/-
The law StateLess.
-/
import Derived.Test.YtgpcilepkmckeaaDoorAStaLaw2
import Derived.Test.YtgpcilepkmckeaaDoorAStaEnt
namespace Go.Proofs.YtgpcilepkmckeaaDoor
open Go.RowKit
set_option linter.unusedSimpArgs false
set_option linter.unusedVariables false
namespace Sa
open Ver (S)
open Rl (Vars Slc)
open Rc (Pk En Ens Pks infoEn)
def no_pre (x:Ee):Ee:=⟨⟨⟨x.en.pk.nm,x.en.pk.vs,[],x.en.pk.dep,x.en.pk.rcm,x.en.pk.con,x.en.pk.brk,x.en.pk.prv,x.en.pk.ess⟩,x.en.cfg,x.en.hld⟩,.slice none 0 0,x.u2,x.u3,x.u4,x.u5,x.u6,fun u hu=>by
 simp only [List.mem_cons,List.not_mem_nil,or_false] at hu
 have h:=x.sl u
 simp only [List.mem_cons,List.not_mem_nil,or_false] at h
 rcases hu with e | e | e | e | e | e
 all_goals first
  | exact ⟨none,0,0,e⟩
  | exact h (by simp [e])⟩
theorem no_pre_le {x y:Ee} (h:LeR x y):LeR (no_pre x) y:=⟨h.cfg,h.nm,h.vs,h.rcm,h.prv,.inr ⟨rfl,rfl⟩,h.dep,h.con,h.brk⟩
def no_dep (x:Ee):Ee:=⟨⟨⟨x.en.pk.nm,x.en.pk.vs,x.en.pk.pre,[],x.en.pk.rcm,x.en.pk.con,x.en.pk.brk,x.en.pk.prv,x.en.pk.ess⟩,x.en.cfg,x.en.hld⟩,x.u1,.slice none 0 0,x.u3,x.u4,x.u5,x.u6,fun u hu=>by
 simp only [List.mem_cons,List.not_mem_nil,or_false] at hu
 have h:=x.sl u
 simp only [List.mem_cons,List.not_mem_nil,or_false] at h
 rcases hu with e | e | e | e | e | e
 all_goals first
  | exact ⟨none,0,0,e⟩
  | exact h (by simp [e])⟩
theorem no_dep_le {x y:Ee} (h:LeR x y):LeR (no_dep x) y:=⟨h.cfg,h.nm,h.vs,h.rcm,h.prv,h.pre,.inr ⟨rfl,rfl⟩,h.con,h.brk⟩
def no_con (x:Ee):Ee:=⟨⟨⟨x.en.pk.nm,x.en.pk.vs,x.en.pk.pre,x.en.pk.dep,x.en.pk.rcm,[],x.en.pk.brk,x.en.pk.prv,x.en.pk.ess⟩,x.en.cfg,x.en.hld⟩,x.u1,x.u2,x.u3,.slice none 0 0,x.u5,x.u6,fun u hu=>by
 simp only [List.mem_cons,List.not_mem_nil,or_false] at hu
 have h:=x.sl u
 simp only [List.mem_cons,List.not_mem_nil,or_false] at h
 rcases hu with e | e | e | e | e | e
 all_goals first
  | exact ⟨none,0,0,e⟩
  | exact h (by simp [e])⟩
theorem no_con_le {x y:Ee} (h:LeR x y):LeR (no_con x) y:=⟨h.cfg,h.nm,h.vs,h.rcm,h.prv,h.pre,h.dep,.inr ⟨rfl,rfl⟩,h.brk⟩
def no_brk (x:Ee):Ee:=⟨⟨⟨x.en.pk.nm,x.en.pk.vs,x.en.pk.pre,x.en.pk.dep,x.en.pk.rcm,x.en.pk.con,[],x.en.pk.prv,x.en.pk.ess⟩,x.en.cfg,x.en.hld⟩,x.u1,x.u2,x.u3,x.u4,.slice none 0 0,x.u6,fun u hu=>by
 simp only [List.mem_cons,List.not_mem_nil,or_false] at hu
 have h:=x.sl u
 simp only [List.mem_cons,List.not_mem_nil,or_false] at h
 rcases hu with e | e | e | e | e | e
 all_goals first
  | exact ⟨none,0,0,e⟩
  | exact h (by simp [e])⟩
theorem no_brk_le {x y:Ee} (h:LeR x y):LeR (no_brk x) y:=⟨h.cfg,h.nm,h.vs,h.rcm,h.prv,h.pre,h.dep,h.con,.inr ⟨rfl,rfl⟩⟩
structure Bare (x:Ee):Prop where
 pre:x.en.pk.pre = []
 dep:x.en.pk.dep = []
 con:x.en.pk.con = []
 brk:x.en.pk.brk = []
theorem rem4 (r:Int):∃ R,(IntKind.u64.wrap r).tmod 4 = R ∧ (R = 0 ∨ R = 1 ∨ R = 2 ∨ R = 3):=by
 refine ⟨_,rfl,?_⟩
 have h0:0 ≤ IntKind.u64.wrap r:=by
  simp [IntKind.wrap,IntKind.signed,IntKind.bits]
  omega
 rw [Int.tmod_eq_emod_of_nonneg h0]
 omega
theorem remN (r:Int) (n:Nat) (hn:0 < n) (h26:n ≤ 26):∃ p:Nat,wrap64 ((IntKind.u64.wrap r).tmod (n:Int)) = (p:Int) ∧ p < n:=by
 have h0:0 ≤ IntKind.u64.wrap r:=by
  simp [IntKind.wrap,IntKind.signed,IntKind.bits]
  omega
 rw [Int.tmod_eq_emod_of_nonneg h0]
 have h1:=Int.emod_nonneg (IntKind.u64.wrap r) (show (n:Int) ≠ 0 by omega)
 have h2:=Int.emod_lt_of_pos (IntKind.u64.wrap r) (show (0:Int) < n by omega)
 refine ⟨((IntKind.u64.wrap r) % (n:Int)).toNat,?_,by omega⟩
 unfold wrap64
 omega
theorem wrapN (n:Nat) (h:n ≤ 26):IntKind.u64.wrap (n:Int) = (n:Int):=by
 simp [IntKind.wrap,IntKind.signed,IntKind.bits]
 omega
set_option maxRecDepth 100000 in
set_option maxHeartbeats 16000000 in
theorem less_walk (v0:Value) (s:List En) (at' kind:Int) (w:World) (h:Ens w v0 s) (hL:LimS s) (hbig:s.length * 184 ≤ 140737488355328) (hv:Vars w) :
  Calls Tryd.prog 5 #[v0,.int .i64 at',.int .i64 kind] w fun e w'=>e = .returned (.bool true) ∧ Below w.heap.size w w':=by
 have cb:=bare_any v0 s w h hbig
 obtain ⟨d,hd,hsl,hdI⟩:=ees_of h
 have hdl:d.length = s.length:=by rw [← hd,List.length_map]
 obtain ⟨sa,cap,rfl⟩:=h.shape
 have H:=Lib.hid h
 have HL:=Lib.hid hL
 have HV:=Lib.hid hv
 have HD:=Lib.hid hd
 have HDI:=Lib.hid hdI
 obtain ⟨n,hn⟩:∃ n,s.length = n:=⟨_,rfl⟩
 rw [hn] at cb hbig hdl hsl
 rw [hn]
 have HN:=Lib.hid hn
 have HDL:=Lib.hid hdl
 have HSL:=Lib.hid hsl
 have hn0:=h.1
 rw [hn] at hn0
 clear h hL hv hbig hd hdI hn hdl hsl
 go_enter Tryd.func5,Tryd.ntmps5
 go_wp2_with fail
 refine cb.mono ?_
 rintro e w1 ⟨v1,rfl,hp,k1⟩
 have cl:=light_any v1 _ w1 hp
 obtain ⟨pa,pc,rfl⟩:=hp.shape
 obtain ⟨b1,hb1⟩:∃ b,lightB (s.map En.pk) = b:=⟨_,rfl⟩
 rw [hb1] at cl
 have HB1:=Lib.hid hb1
 have K1:=Lib.hid k1
 generalize (s.map En.pk).length = pn at *
 clear cb hp hb1 k1
 go_wp2_with fail
 refine cl.mono ?_
 rintro e w2 ⟨rfl,k2⟩
 have K2:=Lib.hid (K1.out.trans (k2.mono K1.out.size))
 have ca:=awake_any w2 (HV.out.on K2.out)
 clear cl k2 K1
 cases b1 with
 | false =>
  go_wp2_with fail
  refine ca.mono ?_
  rintro e w3 ⟨rfl,k3⟩
  have hb:=K2.out.trans (k3.mono K2.out.size)
  clear ca
  go_wp2_with fail
  go_ret
  exact ⟨rfl,hb⟩
 | true =>
  have hF:=light_few HB1.out
  have HF:=Lib.hid hF
  have h26:n ≤ 26:=by rw [← HN.out]; exact hF.len
  clear hF HB1
  by_cases h0:n = 0
  ·subst h0
   go_wp2_with fail
   refine ca.mono ?_
   rintro e w3 ⟨rfl,k3⟩
   have hb:=K2.out.trans (k3.mono K2.out.size)
   clear ca
   go_wp2_with fail
   go_ret
   exact ⟨rfl,hb⟩
  ·have hn1:0 < n:=by omega
   have h0':¬ (n:Int) = 0:=by omega
   have h0b:((n:Int) == 0) = false:=by simp; omega
   obtain ⟨p,hpq,hpn⟩:=remN at' n hn1 h26
   have hw:=wrapN n h26
   obtain ⟨i0,hi,hz0,hz1,hz2⟩:=info_parts infoEn
   have HI:=Lib.hid hi
   clear ca hi h0
   have SRC:Hid (∀ u,Below w.heap.size w u → Src Tryd.prog 11 22 (.slice sa n cap) n (d.flatMap Ee.enc) u):=Lib.hid fun u hu=>by
    have h:=ees_src (Slc.below (P:=EeAt) (fun _ _ _ _ _ h hb=>EeAt.below h hb) HSL.out hu)
    rw [HDL.out] at h
    exact h
   go_wp2_with (at_builtin; refine Own.wpList_append_src rfl (.const (.slice none 0 0)) (.tmp 27) 22 22 rfl w.heap.size 38 i0 _ 11 192 Tryd.underlying22 HI.out hz0 hz1 hz2 rfl _ 0 [] rfl (World.ownsRow_nil _ _ _ _) _ n (d.flatMap Ee.enc) rfl (SRC.out _ K2.out) (by simp only [maxLen]; omega) (by omega) K2.out.size ?_; intro v' w3 o1 g1; rw [Nat.zero_add,List.nil_append] at o1; have o2:w3.ownsRow w.heap.size 38 11 v' n (d.flatMap Ee.enc):=o1; obtain ⟨R,rc,rfl,_⟩:=Rl.own_slice o2 hn1; have hR:=(Rl.own_lt o2 rfl).1; have O3:=Lib.hid o2; have B3:=Lib.hid (Own.below_grown K2.out (World.ownsRow_nil w2 w.heap.size 38 11) g1 K2.out.size); clear o1 o2 g1)
   go_loopg [31] n (fun gf s31 wx=>∃ (k:Nat) (ds:List Ee),s31 = .int .i64 k ∧ Hid (wx.ownsRow w.heap.size 38 11 (.slice (some ⟨R,0,none⟩) n rc) n (ds.flatMap Ee.enc)) ∧ Hid (AllR EqH ds d) ∧ Hid (Below w.heap.size w wx) ∧ k ≤ n ∧ n ≤ k + gf)
   case atStart=>exact ⟨0,d,rfl,O3,Lib.hid ⟨rfl,fun j x y hx hy=>by rw [hx] at hy; cases hy; exact ⟨rfl,rfl,rfl,rfl,rfl,rfl,rfl,rfl⟩⟩,B3,by omega,by omega⟩
   case round =>
    clear O3 B3
    obtain ⟨k,ds,rfl,O,E,B,hkn,hfu⟩:=hrel
    by_cases hlt:k < n
    ·obtain ⟨g',rfl⟩:∃ g',gk = g' + 1:=⟨gk - 1,by omega⟩
     have hlt':(k:Int) < (n:Int):=by omega
     have hk0:(0:Int) ≤ k:=by omega
     obtain ⟨x,hx⟩:∃ x,ds[k]? = some x:=⟨ds[k]'(by rw [E.out.1,HDL.out]; exact hlt),List.getElem?_eq_getElem _⟩
     have HX:=Lib.hid hx
     have E2:Hid (AllR EqH (ds.set k { x with en:=⟨x.en.pk,x.en.cfg,!x.en.hld⟩ }) d):=Lib.hid (E.out.set hx fun y h=>⟨h.pk,h.cfg,h.u1,h.u2,h.u3,h.u4,h.u5,h.u6⟩)
     clear hx E
     have hc:=ee_at O.out HX.out (j:=10) rfl
     have hf:=Rl.own_free O.out (k * 11 + 10)
     have os:=ee_set O.out HX.out (j:=10) (by omega) (u:=(.bool (!x.en.hld))) (y:={ x with en:=⟨x.en.pk,x.en.cfg,!x.en.hld⟩ }) rfl
     have bs:=B.out.setCell (p:=⟨R,k * 11 + 10,none⟩) hR (.bool (!x.en.hld))
     obtain ⟨WS,hWS⟩:∃ W',wr.setCell ⟨R,k * 11 + 10,none⟩ (.bool (!x.en.hld)) = W':=⟨_,rfl⟩
     rw [hWS] at os bs
     have OS:=Lib.hid os
     have BS:=Lib.hid bs
     have hu:=hWS
     clear os bs hWS O B
     go_wp2_with fail
     clear hu hc hf
     go_roundg g'
     case measure=>omega
     case rel=>exact ⟨k + 1,_,by go_num,OS,E2,BS,by omega,by omega⟩
    ·obtain rfl:n = k:=by omega
     have hge:¬ (n:Int) < (n:Int):=by omega
     have A:=Lib.hid (EqH.alike E.out)
     have L:=Lib.hid (E.out.mono fun _ _ h=>h.le)
     have HFD:Hid (Few (d.map Ee.en)):=Lib.hid (by rw [HD.out]; exact HF.out)
     have HLD:Hid (LimS (d.map Ee.en)):=Lib.hid (by rw [HD.out]; exact HL.out)
     have cw:=wrong_any _ s wr (H.out.below B.out) HL.out (HV.out.on B.out) HF.out
     rw [HN.out] at cw
     clear E hkn hfu hlt
     go_wp2_with fail
     refine cw.mono ?_
     rintro e w4 ⟨v4,rfl,o4,k4⟩
     have V4:=Lib.hid (vis_of HF.out o4)
     have O4:=Lib.hid (Own.owns_below O.out k4)
     have B4:=Lib.hid (B.out.trans (k4.mono B.out.size))
     have hens:=LeR.ens L.out HDI.out B4.out O4.out (by rw [L.out.1,HDL.out]) hn0
     have cw2:=wrong_any _ _ w4 hens (LeR.lims L.out HLD.out) (HV.out.on B4.out) (LeR.few L.out HFD.out)
     have hws:Sa.wr (ds.map Ee.en) = Sa.wr s:=by rw [wr_same A.out,HD.out]
     rw [hws] at cw2
     obtain ⟨a4,r4,rfl,_⟩:=Rl.own_shape o4
     obtain ⟨N,hN⟩:∃ N,(Sa.wr s).length = N:=⟨_,rfl⟩
     rw [hN] at V4
     rw [hN]
     have HNN:=Lib.hid hN
     clear cw o4 k4 O B hens hws hN
     go_wp2_with fail
     refine cw2.mono ?_
     rintro e w5 ⟨v5,rfl,o5,k5⟩
     have O5:=Lib.hid (Own.owns_below O4.out k5)
     have B5:=Lib.hid (B4.out.trans (k5.mono B4.out.size))
     have cs:=sameWrong_yes _ _ _ w5 (V4.out.below k5) (vis_of HF.out o5)
     obtain ⟨a5,r5,rfl,_⟩:=Rl.own_shape o5
     rw [HNN.out] at cs ⊢
     clear cw2 o5 k5 O4 B4 V4
     go_wp2_with fail
     refine cs.mono ?_
     rintro e w6 ⟨rfl,k6⟩
     have O:=Lib.hid (Own.owns_below O5.out k6)
     have B:=Lib.hid (B5.out.trans (k6.mono B5.out.size))
     clear cs k6 O5 B5
     obtain ⟨q,hq,hq4⟩:=rem4 kind
     have hpd:p < ds.length:=by rw [L.out.1,HDL.out]; exact hpn
     obtain ⟨x,hx⟩:∃ x,ds[p]? = some x:=⟨ds[p],List.getElem?_eq_getElem hpd⟩
     have HX:=Lib.hid hx
     have hp0:(0:Int) ≤ p:=by omega
     have hpn':(p:Int) < (n:Int):=by omega
     clear hx hpd
     rcases hq4 with rfl | rfl | rfl | rfl
     ·have hc:=ee_at O.out HX.out (j:=3) rfl
      have hf:=Rl.own_free O.out (p * 11 + 3)
      have os:=ee_set O.out HX.out (j:=3) (by omega) (u:=(.slice none 0 0)) (y:=no_dep x) rfl
      have bs:=B.out.setCell (p:=⟨R,p * 11 + 3,none⟩) hR (.slice none 0 0)
      obtain ⟨WS,hWS⟩:∃ W',w6.setCell ⟨R,p * 11 + 3,none⟩ (.slice none 0 0) = W':=⟨_,rfl⟩
      rw [hWS] at os bs
      have OS:=Lib.hid os
      have BS:=Lib.hid bs
      have hu:=hWS
      clear os bs hWS O B
      have L2:Hid (AllR LeR (ds.set p (no_dep x)) d):=Lib.hid (L.out.set HX.out fun y h=>no_dep_le h)
      go_wp2_with fail
      clear hu hc hf L A
      obtain ⟨ds2,hds2⟩:∃ z,ds.set p (no_dep x) = z:=⟨_,rfl⟩
      rw [hds2] at OS L2
      clear hds2 HX hq
      have O:=OS
      have B:=BS
      clear OS BS
      have hens:=LeR.ens L2.out HDI.out B.out O.out (by rw [L2.out.1,HDL.out]) hn0
      have cw:=wrong_any _ _ WS hens (LeR.lims L2.out HLD.out) (HV.out.on B.out) (LeR.few L2.out HFD.out)
      have hwi:within (Sa.wr (ds2.map Ee.en)) (Sa.wr s) = true:=by
       rw [within_iff]
       intro x hx
       have:=wr_less (LeR.part L2.out) x hx
       rwa [HD.out] at this
      have HWI:=Lib.hid hwi
      have HF2:=Lib.hid (LeR.few L2.out HFD.out)
      clear hens hwi
      refine cw.mono ?_
      rintro e w7 ⟨v7,rfl,o7,k7⟩
      have V7:=Lib.hid (vis_of HF2.out o7)
      have O7:=Lib.hid (Own.owns_below O.out k7)
      have B7:=Lib.hid (B.out.trans (k7.mono B.out.size))
      have cw2:=wrong_any _ s w7 (H.out.below B7.out) HL.out (HV.out.on B7.out) HF.out
      rw [HNN.out,HN.out] at cw2
      obtain ⟨a7,r7,rfl,_⟩:=Rl.own_shape o7
      obtain ⟨N2,hN2⟩:∃ N,(Sa.wr (ds2.map Ee.en)).length = N:=⟨_,rfl⟩
      rw [hN2] at V7
      rw [hN2]
      clear cw o7 k7 O B hN2
      go_wp2_with fail
      refine cw2.mono ?_
      rintro e w8 ⟨v8,rfl,o8,k8⟩
      have O8:=Lib.hid (Own.owns_below O7.out k8)
      have B8:=Lib.hid (B7.out.trans (k8.mono B7.out.size))
      have cs:=within_any _ _ _ _ w8 (V7.out.below k8) (vis_of HF.out (by rw [HNN.out]; exact o8))
      rw [HWI.out] at cs
      obtain ⟨a8,r8,rfl,_⟩:=Rl.own_shape o8
      clear cw2 o8 k8 O7 B7 V7 HWI HF2
      go_wp2_with fail
      refine cs.mono ?_
      rintro e w9 ⟨rfl,k9⟩
      have O:=Lib.hid (Own.owns_below O8.out k9)
      have B:=Lib.hid (B8.out.trans (k9.mono B8.out.size))
      clear cs k9 O8 B8
      go_wp2_with fail
      clear hp0 hpn'
      go_loopg [88] n (fun gf s88 wx=>∃ (k:Nat) (dz:List Ee),s88 = .int .i64 k ∧ Hid (wx.ownsRow w.heap.size 38 11 (.slice (some ⟨R,0,none⟩) n rc) n (dz.flatMap Ee.enc)) ∧ Hid (AllR LeR dz d) ∧ Hid (∀ j x,j < k → dz[j]? = some x → Bare x) ∧ Hid (Below w.heap.size w wx) ∧ k ≤ n ∧ n ≤ k + gf)
      case atStart=>exact ⟨0,ds2,rfl,O,L2,Lib.hid (fun j x hj=>absurd hj (by omega)),B,by omega,by omega⟩
      case round =>
       clear O B L2
       obtain ⟨k,dz,rfl,O,L,E,B,hkn,hfu⟩:=hrel
       by_cases hlt:k < n
       ·obtain ⟨g',rfl⟩:∃ g',gk = g' + 1:=⟨gk - 1,by omega⟩
        have hlt':(k:Int) < (n:Int):=by omega
        have hk0:(0:Int) ≤ k:=by omega
        obtain ⟨x,hx⟩:∃ x,dz[k]? = some x:=⟨dz[k]'(by rw [L.out.1,HDL.out]; exact hlt),List.getElem?_eq_getElem _⟩
        have f0:=fun o=>Rl.own_free O.out o
        have c3:=ee_at O.out hx (j:=3) rfl
        have c2:=ee_at O.out hx (j:=2) rfl
        have c5:=ee_at O.out hx (j:=5) rfl
        have c6:=ee_at O.out hx (j:=6) rfl
        have os1:=ee_set O.out hx (j:=3) (by omega) (u:=.slice none 0 0) (y:=no_dep x) rfl
        have l1:=L.out.set hx fun y h=>no_dep_le h
        have x1:(dz.set k (no_dep x))[k]? = some (no_dep x):=List.getElem?_set_self (List.getElem?_eq_some_iff.1 hx).1
        have os2:=ee_set os1 x1 (j:=2) (by omega) (u:=.slice none 0 0) (y:=no_pre (no_dep x)) rfl
        have l2:=l1.set x1 fun y h=>no_pre_le h
        rw [List.set_set] at os2 l2
        have x2:(dz.set k (no_pre (no_dep x)))[k]? = some (no_pre (no_dep x)):=List.getElem?_set_self (List.getElem?_eq_some_iff.1 hx).1
        have os3:=ee_set os2 x2 (j:=5) (by omega) (u:=.slice none 0 0) (y:=no_con (no_pre (no_dep x))) rfl
        have l3:=l2.set x2 fun y h=>no_con_le h
        rw [List.set_set] at os3 l3
        have x3:(dz.set k (no_con (no_pre (no_dep x))))[k]? = some (no_con (no_pre (no_dep x))):=List.getElem?_set_self (List.getElem?_eq_some_iff.1 hx).1
        have os4:=ee_set os3 x3 (j:=6) (by omega) (u:=.slice none 0 0) (y:=no_brk (no_con (no_pre (no_dep x)))) rfl
        have l4:=l3.set x3 fun y h=>no_brk_le h
        rw [List.set_set] at os4 l4
        have bs:=(((B.out.setCell (p:=⟨R,k * 11 + 3,none⟩) hR (.slice none 0 0)).setCell (p:=⟨R,k * 11 + 2,none⟩) hR (.slice none 0 0)).setCell (p:=⟨R,k * 11 + 5,none⟩) hR (.slice none 0 0)).setCell (p:=⟨R,k * 11 + 6,none⟩) hR (.slice none 0 0)
        have E2:Hid (∀ j y,j < k + 1 → (dz.set k (no_brk (no_con (no_pre (no_dep x)))))[j]? = some y → Bare y):=Lib.hid fun j y hj hy=>by
         by_cases e:j = k
         ·subst e
          rw [List.getElem?_set_self (List.getElem?_eq_some_iff.1 hx).1] at hy
          obtain rfl:=Option.some.inj hy
          exact ⟨rfl,rfl,rfl,rfl⟩
         ·rw [List.getElem?_set_ne (fun e2=>e e2.symm)] at hy
          exact E.out j y (by omega) hy
        have f1:=fun o=>Rl.own_free os1 o
        have f2:=fun o=>Rl.own_free os2 o
        have f3:=fun o=>Rl.own_free os3 o
        have q2:=ee_at os1 x1 (j:=2) rfl
        have q5:=ee_at os2 x2 (j:=5) rfl
        have q6:=ee_at os3 x3 (j:=6) rfl
        have OS:=Lib.hid os4
        have L4:=Lib.hid l4
        have BS:=Lib.hid bs
        have g3:=f0 (k * 11 + 3)
        have g2:=f1 (k * 11 + 2)
        have g5:=f2 (k * 11 + 5)
        have g6:=f3 (k * 11 + 6)
        clear hx O L E B os1 l1 x1 os2 l2 x2 os3 l3 x3 os4 l4 bs f0 f1 f2 f3
        go_wp2_with fail
        clear g3 g2 g5 g6 q2 q5 q6 c3 c2 c5 c6
        go_roundg g'
        case measure=>omega
        case rel=>exact ⟨k + 1,_,by go_num,OS,L4,E2,BS,by omega,by omega⟩
       ·obtain rfl:n = k:=by omega
        have hge:¬ (n:Int) < (n:Int):=by omega
        have hens:=LeR.ens L.out HDI.out B.out O.out (by rw [L.out.1,HDL.out]) hn0
        have cw:=wrong_any _ _ wr hens (LeR.lims L.out HLD.out) (HV.out.on B.out) (LeR.few L.out HFD.out)
        have hb0:Sa.wr (dz.map Ee.en) = []:=wr_bare fun j=>by
         rcases L.out.each j with ⟨x,y,hx,hy,_⟩ | ⟨h1,h2⟩
         ·rw [(pk_map hx).1]
          have hj:j < n:=by rw [← HDL.out,← L.out.1]; exact (List.getElem?_eq_some_iff.1 hx).1
          have:=E.out j x hj hx
          exact ⟨this.pre,this.dep,this.con,this.brk⟩
         ·rw [(pk_off h1).1]; exact ⟨rfl,rfl,rfl,rfl⟩
        rw [hb0] at cw
        clear hens hb0 L E
        go_wp2_with fail
        refine cw.mono ?_
        rintro e wa ⟨va,rfl,oa,ka⟩
        obtain ⟨aa,ra,rfl,_⟩:=Rl.own_shape oa
        have BA:=Lib.hid (B.out.trans (ka.mono B.out.size))
        have ca:=awake_any wa (HV.out.on BA.out)
        rw [show ([]:List Vi).length = 0 from rfl]
        clear cw oa ka O B
        go_wp2_with fail
        refine ca.mono ?_
        rintro e wb ⟨rfl,kb⟩
        have hb:=BA.out.trans (kb.mono BA.out.size)
        clear ca
        go_wp2_with fail
        go_ret
        exact ⟨rfl,hb⟩
     ·have hc:=ee_at O.out HX.out (j:=2) rfl
      have hf:=Rl.own_free O.out (p * 11 + 2)
      have os:=ee_set O.out HX.out (j:=2) (by omega) (u:=(.slice none 0 0)) (y:=no_pre x) rfl
      have bs:=B.out.setCell (p:=⟨R,p * 11 + 2,none⟩) hR (.slice none 0 0)
      obtain ⟨WS,hWS⟩:∃ W',w6.setCell ⟨R,p * 11 + 2,none⟩ (.slice none 0 0) = W':=⟨_,rfl⟩
      rw [hWS] at os bs
      have OS:=Lib.hid os
      have BS:=Lib.hid bs
      have hu:=hWS
      clear os bs hWS O B
      have L2:Hid (AllR LeR (ds.set p (no_pre x)) d):=Lib.hid (L.out.set HX.out fun y h=>no_pre_le h)
      go_wp2_with fail
      clear hu hc hf L A
      obtain ⟨ds2,hds2⟩:∃ z,ds.set p (no_pre x) = z:=⟨_,rfl⟩
      rw [hds2] at OS L2
      clear hds2 HX hq
      have O:=OS
      have B:=BS
      clear OS BS
      have hens:=LeR.ens L2.out HDI.out B.out O.out (by rw [L2.out.1,HDL.out]) hn0
      have cw:=wrong_any _ _ WS hens (LeR.lims L2.out HLD.out) (HV.out.on B.out) (LeR.few L2.out HFD.out)
      have hwi:within (Sa.wr (ds2.map Ee.en)) (Sa.wr s) = true:=by
       rw [within_iff]
       intro x hx
       have:=wr_less (LeR.part L2.out) x hx
       rwa [HD.out] at this
      have HWI:=Lib.hid hwi
      have HF2:=Lib.hid (LeR.few L2.out HFD.out)
      clear hens hwi
      refine cw.mono ?_
      rintro e w7 ⟨v7,rfl,o7,k7⟩
      have V7:=Lib.hid (vis_of HF2.out o7)
      have O7:=Lib.hid (Own.owns_below O.out k7)
      have B7:=Lib.hid (B.out.trans (k7.mono B.out.size))
      have cw2:=wrong_any _ s w7 (H.out.below B7.out) HL.out (HV.out.on B7.out) HF.out
      rw [HNN.out,HN.out] at cw2
      obtain ⟨a7,r7,rfl,_⟩:=Rl.own_shape o7
      obtain ⟨N2,hN2⟩:∃ N,(Sa.wr (ds2.map Ee.en)).length = N:=⟨_,rfl⟩
      rw [hN2] at V7
      rw [hN2]
      clear cw o7 k7 O B hN2
      go_wp2_with fail
      refine cw2.mono ?_
      rintro e w8 ⟨v8,rfl,o8,k8⟩
      have O8:=Lib.hid (Own.owns_below O7.out k8)
      have B8:=Lib.hid (B7.out.trans (k8.mono B7.out.size))
      have cs:=within_any _ _ _ _ w8 (V7.out.below k8) (vis_of HF.out (by rw [HNN.out]; exact o8))
      rw [HWI.out] at cs
      obtain ⟨a8,r8,rfl,_⟩:=Rl.own_shape o8
      clear cw2 o8 k8 O7 B7 V7 HWI HF2
      go_wp2_with fail
      refine cs.mono ?_
      rintro e w9 ⟨rfl,k9⟩
      have O:=Lib.hid (Own.owns_below O8.out k9)
      have B:=Lib.hid (B8.out.trans (k9.mono B8.out.size))
      clear cs k9 O8 B8
      go_wp2_with fail
      clear hp0 hpn'
      go_loopg [88] n (fun gf s88 wx=>∃ (k:Nat) (dz:List Ee),s88 = .int .i64 k ∧ Hid (wx.ownsRow w.heap.size 38 11 (.slice (some ⟨R,0,none⟩) n rc) n (dz.flatMap Ee.enc)) ∧ Hid (AllR LeR dz d) ∧ Hid (∀ j x,j < k → dz[j]? = some x → Bare x) ∧ Hid (Below w.heap.size w wx) ∧ k ≤ n ∧ n ≤ k + gf)
      case atStart=>exact ⟨0,ds2,rfl,O,L2,Lib.hid (fun j x hj=>absurd hj (by omega)),B,by omega,by omega⟩
      case round =>
       clear O B L2
       obtain ⟨k,dz,rfl,O,L,E,B,hkn,hfu⟩:=hrel
       by_cases hlt:k < n
       ·obtain ⟨g',rfl⟩:∃ g',gk = g' + 1:=⟨gk - 1,by omega⟩
        have hlt':(k:Int) < (n:Int):=by omega
        have hk0:(0:Int) ≤ k:=by omega
        obtain ⟨x,hx⟩:∃ x,dz[k]? = some x:=⟨dz[k]'(by rw [L.out.1,HDL.out]; exact hlt),List.getElem?_eq_getElem _⟩
        have f0:=fun o=>Rl.own_free O.out o
        have c3:=ee_at O.out hx (j:=3) rfl
        have c2:=ee_at O.out hx (j:=2) rfl
        have c5:=ee_at O.out hx (j:=5) rfl
        have c6:=ee_at O.out hx (j:=6) rfl
        have os1:=ee_set O.out hx (j:=3) (by omega) (u:=.slice none 0 0) (y:=no_dep x) rfl
        have l1:=L.out.set hx fun y h=>no_dep_le h
        have x1:(dz.set k (no_dep x))[k]? = some (no_dep x):=List.getElem?_set_self (List.getElem?_eq_some_iff.1 hx).1
        have os2:=ee_set os1 x1 (j:=2) (by omega) (u:=.slice none 0 0) (y:=no_pre (no_dep x)) rfl
        have l2:=l1.set x1 fun y h=>no_pre_le h
        rw [List.set_set] at os2 l2
        have x2:(dz.set k (no_pre (no_dep x)))[k]? = some (no_pre (no_dep x)):=List.getElem?_set_self (List.getElem?_eq_some_iff.1 hx).1
        have os3:=ee_set os2 x2 (j:=5) (by omega) (u:=.slice none 0 0) (y:=no_con (no_pre (no_dep x))) rfl
        have l3:=l2.set x2 fun y h=>no_con_le h
        rw [List.set_set] at os3 l3
        have x3:(dz.set k (no_con (no_pre (no_dep x))))[k]? = some (no_con (no_pre (no_dep x))):=List.getElem?_set_self (List.getElem?_eq_some_iff.1 hx).1
        have os4:=ee_set os3 x3 (j:=6) (by omega) (u:=.slice none 0 0) (y:=no_brk (no_con (no_pre (no_dep x)))) rfl
        have l4:=l3.set x3 fun y h=>no_brk_le h
        rw [List.set_set] at os4 l4
        have bs:=(((B.out.setCell (p:=⟨R,k * 11 + 3,none⟩) hR (.slice none 0 0)).setCell (p:=⟨R,k * 11 + 2,none⟩) hR (.slice none 0 0)).setCell (p:=⟨R,k * 11 + 5,none⟩) hR (.slice none 0 0)).setCell (p:=⟨R,k * 11 + 6,none⟩) hR (.slice none 0 0)
        have E2:Hid (∀ j y,j < k + 1 → (dz.set k (no_brk (no_con (no_pre (no_dep x)))))[j]? = some y → Bare y):=Lib.hid fun j y hj hy=>by
         by_cases e:j = k
         ·subst e
          rw [List.getElem?_set_self (List.getElem?_eq_some_iff.1 hx).1] at hy
          obtain rfl:=Option.some.inj hy
          exact ⟨rfl,rfl,rfl,rfl⟩
         ·rw [List.getElem?_set_ne (fun e2=>e e2.symm)] at hy
          exact E.out j y (by omega) hy
        have f1:=fun o=>Rl.own_free os1 o
        have f2:=fun o=>Rl.own_free os2 o
        have f3:=fun o=>Rl.own_free os3 o
        have q2:=ee_at os1 x1 (j:=2) rfl
        have q5:=ee_at os2 x2 (j:=5) rfl
        have q6:=ee_at os3 x3 (j:=6) rfl
        have OS:=Lib.hid os4
        have L4:=Lib.hid l4
        have BS:=Lib.hid bs
        have g3:=f0 (k * 11 + 3)
        have g2:=f1 (k * 11 + 2)
        have g5:=f2 (k * 11 + 5)
        have g6:=f3 (k * 11 + 6)
        clear hx O L E B os1 l1 x1 os2 l2 x2 os3 l3 x3 os4 l4 bs f0 f1 f2 f3
        go_wp2_with fail
        clear g3 g2 g5 g6 q2 q5 q6 c3 c2 c5 c6
        go_roundg g'
        case measure=>omega
        case rel=>exact ⟨k + 1,_,by go_num,OS,L4,E2,BS,by omega,by omega⟩
       ·obtain rfl:n = k:=by omega
        have hge:¬ (n:Int) < (n:Int):=by omega
        have hens:=LeR.ens L.out HDI.out B.out O.out (by rw [L.out.1,HDL.out]) hn0
        have cw:=wrong_any _ _ wr hens (LeR.lims L.out HLD.out) (HV.out.on B.out) (LeR.few L.out HFD.out)
        have hb0:Sa.wr (dz.map Ee.en) = []:=wr_bare fun j=>by
         rcases L.out.each j with ⟨x,y,hx,hy,_⟩ | ⟨h1,h2⟩
         ·rw [(pk_map hx).1]
          have hj:j < n:=by rw [← HDL.out,← L.out.1]; exact (List.getElem?_eq_some_iff.1 hx).1
          have:=E.out j x hj hx
          exact ⟨this.pre,this.dep,this.con,this.brk⟩
         ·rw [(pk_off h1).1]; exact ⟨rfl,rfl,rfl,rfl⟩
        rw [hb0] at cw
        clear hens hb0 L E
        go_wp2_with fail
        refine cw.mono ?_
        rintro e wa ⟨va,rfl,oa,ka⟩
        obtain ⟨aa,ra,rfl,_⟩:=Rl.own_shape oa
        have BA:=Lib.hid (B.out.trans (ka.mono B.out.size))
        have ca:=awake_any wa (HV.out.on BA.out)
        rw [show ([]:List Vi).length = 0 from rfl]
        clear cw oa ka O B
        go_wp2_with fail
        refine ca.mono ?_
        rintro e wb ⟨rfl,kb⟩
        have hb:=BA.out.trans (kb.mono BA.out.size)
        clear ca
        go_wp2_with fail
        go_ret
        exact ⟨rfl,hb⟩
     ·have hc:=ee_at O.out HX.out (j:=5) rfl
      have hf:=Rl.own_free O.out (p * 11 + 5)
      have os:=ee_set O.out HX.out (j:=5) (by omega) (u:=(.slice none 0 0)) (y:=no_con x) rfl
      have bs:=B.out.setCell (p:=⟨R,p * 11 + 5,none⟩) hR (.slice none 0 0)
      obtain ⟨WS,hWS⟩:∃ W',w6.setCell ⟨R,p * 11 + 5,none⟩ (.slice none 0 0) = W':=⟨_,rfl⟩
      rw [hWS] at os bs
      have OS:=Lib.hid os
      have BS:=Lib.hid bs
      have hu:=hWS
      clear os bs hWS O B
      have L2:Hid (AllR LeR (ds.set p (no_con x)) d):=Lib.hid (L.out.set HX.out fun y h=>no_con_le h)
      go_wp2_with fail
      clear hu hc hf L A
      obtain ⟨ds2,hds2⟩:∃ z,ds.set p (no_con x) = z:=⟨_,rfl⟩
      rw [hds2] at OS L2
      clear hds2 HX hq
      have O:=OS
      have B:=BS
      clear OS BS
      have hens:=LeR.ens L2.out HDI.out B.out O.out (by rw [L2.out.1,HDL.out]) hn0
      have cw:=wrong_any _ _ WS hens (LeR.lims L2.out HLD.out) (HV.out.on B.out) (LeR.few L2.out HFD.out)
      have hwi:within (Sa.wr (ds2.map Ee.en)) (Sa.wr s) = true:=by
       rw [within_iff]
       intro x hx
       have:=wr_less (LeR.part L2.out) x hx
       rwa [HD.out] at this
      have HWI:=Lib.hid hwi
      have HF2:=Lib.hid (LeR.few L2.out HFD.out)
      clear hens hwi
      refine cw.mono ?_
      rintro e w7 ⟨v7,rfl,o7,k7⟩
      have V7:=Lib.hid (vis_of HF2.out o7)
      have O7:=Lib.hid (Own.owns_below O.out k7)
      have B7:=Lib.hid (B.out.trans (k7.mono B.out.size))
      have cw2:=wrong_any _ s w7 (H.out.below B7.out) HL.out (HV.out.on B7.out) HF.out
      rw [HNN.out,HN.out] at cw2
      obtain ⟨a7,r7,rfl,_⟩:=Rl.own_shape o7
      obtain ⟨N2,hN2⟩:∃ N,(Sa.wr (ds2.map Ee.en)).length = N:=⟨_,rfl⟩
      rw [hN2] at V7
      rw [hN2]
      clear cw o7 k7 O B hN2
      go_wp2_with fail
      refine cw2.mono ?_
      rintro e w8 ⟨v8,rfl,o8,k8⟩
      have O8:=Lib.hid (Own.owns_below O7.out k8)
      have B8:=Lib.hid (B7.out.trans (k8.mono B7.out.size))
      have cs:=within_any _ _ _ _ w8 (V7.out.below k8) (vis_of HF.out (by rw [HNN.out]; exact o8))
      rw [HWI.out] at cs
      obtain ⟨a8,r8,rfl,_⟩:=Rl.own_shape o8
      clear cw2 o8 k8 O7 B7 V7 HWI HF2
      go_wp2_with fail
      refine cs.mono ?_
      rintro e w9 ⟨rfl,k9⟩
      have O:=Lib.hid (Own.owns_below O8.out k9)
      have B:=Lib.hid (B8.out.trans (k9.mono B8.out.size))
      clear cs k9 O8 B8
      go_wp2_with fail
      clear hp0 hpn'
      go_loopg [88] n (fun gf s88 wx=>∃ (k:Nat) (dz:List Ee),s88 = .int .i64 k ∧ Hid (wx.ownsRow w.heap.size 38 11 (.slice (some ⟨R,0,none⟩) n rc) n (dz.flatMap Ee.enc)) ∧ Hid (AllR LeR dz d) ∧ Hid (∀ j x,j < k → dz[j]? = some x → Bare x) ∧ Hid (Below w.heap.size w wx) ∧ k ≤ n ∧ n ≤ k + gf)
      case atStart=>exact ⟨0,ds2,rfl,O,L2,Lib.hid (fun j x hj=>absurd hj (by omega)),B,by omega,by omega⟩
      case round =>
       clear O B L2
       obtain ⟨k,dz,rfl,O,L,E,B,hkn,hfu⟩:=hrel
       by_cases hlt:k < n
       ·obtain ⟨g',rfl⟩:∃ g',gk = g' + 1:=⟨gk - 1,by omega⟩
        have hlt':(k:Int) < (n:Int):=by omega
        have hk0:(0:Int) ≤ k:=by omega
        obtain ⟨x,hx⟩:∃ x,dz[k]? = some x:=⟨dz[k]'(by rw [L.out.1,HDL.out]; exact hlt),List.getElem?_eq_getElem _⟩
        have f0:=fun o=>Rl.own_free O.out o
        have c3:=ee_at O.out hx (j:=3) rfl
        have c2:=ee_at O.out hx (j:=2) rfl
        have c5:=ee_at O.out hx (j:=5) rfl
        have c6:=ee_at O.out hx (j:=6) rfl
        have os1:=ee_set O.out hx (j:=3) (by omega) (u:=.slice none 0 0) (y:=no_dep x) rfl
        have l1:=L.out.set hx fun y h=>no_dep_le h
        have x1:(dz.set k (no_dep x))[k]? = some (no_dep x):=List.getElem?_set_self (List.getElem?_eq_some_iff.1 hx).1
        have os2:=ee_set os1 x1 (j:=2) (by omega) (u:=.slice none 0 0) (y:=no_pre (no_dep x)) rfl
        have l2:=l1.set x1 fun y h=>no_pre_le h
        rw [List.set_set] at os2 l2
        have x2:(dz.set k (no_pre (no_dep x)))[k]? = some (no_pre (no_dep x)):=List.getElem?_set_self (List.getElem?_eq_some_iff.1 hx).1
        have os3:=ee_set os2 x2 (j:=5) (by omega) (u:=.slice none 0 0) (y:=no_con (no_pre (no_dep x))) rfl
        have l3:=l2.set x2 fun y h=>no_con_le h
        rw [List.set_set] at os3 l3
        have x3:(dz.set k (no_con (no_pre (no_dep x))))[k]? = some (no_con (no_pre (no_dep x))):=List.getElem?_set_self (List.getElem?_eq_some_iff.1 hx).1
        have os4:=ee_set os3 x3 (j:=6) (by omega) (u:=.slice none 0 0) (y:=no_brk (no_con (no_pre (no_dep x)))) rfl
        have l4:=l3.set x3 fun y h=>no_brk_le h
        rw [List.set_set] at os4 l4
        have bs:=(((B.out.setCell (p:=⟨R,k * 11 + 3,none⟩) hR (.slice none 0 0)).setCell (p:=⟨R,k * 11 + 2,none⟩) hR (.slice none 0 0)).setCell (p:=⟨R,k * 11 + 5,none⟩) hR (.slice none 0 0)).setCell (p:=⟨R,k * 11 + 6,none⟩) hR (.slice none 0 0)
        have E2:Hid (∀ j y,j < k + 1 → (dz.set k (no_brk (no_con (no_pre (no_dep x)))))[j]? = some y → Bare y):=Lib.hid fun j y hj hy=>by
         by_cases e:j = k
         ·subst e
          rw [List.getElem?_set_self (List.getElem?_eq_some_iff.1 hx).1] at hy
          obtain rfl:=Option.some.inj hy
          exact ⟨rfl,rfl,rfl,rfl⟩
         ·rw [List.getElem?_set_ne (fun e2=>e e2.symm)] at hy
          exact E.out j y (by omega) hy
        have f1:=fun o=>Rl.own_free os1 o
        have f2:=fun o=>Rl.own_free os2 o
        have f3:=fun o=>Rl.own_free os3 o
        have q2:=ee_at os1 x1 (j:=2) rfl
        have q5:=ee_at os2 x2 (j:=5) rfl
        have q6:=ee_at os3 x3 (j:=6) rfl
        have OS:=Lib.hid os4
        have L4:=Lib.hid l4
        have BS:=Lib.hid bs
        have g3:=f0 (k * 11 + 3)
        have g2:=f1 (k * 11 + 2)
        have g5:=f2 (k * 11 + 5)
        have g6:=f3 (k * 11 + 6)
        clear hx O L E B os1 l1 x1 os2 l2 x2 os3 l3 x3 os4 l4 bs f0 f1 f2 f3
        go_wp2_with fail
        clear g3 g2 g5 g6 q2 q5 q6 c3 c2 c5 c6
        go_roundg g'
        case measure=>omega
        case rel=>exact ⟨k + 1,_,by go_num,OS,L4,E2,BS,by omega,by omega⟩
       ·obtain rfl:n = k:=by omega
        have hge:¬ (n:Int) < (n:Int):=by omega
        have hens:=LeR.ens L.out HDI.out B.out O.out (by rw [L.out.1,HDL.out]) hn0
        have cw:=wrong_any _ _ wr hens (LeR.lims L.out HLD.out) (HV.out.on B.out) (LeR.few L.out HFD.out)
        have hb0:Sa.wr (dz.map Ee.en) = []:=wr_bare fun j=>by
         rcases L.out.each j with ⟨x,y,hx,hy,_⟩ | ⟨h1,h2⟩
         ·rw [(pk_map hx).1]
          have hj:j < n:=by rw [← HDL.out,← L.out.1]; exact (List.getElem?_eq_some_iff.1 hx).1
          have:=E.out j x hj hx
          exact ⟨this.pre,this.dep,this.con,this.brk⟩
         ·rw [(pk_off h1).1]; exact ⟨rfl,rfl,rfl,rfl⟩
        rw [hb0] at cw
        clear hens hb0 L E
        go_wp2_with fail
        refine cw.mono ?_
        rintro e wa ⟨va,rfl,oa,ka⟩
        obtain ⟨aa,ra,rfl,_⟩:=Rl.own_shape oa
        have BA:=Lib.hid (B.out.trans (ka.mono B.out.size))
        have ca:=awake_any wa (HV.out.on BA.out)
        rw [show ([]:List Vi).length = 0 from rfl]
        clear cw oa ka O B
        go_wp2_with fail
        refine ca.mono ?_
        rintro e wb ⟨rfl,kb⟩
        have hb:=BA.out.trans (kb.mono BA.out.size)
        clear ca
        go_wp2_with fail
        go_ret
        exact ⟨rfl,hb⟩
     ·have hc:=ee_at O.out HX.out (j:=6) rfl
      have hf:=Rl.own_free O.out (p * 11 + 6)
      have os:=ee_set O.out HX.out (j:=6) (by omega) (u:=(.slice none 0 0)) (y:=no_brk x) rfl
      have bs:=B.out.setCell (p:=⟨R,p * 11 + 6,none⟩) hR (.slice none 0 0)
      obtain ⟨WS,hWS⟩:∃ W',w6.setCell ⟨R,p * 11 + 6,none⟩ (.slice none 0 0) = W':=⟨_,rfl⟩
      rw [hWS] at os bs
      have OS:=Lib.hid os
      have BS:=Lib.hid bs
      have hu:=hWS
      clear os bs hWS O B
      have L2:Hid (AllR LeR (ds.set p (no_brk x)) d):=Lib.hid (L.out.set HX.out fun y h=>no_brk_le h)
      go_wp2_with fail
      clear hu hc hf L A
      obtain ⟨ds2,hds2⟩:∃ z,ds.set p (no_brk x) = z:=⟨_,rfl⟩
      rw [hds2] at OS L2
      clear hds2 HX hq
      have O:=OS
      have B:=BS
      clear OS BS
      have hens:=LeR.ens L2.out HDI.out B.out O.out (by rw [L2.out.1,HDL.out]) hn0
      have cw:=wrong_any _ _ WS hens (LeR.lims L2.out HLD.out) (HV.out.on B.out) (LeR.few L2.out HFD.out)
      have hwi:within (Sa.wr (ds2.map Ee.en)) (Sa.wr s) = true:=by
       rw [within_iff]
       intro x hx
       have:=wr_less (LeR.part L2.out) x hx
       rwa [HD.out] at this
      have HWI:=Lib.hid hwi
      have HF2:=Lib.hid (LeR.few L2.out HFD.out)
      clear hens hwi
      refine cw.mono ?_
      rintro e w7 ⟨v7,rfl,o7,k7⟩
      have V7:=Lib.hid (vis_of HF2.out o7)
      have O7:=Lib.hid (Own.owns_below O.out k7)
      have B7:=Lib.hid (B.out.trans (k7.mono B.out.size))
      have cw2:=wrong_any _ s w7 (H.out.below B7.out) HL.out (HV.out.on B7.out) HF.out
      rw [HNN.out,HN.out] at cw2
      obtain ⟨a7,r7,rfl,_⟩:=Rl.own_shape o7
      obtain ⟨N2,hN2⟩:∃ N,(Sa.wr (ds2.map Ee.en)).length = N:=⟨_,rfl⟩
      rw [hN2] at V7
      rw [hN2]
      clear cw o7 k7 O B hN2
      go_wp2_with fail
      refine cw2.mono ?_
      rintro e w8 ⟨v8,rfl,o8,k8⟩
      have O8:=Lib.hid (Own.owns_below O7.out k8)
      have B8:=Lib.hid (B7.out.trans (k8.mono B7.out.size))
      have cs:=within_any _ _ _ _ w8 (V7.out.below k8) (vis_of HF.out (by rw [HNN.out]; exact o8))
      rw [HWI.out] at cs
      obtain ⟨a8,r8,rfl,_⟩:=Rl.own_shape o8
      clear cw2 o8 k8 O7 B7 V7 HWI HF2
      go_wp2_with fail
      refine cs.mono ?_
      rintro e w9 ⟨rfl,k9⟩
      have O:=Lib.hid (Own.owns_below O8.out k9)
      have B:=Lib.hid (B8.out.trans (k9.mono B8.out.size))
      clear cs k9 O8 B8
      go_wp2_with fail
      clear hp0 hpn'
      go_loopg [88] n (fun gf s88 wx=>∃ (k:Nat) (dz:List Ee),s88 = .int .i64 k ∧ Hid (wx.ownsRow w.heap.size 38 11 (.slice (some ⟨R,0,none⟩) n rc) n (dz.flatMap Ee.enc)) ∧ Hid (AllR LeR dz d) ∧ Hid (∀ j x,j < k → dz[j]? = some x → Bare x) ∧ Hid (Below w.heap.size w wx) ∧ k ≤ n ∧ n ≤ k + gf)
      case atStart=>exact ⟨0,ds2,rfl,O,L2,Lib.hid (fun j x hj=>absurd hj (by omega)),B,by omega,by omega⟩
      case round =>
       clear O B L2
       obtain ⟨k,dz,rfl,O,L,E,B,hkn,hfu⟩:=hrel
       by_cases hlt:k < n
       ·obtain ⟨g',rfl⟩:∃ g',gk = g' + 1:=⟨gk - 1,by omega⟩
        have hlt':(k:Int) < (n:Int):=by omega
        have hk0:(0:Int) ≤ k:=by omega
        obtain ⟨x,hx⟩:∃ x,dz[k]? = some x:=⟨dz[k]'(by rw [L.out.1,HDL.out]; exact hlt),List.getElem?_eq_getElem _⟩
        have f0:=fun o=>Rl.own_free O.out o
        have c3:=ee_at O.out hx (j:=3) rfl
        have c2:=ee_at O.out hx (j:=2) rfl
        have c5:=ee_at O.out hx (j:=5) rfl
        have c6:=ee_at O.out hx (j:=6) rfl
        have os1:=ee_set O.out hx (j:=3) (by omega) (u:=.slice none 0 0) (y:=no_dep x) rfl
        have l1:=L.out.set hx fun y h=>no_dep_le h
        have x1:(dz.set k (no_dep x))[k]? = some (no_dep x):=List.getElem?_set_self (List.getElem?_eq_some_iff.1 hx).1
        have os2:=ee_set os1 x1 (j:=2) (by omega) (u:=.slice none 0 0) (y:=no_pre (no_dep x)) rfl
        have l2:=l1.set x1 fun y h=>no_pre_le h
        rw [List.set_set] at os2 l2
        have x2:(dz.set k (no_pre (no_dep x)))[k]? = some (no_pre (no_dep x)):=List.getElem?_set_self (List.getElem?_eq_some_iff.1 hx).1
        have os3:=ee_set os2 x2 (j:=5) (by omega) (u:=.slice none 0 0) (y:=no_con (no_pre (no_dep x))) rfl
        have l3:=l2.set x2 fun y h=>no_con_le h
        rw [List.set_set] at os3 l3
        have x3:(dz.set k (no_con (no_pre (no_dep x))))[k]? = some (no_con (no_pre (no_dep x))):=List.getElem?_set_self (List.getElem?_eq_some_iff.1 hx).1
        have os4:=ee_set os3 x3 (j:=6) (by omega) (u:=.slice none 0 0) (y:=no_brk (no_con (no_pre (no_dep x)))) rfl
        have l4:=l3.set x3 fun y h=>no_brk_le h
        rw [List.set_set] at os4 l4
        have bs:=(((B.out.setCell (p:=⟨R,k * 11 + 3,none⟩) hR (.slice none 0 0)).setCell (p:=⟨R,k * 11 + 2,none⟩) hR (.slice none 0 0)).setCell (p:=⟨R,k * 11 + 5,none⟩) hR (.slice none 0 0)).setCell (p:=⟨R,k * 11 + 6,none⟩) hR (.slice none 0 0)
        have E2:Hid (∀ j y,j < k + 1 → (dz.set k (no_brk (no_con (no_pre (no_dep x)))))[j]? = some y → Bare y):=Lib.hid fun j y hj hy=>by
         by_cases e:j = k
         ·subst e
          rw [List.getElem?_set_self (List.getElem?_eq_some_iff.1 hx).1] at hy
          obtain rfl:=Option.some.inj hy
          exact ⟨rfl,rfl,rfl,rfl⟩
         ·rw [List.getElem?_set_ne (fun e2=>e e2.symm)] at hy
          exact E.out j y (by omega) hy
        have f1:=fun o=>Rl.own_free os1 o
        have f2:=fun o=>Rl.own_free os2 o
        have f3:=fun o=>Rl.own_free os3 o
        have q2:=ee_at os1 x1 (j:=2) rfl
        have q5:=ee_at os2 x2 (j:=5) rfl
        have q6:=ee_at os3 x3 (j:=6) rfl
        have OS:=Lib.hid os4
        have L4:=Lib.hid l4
        have BS:=Lib.hid bs
        have g3:=f0 (k * 11 + 3)
        have g2:=f1 (k * 11 + 2)
        have g5:=f2 (k * 11 + 5)
        have g6:=f3 (k * 11 + 6)
        clear hx O L E B os1 l1 x1 os2 l2 x2 os3 l3 x3 os4 l4 bs f0 f1 f2 f3
        go_wp2_with fail
        clear g3 g2 g5 g6 q2 q5 q6 c3 c2 c5 c6
        go_roundg g'
        case measure=>omega
        case rel=>exact ⟨k + 1,_,by go_num,OS,L4,E2,BS,by omega,by omega⟩
       ·obtain rfl:n = k:=by omega
        have hge:¬ (n:Int) < (n:Int):=by omega
        have hens:=LeR.ens L.out HDI.out B.out O.out (by rw [L.out.1,HDL.out]) hn0
        have cw:=wrong_any _ _ wr hens (LeR.lims L.out HLD.out) (HV.out.on B.out) (LeR.few L.out HFD.out)
        have hb0:Sa.wr (dz.map Ee.en) = []:=wr_bare fun j=>by
         rcases L.out.each j with ⟨x,y,hx,hy,_⟩ | ⟨h1,h2⟩
         ·rw [(pk_map hx).1]
          have hj:j < n:=by rw [← HDL.out,← L.out.1]; exact (List.getElem?_eq_some_iff.1 hx).1
          have:=E.out j x hj hx
          exact ⟨this.pre,this.dep,this.con,this.brk⟩
         ·rw [(pk_off h1).1]; exact ⟨rfl,rfl,rfl,rfl⟩
        rw [hb0] at cw
        clear hens hb0 L E
        go_wp2_with fail
        refine cw.mono ?_
        rintro e wa ⟨va,rfl,oa,ka⟩
        obtain ⟨aa,ra,rfl,_⟩:=Rl.own_shape oa
        have BA:=Lib.hid (B.out.trans (ka.mono B.out.size))
        have ca:=awake_any wa (HV.out.on BA.out)
        rw [show ([]:List Vi).length = 0 from rfl]
        clear cw oa ka O B
        go_wp2_with fail
        refine ca.mono ?_
        rintro e wb ⟨rfl,kb⟩
        have hb:=BA.out.trans (kb.mono BA.out.size)
        clear ca
        go_wp2_with fail
        go_ret
        exact ⟨rfl,hb⟩



end Sa
end Go.Proofs.YtgpcilepkmckeaaDoor

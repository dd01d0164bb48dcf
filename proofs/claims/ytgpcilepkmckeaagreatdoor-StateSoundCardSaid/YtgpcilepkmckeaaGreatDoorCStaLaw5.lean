/-
The law StateSound; the reference's FindPkg.
-/
import Derived.Test.YtgpcilepkmckeaaGreatDoorCRelTabs
import Derived.Test.YtgpcilepkmckeaaGreatDoorCLaidFrame
import Derived.Test.YtgpcilepkmckeaaGreatDoorCHeld
import Derived.OrdersHeld
import Derived.Deep.MidRow
namespace Go.Proofs.YtgpcilepkmckeaaGreatDoor
open Go.RowKit
set_option linter.unusedSimpArgs false
set_option linter.unusedVariables false
namespace Sa
open Ver (Bs li li_len S S_self S_size S_li)
open Rl (Vars Slc mem_getD)
open Rc (Pk nPk Pks PkV Has En Ens pk_read mayK append_big infoEn)
def FirstP (l:List Pk) (nm:Bs) (r:Int):Prop:=(∃ j:Nat,r = j ∧ j < l.length ∧ (l.getD j nPk).nm = nm ∧ ∀ t,t < j → (l.getD t nPk).nm ≠ nm) ∨ (r = -1 ∧ ∀ t,t < l.length → (l.getD t nPk).nm ≠ nm)
set_option maxRecDepth 100000 in
set_option maxHeartbeats 8000000 in
theorem yfindPkg_any (v:Value) (l:List Pk) (nm:Bs) (w:World) (h:Pks w v l) :
  Calls Tryz.prog 20 #[v,.string (S nm)] w fun e w'=>∃ r:Int,e = .returned (.int .i64 r) ∧ FirstP l nm r ∧ Below w.heap.size w w':=by
 obtain ⟨sa,cap,rfl⟩:=h.shape
 have hn0:=h.1
 obtain ⟨n,hn⟩:∃ n,l.length = n:=⟨_,rfl⟩
 have HN:=Lib.hid hn
 have H:=Lib.hid (show Pks w (.slice sa n cap) l by rw [← hn]; exact h)
 rw [hn] at hn0
 rw [hn]
 clear hn h
 go_enter Tryz.func20,Tryz.ntmps20
 go_wp2_with fail
 go_loopg [9] n (fun gf s9 wx=>∃ k:Nat,s9 = .int .i64 k ∧ Hid (Below w.heap.size w wx) ∧ Hid (∀ j,j < k → (l.getD j nPk).nm ≠ nm) ∧ k ≤ n ∧ n ≤ k + gf)
 case atStart=>exact ⟨0,rfl,Below.refl _ _,Lib.hid (fun j hj=>absurd hj (by omega)),by omega,by omega⟩
 case round =>
  obtain ⟨k,rfl,B,HE,hkn,hfu⟩:=hrel
  by_cases hlt:k < n
  ·obtain ⟨g',rfl⟩:∃ g',gk = g' + 1:=⟨gk - 1,by omega⟩
   have hlt':(k:Int) < (n:Int):=by omega
   have hk0:(0:Int) ≤ k:=by omega
   have hkl:k < l.length:=by rw [HN.out]; exact hlt
   obtain ⟨_,a',cap',e1,_,hcells⟩:=H.out.below B.out
   rw [HN.out] at e1
   simp only [Value.slice.injEq,true_and] at e1
   obtain ⟨rfl,rfl⟩:=e1
   obtain ⟨kb,off,esa,hcl2⟩:=hcells (by omega)
   obtain ⟨a1,n1,c1,a2,n2,c2,a3,n3,c3,a4,n4,c4,a5,n5,c5,a6,n6,c6,⟨x0,x1,x2,x3,x4,x5,x6,x7,x8⟩,hh⟩:=pk_read (hcl2 k hkl)
   rw [Nat.mul_comm 9 k] at x0 x1 x2 x3 x4 x5 x6 x7 x8
   obtain ⟨x,hx⟩:∃ x,l.getD k nPk = x:=⟨_,rfl⟩
   rw [hx] at x0 x1 x8
   have HX:=Lib.hid hx
   have HKL:=Lib.hid hkl
   have hq:((S x.nm).toList == (S nm).toList) = decide (x.nm = nm):=Rl.S_beq _ _
   have hb2:=(Below.refl wr.heap.size wr).alloc (Nat.le_refl _) (.cells #[.string (S x.nm),.string (S x.vs),.slice a1 n1 c1,.slice a2 n2 c2,.slice a3 n3 c3,.slice a4 n4 c4,.slice a5 n5 c5,.slice a6 n6 c6,.bool x.ess] 40)
   have i2:=Blk.Is.new wr 40 #[.string (S x.nm),.string (S x.vs),.slice a1 n1 c1,.slice a2 n2 c2,.slice a3 n3 c3,.slice a4 n4 c4,.slice a5 n5 c5,.slice a6 n6 c6,.bool x.ess]
   obtain ⟨bx,hbx⟩:∃ bx,wr.heap.size = bx:=⟨_,rfl⟩
   obtain ⟨V,hV⟩:∃ V,wr.alloc (.cells #[.string (S x.nm),.string (S x.vs),.slice a1 n1 c1,.slice a2 n2 c2,.slice a3 n3 c3,.slice a4 n4 c4,.slice a5 n5 c5,.slice a6 n6 c6,.bool x.ess] 40) = V:=⟨_,rfl⟩
   rw [hV] at hb2 i2
   rw [hbx] at i2
   have b2:=B.out.trans (hb2.mono B.out.size)
   have z0:=i2.at (i:=0) rfl
   have z1:=i2.at (i:=1) rfl
   have z2:=i2.at (i:=2) rfl
   have z3:=i2.at (i:=3) rfl
   have z4:=i2.at (i:=4) rfl
   have z5:=i2.at (i:=5) rfl
   have z6:=i2.at (i:=6) rfl
   have z7:=i2.at (i:=7) rfl
   have z8:=i2.at (i:=8) rfl
   have B2:=Lib.hid b2
   have hu:=hV
   subst esa
   clear hcells hcl2 hkl hx hb2 i2 b2 hV hh B
   by_cases he:x.nm = nm
   ·rw [decide_eq_true he] at hq
    have hF:FirstP l nm (k:Int):=.inl ⟨k,rfl,HKL.out,by rw [HX.out]; exact he,HE.out⟩
    have HF:=Lib.hid hF
    clear he hF HE HX
    go_wp2_with fail
    go_ret
    exact ⟨_,rfl,HF.out,B2.out⟩
   ·rw [decide_eq_false he] at hq
    have HE2:Hid (∀ j,j < k + 1 → (l.getD j nPk).nm ≠ nm):=Lib.hid fun j hj=>by
     by_cases e:j = k
     ·rw [e,HX.out]; exact he
     ·exact HE.out j (by omega)
    clear he HE HX
    go_wp2_with fail
    go_roundg g'
    case measure=>omega
    case rel=>exact ⟨k + 1,by go_num,B2,HE2,by omega,by omega⟩
  ·obtain rfl:n = k:=by omega
   have hge:¬ (n:Int) < (n:Int):=by omega
   have HF:Hid (FirstP l nm (-1)):=Lib.hid (.inr ⟨rfl,fun t ht=>HE.out t (by rw [← HN.out]; exact ht)⟩)
   clear HE
   go_wp2_with fail
   go_ret
   exact ⟨_,rfl,HF.out,B.out⟩
theorem not_rowE {w:World} {b:Nat} {T:TypeId} {cs:Array Value} (h:Blk.Is w b T cs) (hT:T ≠ 45) {B:Nat} {v:Value} {n:Nat} {xs:List Value} (ho:w.ownsRow B 45 11 v n xs):v.ownBlock ≠ some b:=fun e=>by
 obtain ⟨cs',h'⟩:=Rl.own_is ho e
 exact hT (h.inj h').1
theorem heaB_sound {l:List Pk} (h1:∀ i,i < l.length → mayK (l.getD i nPk) = 0 ∧ ∀ t,t < i → (l.getD t nPk).nm ≠ (l.getD i nPk).nm) {s:List En} (hs:AllC s l):heaB l = decide (Sa.wr s = []):=by
 have hw:Whol l:=⟨fun p hp=>by
  obtain ⟨i,hi,rfl⟩:=List.mem_iff_getElem.1 hp
  have:=(h1 i hi).1
  rwa [getD_of hi] at this,nodup_iff.2 fun i hi j hj=>(h1 i hi).2 j hj⟩
 rw [Bool.eq_iff_iff,heaB_iff,decide_eq_true_eq,hs.wr_nil]
 unfold Hea
 exact ⟨fun h=>h.2,fun h=>⟨hw,h⟩⟩
theorem heaB_bad {l:List Pk} {i:Nat} (hi:i < l.length) (h:mayK (l.getD i nPk) ≠ 0 ∨ ∃ t,t < i ∧ (l.getD t nPk).nm = (l.getD i nPk).nm):heaB l = false:=by
 refine heaB_no hi fun ho=>?_
 rcases h with h | ⟨t,ht,h⟩
 ·exact h ho.1
 ·exact (ho.2.1 t ht).1 h
set_option maxRecDepth 100000 in
set_option maxHeartbeats 16000000 in
theorem sound_walk (v0 v1:Value) (l:List Pk) (hs:List Bool) (w:World) (h:Pks w v0 l) (h2:Bls w v1 hs) (hL:∀ x ∈ l,x.Lim) (hv:Vars w) :
  Calls Tryz.prog 5 #[v0,v1] w fun e w'=>e = .returned (.bool true) ∧ Below w.heap.size w w':=by
 have cl:=light_any v0 l w h
 obtain ⟨sa,cap,rfl⟩:=h.shape
 obtain ⟨ha,hc,rfl⟩:=h2.shape
 have HV:=Lib.hid hv
 have HL:=Lib.hid hL
 have H2:=Lib.hid h2
 obtain ⟨n,hn⟩:∃ n,l.length = n:=⟨_,rfl⟩
 have HN:=Lib.hid hn
 have H:=Lib.hid (show Pks w (.slice sa n cap) l by rw [← hn]; exact h)
 obtain ⟨hn',hhn⟩:∃ q,hs.length = q:=⟨_,rfl⟩
 have HHN:=Lib.hid hhn
 rw [hn] at cl
 rw [hn,hhn]
 obtain ⟨b1,hb1⟩:∃ b,lightB l = b:=⟨_,rfl⟩
 rw [hb1] at cl
 have HB1:=Lib.hid hb1
 clear h h2 hL hv hn hhn hb1
 go_enter Tryz.func5,Tryz.ntmps5
 go_wp2_with fail
 refine cl.mono ?_
 rintro e w2 ⟨rfl,k2⟩
 have K2:=Lib.hid k2
 clear cl k2
 cases b1 with
 | false =>
  have ca:=awake_any w2 (HV.out.on K2.out)
  go_wp2_with fail
  refine ca.mono ?_
  rintro e w3 ⟨rfl,k3⟩
  have hb:=K2.out.trans (k3.mono K2.out.size)
  clear ca
  go_wp2_with fail
  go_ret
  exact ⟨rfl,hb⟩
 | true =>
  have hF:=light_fewP HB1.out
  have HF:=Lib.hid hF
  have h26:n ≤ 26:=by rw [← HN.out]; exact hF.len
  clear hF HB1
  go_wp2_with fail
  go_loopg [16] n (fun gf s16 wx=>∃ k:Nat,s16 = .int .i64 k ∧ Hid (Below w.heap.size w wx) ∧ Hid (∀ i,i < k → mayK (l.getD i nPk) = 0 ∧ ∀ t,t < i → (l.getD t nPk).nm ≠ (l.getD i nPk).nm) ∧ k ≤ n ∧ n ≤ k + gf)
  case atStart=>exact ⟨0,rfl,K2,Lib.hid (fun j hj=>absurd hj (by omega)),by omega,by omega⟩
  case round =>
   clear K2
   obtain ⟨k,rfl,B,HE,hkn,hfu⟩:=hrel
   by_cases hlt:k < n
   ·obtain ⟨g',rfl⟩:∃ g',gk = g' + 1:=⟨gk - 1,by omega⟩
    have hlt':(k:Int) < (n:Int):=by omega
    have hk0:(0:Int) ≤ k:=by omega
    have hkl:k < l.length:=by rw [HN.out]; exact hlt
    obtain ⟨_,a',cap',e1,_,hcells⟩:=H.out.below B.out
    rw [HN.out] at e1
    simp only [Value.slice.injEq,true_and] at e1
    obtain ⟨rfl,rfl⟩:=e1
    obtain ⟨kb,off,esa,hcl2⟩:=hcells (by omega)
    obtain ⟨a1,n1,c1,a2,n2,c2,a3,n3,c3,a4,n4,c4,a5,n5,c5,a6,n6,c6,⟨x0,x1,x2,x3,x4,x5,x6,x7,x8⟩,hh⟩:=pk_read (hcl2 k hkl)
    rw [Nat.mul_comm 9 k] at x0 x1 x2 x3 x4 x5 x6 x7 x8
    have hlim:=HL.out _ (mem_getD (z:=nPk) hkl)
    obtain ⟨x,hx⟩:∃ x,l.getD k nPk = x:=⟨_,rfl⟩
    rw [hx] at x0 x1 x8 hlim hh
    have HX:=Lib.hid hx
    have HKL:=Lib.hid hkl
    have hb2:=(Below.refl wr.heap.size wr).alloc (Nat.le_refl _) (.cells #[.string (S x.nm),.string (S x.vs),.slice a1 n1 c1,.slice a2 n2 c2,.slice a3 n3 c3,.slice a4 n4 c4,.slice a5 n5 c5,.slice a6 n6 c6,.bool x.ess] 40)
    have i2:=Blk.Is.new wr 40 #[.string (S x.nm),.string (S x.vs),.slice a1 n1 c1,.slice a2 n2 c2,.slice a3 n3 c3,.slice a4 n4 c4,.slice a5 n5 c5,.slice a6 n6 c6,.bool x.ess]
    obtain ⟨bx,hbx⟩:∃ bx,wr.heap.size = bx:=⟨_,rfl⟩
    obtain ⟨V,hV⟩:∃ V,wr.alloc (.cells #[.string (S x.nm),.string (S x.vs),.slice a1 n1 c1,.slice a2 n2 c2,.slice a3 n3 c3,.slice a4 n4 c4,.slice a5 n5 c5,.slice a6 n6 c6,.bool x.ess] 40) = V:=⟨_,rfl⟩
    rw [hV] at hb2 i2
    rw [hbx] at i2
    have b2:=B.out.trans (hb2.mono B.out.size)
    have z0:=i2.at (i:=0) rfl
    have z1:=i2.at (i:=1) rfl
    have z2:=i2.at (i:=2) rfl
    have z3:=i2.at (i:=3) rfl
    have z4:=i2.at (i:=4) rfl
    have z5:=i2.at (i:=5) rfl
    have z6:=i2.at (i:=6) rfl
    have z7:=i2.at (i:=7) rfl
    have z8:=i2.at (i:=8) rfl
    have cm:=Rc.ymay_any (.agg #[.string (S x.nm),.string (S x.vs),.slice a1 n1 c1,.slice a2 n2 c2,.slice a3 n3 c3,.slice a4 n4 c4,.slice a5 n5 c5,.slice a6 n6 c6,.bool x.ess]) x V ⟨_,_,_,_,_,_,rfl,hh.below hb2⟩ hlim
    have B2:=Lib.hid b2
    have I2:=Lib.hid i2
    have hu:=hV
    subst esa
    obtain ⟨mk,hmk⟩:∃ mk,mayK x = mk:=⟨_,rfl⟩
    rw [hmk] at cm
    have HMK:=Lib.hid hmk
    clear hcells hcl2 hkl hlim hx hb2 i2 b2 hV hh B hmk
    by_cases hm:mk = 0
    ·subst hm
     go_wp2_with fail
     refine cm.mono ?_
     rintro e w4 ⟨rfl,k4⟩
     have B4:=Lib.hid (B2.out.trans (k4.mono B2.out.size))
     have q0:=(Rl.is_on I2.out k4).at (i:=0) rfl
     have cf:=yfindPkg_any _ l x.nm w4 (H.out.below B4.out)
     clear cm k4 hu x0 x1 x2 x3 x4 x5 x6 x7 x8 z0 z1 z2 z3 z4 z5 z6 z7 z8
     go_wp2_with fail
     refine cf.mono ?_
     rintro e w5 ⟨r,rfl,hr,k5⟩
     have B5:=Lib.hid (B4.out.trans (k5.mono B4.out.size))
     clear cf k5 q0
     by_cases hrk:r = (k:Int)
     ·have hne:(r != (k:Int)) = false:=by simp [hrk]
      have HE2:Hid (∀ i,i < k + 1 → mayK (l.getD i nPk) = 0 ∧ ∀ t,t < i → (l.getD t nPk).nm ≠ (l.getD i nPk).nm):=Lib.hid fun i hi=>by
       by_cases e:i = k
       ·subst e
        refine ⟨by rw [HX.out]; exact HMK.out,?_⟩
        rw [HX.out]
        rcases hr with ⟨j,hj,_,_,ht⟩ | ⟨h1,_⟩
        ·obtain rfl:j = i:=by omega
         exact ht
        ·omega
       ·exact HE.out i (by omega)
      clear HE hr hrk
      go_wp2_with fail
      go_roundg g'
      case measure=>omega
      case rel=>exact ⟨k + 1,by go_num,B5,HE2,by omega,by omega⟩
     ·have hne:(r != (k:Int)) = true:=by simp [hrk]
      have HBAD:Hid (heaB l = false):=Lib.hid (by
       refine heaB_bad HKL.out (.inr ?_)
       rw [HX.out]
       rcases hr with ⟨j,hj,_,hnm,ht⟩ | ⟨_,h2⟩
       ·by_cases hjk:j < k
        ·exact ⟨j,hjk,hnm⟩
        ·have:k < j:=by omega
         exact absurd (by rw [HX.out]) (ht k this)
       ·exact absurd (by rw [HX.out]) (h2 k HKL.out))
      clear hr hrk HE
      have BQ:=B5
      have ch:=healthy_any _ l w5 (H.out.below BQ.out) HL.out HF.out (HV.out.on BQ.out)
      rw [HBAD.out] at ch
      go_wp2_with fail
      refine ch.mono ?_
      rintro e w6 ⟨rfl,k6⟩
      have B6:=Lib.hid (BQ.out.trans (k6.mono BQ.out.size))
      have ca:=awake_any w6 (HV.out.on B6.out)
      clear ch k6
      go_wp2_with fail
      refine ca.mono ?_
      rintro e w7 ⟨rfl,k7⟩
      have hb:=B6.out.trans (k7.mono B6.out.size)
      clear ca
      go_wp2_with fail
      go_ret
      exact ⟨rfl,hb⟩
    ·have hmn:(mk != 0) = true:=by simp [hm]
     have HBAD:Hid (heaB l = false):=Lib.hid (heaB_bad HKL.out (.inl (by rw [HX.out,HMK.out]; exact hm)))
     clear hm HE
     go_wp2_with fail
     refine cm.mono ?_
     rintro e w5 ⟨rfl,k5⟩
     have BQ:=Lib.hid (B2.out.trans (k5.mono B2.out.size))
     clear cm k5 hu x0 x1 x2 x3 x4 x5 x6 x7 x8 z0 z1 z2 z3 z4 z5 z6 z7 z8 HMK
     have ch:=healthy_any _ l w5 (H.out.below BQ.out) HL.out HF.out (HV.out.on BQ.out)
     rw [HBAD.out] at ch
     go_wp2_with fail
     refine ch.mono ?_
     rintro e w6 ⟨rfl,k6⟩
     have B6:=Lib.hid (BQ.out.trans (k6.mono BQ.out.size))
     have ca:=awake_any w6 (HV.out.on B6.out)
     clear ch k6
     go_wp2_with fail
     refine ca.mono ?_
     rintro e w7 ⟨rfl,k7⟩
     have hb:=B6.out.trans (k7.mono B6.out.size)
     clear ca
     go_wp2_with fail
     go_ret
     exact ⟨rfl,hb⟩
   ·obtain rfl:n = k:=by omega
    have hge:¬ (n:Int) < (n:Int):=by omega
    clear hkn hfu hlt
    have HEE:=HE
    have BB:=B
    go_wp2_with fail
    clear hge B HE
    go_loopg [7,41] n (fun gf s7 s41 wx=>∃ (k:Nat) (na:Option Addr) (nc:Nat) (ds:List Ee),s7 = .slice na k nc ∧ s41 = .int .i64 k ∧ Hid (wx.ownsRow w.heap.size 45 11 (.slice na k nc) k (ds.flatMap Ee.enc)) ∧ Hid (ds.length = k ∧ (ds.map Ee.en).map En.pk = l.take k ∧ ∀ x ∈ ds,x.en.cfg = true ∧ x.Is w) ∧ Hid (Below w.heap.size w wx) ∧ k ≤ n ∧ n ≤ k + gf)
    case atStart=>exact ⟨0,none,0,[],rfl,rfl,Lib.hid (World.ownsRow_nil _ _ _ _),Lib.hid ⟨rfl,rfl,fun x hx=>by cases hx⟩,BB,by omega,by omega⟩
    case round =>
     clear BB
     obtain ⟨k,na,nc,ds,rfl,rfl,O,HD,B,hkn,hfu⟩:=hrel
     by_cases hlt:k < n
     ·obtain ⟨g',rfl⟩:∃ g',gk = g' + 1:=⟨gk - 1,by omega⟩
      have hlt':(k:Int) < (n:Int):=by omega
      have hk0:(0:Int) ≤ k:=by omega
      have hkl:k < l.length:=by rw [HN.out]; exact hlt
      obtain ⟨_,a',cap',e1,_,hcells⟩:=H.out
      rw [HN.out] at e1
      simp only [Value.slice.injEq,true_and] at e1
      obtain ⟨rfl,rfl⟩:=e1
      obtain ⟨kb,off,esa,hcl2⟩:=hcells (by omega)
      obtain ⟨a1,n1,c1,a2,n2,c2,a3,n3,c3,a4,n4,c4,a5,n5,c5,a6,n6,c6,⟨x0,x1,x2,x3,x4,x5,x6,x7,x8⟩,hh⟩:=pk_read (hcl2 k hkl)
      rw [Nat.mul_comm 9 k] at x0 x1 x2 x3 x4 x5 x6 x7 x8
      replace x0:=Rl.cell_on x0 B.out
      replace x1:=Rl.cell_on x1 B.out
      replace x2:=Rl.cell_on x2 B.out
      replace x3:=Rl.cell_on x3 B.out
      replace x4:=Rl.cell_on x4 B.out
      replace x5:=Rl.cell_on x5 B.out
      replace x6:=Rl.cell_on x6 B.out
      replace x7:=Rl.cell_on x7 B.out
      replace x8:=Rl.cell_on x8 B.out
      have htk:=take_snoc (z:=nPk) hkl
      obtain ⟨x,hx⟩:∃ x,l.getD k nPk = x:=⟨_,rfl⟩
      rw [hx] at x0 x1 x8 hh htk
      have HTK:=Lib.hid htk
      have HH:=Lib.hid hh
      have hb2:=(Below.refl wr.heap.size wr).alloc (Nat.le_refl _) (.cells #[.string (S x.nm),.string (S x.vs),.slice a1 n1 c1,.slice a2 n2 c2,.slice a3 n3 c3,.slice a4 n4 c4,.slice a5 n5 c5,.slice a6 n6 c6,.bool x.ess] 40)
      have i2:=Blk.Is.new wr 40 #[.string (S x.nm),.string (S x.vs),.slice a1 n1 c1,.slice a2 n2 c2,.slice a3 n3 c3,.slice a4 n4 c4,.slice a5 n5 c5,.slice a6 n6 c6,.bool x.ess]
      obtain ⟨bx,hbx⟩:∃ bx,wr.heap.size = bx:=⟨_,rfl⟩
      obtain ⟨V,hV⟩:∃ V,wr.alloc (.cells #[.string (S x.nm),.string (S x.vs),.slice a1 n1 c1,.slice a2 n2 c2,.slice a3 n3 c3,.slice a4 n4 c4,.slice a5 n5 c5,.slice a6 n6 c6,.bool x.ess] 40) = V:=⟨_,rfl⟩
      rw [hV] at hb2 i2
      rw [hbx] at i2
      have b2:=B.out.trans (hb2.mono B.out.size)
      have z0:=i2.at (i:=0) rfl
      have z1:=i2.at (i:=1) rfl
      have z2:=i2.at (i:=2) rfl
      have z3:=i2.at (i:=3) rfl
      have z4:=i2.at (i:=4) rfl
      have z5:=i2.at (i:=5) rfl
      have z6:=i2.at (i:=6) rfl
      have z7:=i2.at (i:=7) rfl
      have z8:=i2.at (i:=8) rfl
      have O2:=Lib.hid (Own.owns_below O.out hb2)
      have B2:=Lib.hid b2
      have I2:=Lib.hid i2
      have hu:=hV
      subst esa
      clear hcells hcl2 hkl htk hx hb2 i2 b2 hV hh O B
      by_cases hkh:k < hn'
      ·obtain ⟨_,q',cq',e1,_,hbc⟩:=H2.out
       rw [HHN.out] at e1
       simp only [Value.slice.injEq,true_and] at e1
       obtain ⟨rfl,rfl⟩:=e1
       obtain ⟨hk,ho,ehk,hbat⟩:=hbc (by rw [HHN.out]; omega)
       have hcell:w.cell? ⟨hk,ho + 1 * k,none⟩ = _:=hbat k (by rw [HHN.out]; exact hkh)
       rw [Nat.one_mul] at hcell
       obtain ⟨hb,hhb⟩:∃ hb,hs.getD k false = hb:=⟨_,rfl⟩
       rw [hhb] at hcell
       subst ehk
       have CH:Hid (∀ u,(Below w.heap.size w u ∧ Blk.Is u bx 40 #[.string (S x.nm),.string (S x.vs),.slice a1 n1 c1,.slice a2 n2 c2,.slice a3 n3 c3,.slice a4 n4 c4,.slice a5 n5 c5,.slice a6 n6 c6,.bool x.ess]) → u.cell? ⟨hk,ho + k,none⟩ = some (.bool hb)):=Lib.hid fun u hu=>Rl.cell_on hcell hu.1
       have hkh':(k:Int) < (hn':Int):=by omega
       clear hbc hbat hcell hhb
       go_upto_region 13 with fail
       refine wp_region_held (S:=fun u=>Below w.heap.size w u ∧ Blk.Is u bx 40 #[.string (S x.nm),.string (S x.vs),.slice a1 n1 c1,.slice a2 n2 c2,.slice a3 n3 c3,.slice a4 n4 c4,.slice a5 n5 c5,.slice a6 n6 c6,.bool x.ess]) (by kernel_rfl) ?_
       have hS0:Below w.heap.size w V.drew ∧ Blk.Is V.drew bx 40 #[.string (S x.nm),.string (S x.vs),.slice a1 n1 c1,.slice a2 n2 c2,.slice a3 n3 c3,.slice a4 n4 c4,.slice a5 n5 c5,.slice a6 n6 c6,.bool x.ess]:=⟨B2.out.drew,I2.out.drew⟩
       have O0:=Lib.hid (Own.owns_below O2.out (Below.refl V.heap.size V).drew)
       have KX:Hid (∀ u,(Below w.heap.size w u ∧ Blk.Is u bx 40 #[.string (S x.nm),.string (S x.vs),.slice a1 n1 c1,.slice a2 n2 c2,.slice a3 n3 c3,.slice a4 n4 c4,.slice a5 n5 c5,.slice a6 n6 c6,.bool x.ess]) → u.rangeAt bx 0 [.string (S x.nm),.string (S x.vs),.slice a1 n1 c1,.slice a2 n2 c2,.slice a3 n3 c3,.slice a4 n4 c4,.slice a5 n5 c5,.slice a6 n6 c6,.bool x.ess]):=Lib.hid fun u hu j v hj=>by
        rw [Nat.zero_add]
        exact hu.2.at (by rw [← Array.getElem?_toList]; exact hj)
       have Z9:Hid ((Tryz.prog.info? 40).map (·.size) = some 9):=Lib.hid (by kernel_rfl)
       change wpAnyH _ _ _ _ _ 16 _ _ V.drew
       generalize V.drew = u0 at *
       refine wpAnyH_take (i:=0) (v:=.slice na k nc) rfl (by kernel_rfl) (by kernel_rfl) (by kernel_rfl) (fun _ _ _ h=>h) (.inl ⟨rfl,fun w _=>rfl⟩) hS0 ?_
       simp only [Act.put,List.getElem_toArray,List.getElem_cons_zero,List.getElem_cons_succ,List.setIfInBounds_toArray,List.set_cons_zero,List.set_cons_succ]
       refine wpAnyH_take (i:=1) (v:=.agg #[.string (S x.nm),.string (S x.vs),.slice a1 n1 c1,.slice a2 n2 c2,.slice a3 n3 c3,.slice a4 n4 c4,.slice a5 n5 c5,.slice a6 n6 c6,.bool x.ess]) rfl (by kernel_rfl) (by kernel_rfl) (by kernel_rfl) (fun _ _ _ h=>h) (yieldsIf_load_mid rfl 40 (.tmp 9) rfl bx 0 rfl _ _ KX.out Tryz.underlying40 rfl Z9.out) hS0 ?_
       simp only [Act.put,List.getElem_toArray,List.getElem_cons_zero,List.getElem_cons_succ,List.setIfInBounds_toArray,List.set_cons_zero,List.set_cons_succ]
       refine wpAnyH_take (i:=2) (v:=.int .i64 (k:Int)) rfl (by kernel_rfl) (by kernel_rfl) (by kernel_rfl) (fun _ _ _ h=>h) (.inl ⟨rfl,fun w _=>rfl⟩) hS0 ?_
       simp only [Act.put,List.getElem_toArray,List.getElem_cons_zero,List.getElem_cons_succ,List.setIfInBounds_toArray,List.set_cons_zero,List.set_cons_succ]
       refine wpAnyH_take (i:=3) (v:=.slice (some ⟨hk,ho,none⟩) hn' hc) rfl (by kernel_rfl) (by kernel_rfl) (by kernel_rfl) (fun _ _ _ h=>h) (.inl ⟨rfl,fun w _=>rfl⟩) hS0 ?_
       simp only [Act.put,List.getElem_toArray,List.getElem_cons_zero,List.getElem_cons_succ,List.setIfInBounds_toArray,List.set_cons_zero,List.set_cons_succ]
       refine wpAnyH_all (rs:=[4]) (by kernel_rfl) (by simp) ?_
       intro i hi
       obtain rfl:=List.mem_singleton.1 hi
       refine Reg.wpOp_list rfl ?_
       go_wp2_with fail
       change _ ∧ _
       refine ⟨hS0,?_⟩
       refine wpAnyH_take (i:=5) (v:=.bool true) rfl (by kernel_rfl) (by kernel_rfl) (by kernel_rfl) (fun _ _ _ h=>h) (.inl ⟨rfl,fun w _=>by simp [execOp,go_sem,hkh'] <;> omega⟩) hS0 ?_
       simp only [Act.put,List.getElem_toArray,List.getElem_cons_zero,List.getElem_cons_succ,List.setIfInBounds_toArray,List.set_cons_zero,List.set_cons_succ]
       refine wpAnyH_take (i:=6) (v:=.bool true) rfl (by kernel_rfl) (by kernel_rfl) (by kernel_rfl) (fun _ _ _ h=>h) (.inl ⟨rfl,fun w _=>rfl⟩) hS0 ?_
       simp only [Act.put,List.getElem_toArray,List.getElem_cons_zero,List.getElem_cons_succ,List.setIfInBounds_toArray,List.set_cons_zero,List.set_cons_succ]
       refine wpAnyH_take (i:=7) (v:=.slice (some ⟨hk,ho,none⟩) hn' hc) rfl (by kernel_rfl) (by kernel_rfl) (by kernel_rfl) (fun _ _ _ h=>h) (.inl ⟨rfl,fun w _=>rfl⟩) hS0 ?_
       simp only [Act.put,List.getElem_toArray,List.getElem_cons_zero,List.getElem_cons_succ,List.setIfInBounds_toArray,List.set_cons_zero,List.set_cons_succ]
       refine wpAnyH_take (i:=8) (v:=.int .i64 (k:Int)) rfl (by kernel_rfl) (by kernel_rfl) (by kernel_rfl) (fun _ _ _ h=>h) (.inl ⟨rfl,fun w _=>rfl⟩) hS0 ?_
       simp only [Act.put,List.getElem_toArray,List.getElem_cons_zero,List.getElem_cons_succ,List.setIfInBounds_toArray,List.set_cons_zero,List.set_cons_succ]
       refine wpAnyH_take (i:=9) (v:=.pointer (some ⟨hk,ho + k,none⟩)) rfl (by kernel_rfl) (by kernel_rfl) (by kernel_rfl) (fun _ _ _ h=>h) (.inl ⟨rfl,fun w _=>by simp [execOp,go_sem,Addr.add,hk0,hkh] <;> first | omega | (intro h; omega) | (intro h; simp [h])⟩) hS0 ?_
       simp only [Act.put,List.getElem_toArray,List.getElem_cons_zero,List.getElem_cons_succ,List.setIfInBounds_toArray,List.set_cons_zero,List.set_cons_succ]
       refine wpAnyH_take (i:=10) (v:=.bool hb) rfl (by kernel_rfl) (by kernel_rfl) (by kernel_rfl) (fun _ _ _ h=>h) (Held.load1 rfl 4 (.tmp 55) rfl hk (ho + k) rfl _ _ CH.out Tryz.underlying4 rfl) hS0 ?_
       simp only [Act.put,List.getElem_toArray,List.getElem_cons_zero,List.getElem_cons_succ,List.setIfInBounds_toArray,List.set_cons_zero,List.set_cons_succ]
       refine wpAnyH_take (i:=11) (v:=.bool hb) rfl (by kernel_rfl) (by kernel_rfl) (by kernel_rfl) (fun _ _ _ h=>h) (.inl ⟨rfl,fun w _=>by rfl⟩) hS0 ?_
       simp only [Act.put,List.getElem_toArray,List.getElem_cons_zero,List.getElem_cons_succ,List.setIfInBounds_toArray,List.set_cons_zero,List.set_cons_succ]
       refine wpAnyH_take (i:=12) (v:=.agg #[.string (S x.nm),.string (S x.vs),.slice a1 n1 c1,.slice a2 n2 c2,.slice a3 n3 c3,.slice a4 n4 c4,.slice a5 n5 c5,.slice a6 n6 c6,.bool x.ess,.bool true,.bool hb]) rfl (by kernel_rfl) (by kernel_rfl) (by kernel_rfl) (fun _ _ _ h=>h) (.inl ⟨rfl,fun w _=>by kernel_rfl⟩) hS0 ?_
       simp only [Act.put,List.getElem_toArray,List.getElem_cons_zero,List.getElem_cons_succ,List.setIfInBounds_toArray,List.set_cons_zero,List.set_cons_succ]
       refine wpAnyH_all (rs:=[13]) (by kernel_rfl) (by simp) ?_
       intro i hi
       obtain rfl:=List.mem_singleton.1 hi
       refine Reg.wpOp_list rfl ?_
       go_wp2_with fail
       change _ ∧ _
       have hb1:=(Below.refl u0.heap.size u0).alloc (Nat.le_refl _) (.cells #[.string (S x.nm),.string (S x.vs),.slice a1 n1 c1,.slice a2 n2 c2,.slice a3 n3 c3,.slice a4 n4 c4,.slice a5 n5 c5,.slice a6 n6 c6,.bool x.ess,.bool true,.bool hb] 45)
       have i1:=Blk.Is.new u0 45 #[.string (S x.nm),.string (S x.vs),.slice a1 n1 c1,.slice a2 n2 c2,.slice a3 n3 c3,.slice a4 n4 c4,.slice a5 n5 c5,.slice a6 n6 c6,.bool x.ess,.bool true,.bool hb]
       have hS1:Below w.heap.size w (u0.alloc (.cells #[.string (S x.nm),.string (S x.vs),.slice a1 n1 c1,.slice a2 n2 c2,.slice a3 n3 c3,.slice a4 n4 c4,.slice a5 n5 c5,.slice a6 n6 c6,.bool x.ess,.bool true,.bool hb] 45)) ∧ Blk.Is (u0.alloc (.cells #[.string (S x.nm),.string (S x.vs),.slice a1 n1 c1,.slice a2 n2 c2,.slice a3 n3 c3,.slice a4 n4 c4,.slice a5 n5 c5,.slice a6 n6 c6,.bool x.ess,.bool true,.bool hb] 45)) bx 40 #[.string (S x.nm),.string (S x.vs),.slice a1 n1 c1,.slice a2 n2 c2,.slice a3 n3 c3,.slice a4 n4 c4,.slice a5 n5 c5,.slice a6 n6 c6,.bool x.ess]:=⟨hS0.1.trans (hb1.mono hS0.1.size),hS0.2.alloc _⟩
       have O1:=Lib.hid (Own.owns_below O0.out hb1)
       have HI1:=Lib.hid i1
       obtain ⟨b6,hb6⟩:∃ b6,u0.heap.size = b6:=⟨_,rfl⟩
       refine ⟨hS1,?_⟩
       obtain ⟨u1,hu1⟩:∃ u1,u0.alloc (.cells #[.string (S x.nm),.string (S x.vs),.slice a1 n1 c1,.slice a2 n2 c2,.slice a3 n3 c3,.slice a4 n4 c4,.slice a5 n5 c5,.slice a6 n6 c6,.bool x.ess,.bool true,.bool hb] 45) = u1:=⟨_,rfl⟩
       rw [hu1] at hS1 O1 HI1 ⊢
       rw [hb6] at HI1 ⊢
       clear hb1 i1 hu1 hb6
       refine wpAnyH_all (rs:=[14]) (by kernel_rfl) (by simp) ?_
       intro i0 hi0
       obtain rfl:=List.mem_singleton.1 hi0
       have hz:=hS1.1.size
       refine Reg.wpOp_list rfl ?_
       (refine append_big Tryz.underlying26 infoEn rfl rfl (.tmp 46) (.tmp 59) rfl w.heap.size (.slice na k nc) k rfl ⟨_,O1.out⟩ b6 1 rfl [.string (S x.nm),.string (S x.vs),.slice a1 n1 c1,.slice a2 n2 c2,.slice a3 n3 c3,.slice a4 n4 c4,.slice a5 n5 c5,.slice a6 n6 c6,.bool x.ess,.bool true,.bool hb] rfl (fun j u hj=>HI1.out.at (by rw [← Array.getElem?_toList]; exact hj)) (fun u hu=>by simp only [List.mem_cons,List.not_mem_nil,or_false] at hu; rcases hu with rfl | rfl | rfl | rfl | rfl | rfl | rfl | rfl | rfl | rfl | rfl <;> rfl) (by omega) (by omega) hz ?_; intro v' u2 h7 g7 _; have h7:=h7 _ O1.out)
       go_wp2_with fail
       change _ ∧ _
       have c7:=Blk.Chg.grown (S:=fun q=>Value.ownBlock (.slice na k nc) = some q) (Blk.Chg.refl _ u1) g7 (fun q hq _=>hq)
       have i7:=c7.is hS1.2 (not_rowE hS1.2 (by decide) O1.out)
       have hS2:Below w.heap.size w u2 ∧ Blk.Is u2 bx 40 #[.string (S x.nm),.string (S x.vs),.slice a1 n1 c1,.slice a2 n2 c2,.slice a3 n3 c3,.slice a4 n4 c4,.slice a5 n5 c5,.slice a6 n6 c6,.bool x.ess]:=⟨Own.below_grown hS1.1 O1.out g7 hz,i7⟩
       refine ⟨hS2,?_⟩
       obtain ⟨a7,r7,rfl,_⟩:=Rl.own_shape h7
       have O7:=Lib.hid h7
       clear h7 g7 c7 i7 hz O1 HI1
       refine wpAnyH_all (rs:=[15]) (by kernel_rfl) (by simp) ?_
       intro i hi
       obtain rfl:=List.mem_singleton.1 hi
       refine Reg.wpOp_list rfl ?_
       go_wp2_with fail
       change _ ∧ _
       refine ⟨hS2,?_⟩
       refine wpAnyH_done (by kernel_rfl) ?_ _
       have B7:=Lib.hid hS2.1
       clear hS0 hS1 hS2
       go_wp2_with fail
       go_roundg g'
       case measure=>omega
       case rel =>
        refine ⟨k + 1,a7,r7,ds ++ [eeOf x a1 n1 c1 a2 n2 c2 a3 n3 c3 a4 n4 c4 a5 n5 c5 a6 n6 c6 true hb],rfl,by go_num,Lib.hid ?_,Lib.hid ⟨by rw [List.length_append,HD.out.1]; rfl,?_,?_⟩,B7,by omega,by omega⟩
        ·rw [List.flatMap_append]
         exact O7.out
        ·rw [List.map_append,List.map_append,HD.out.2.1,HTK.out]; rfl
        ·intro y hy
         rcases List.mem_append.1 hy with hy | hy
         ·exact HD.out.2.2 y hy
         ·rw [List.mem_singleton.1 hy]
          exact ⟨rfl,HH.out⟩
      ·have hkh':¬ (k:Int) < (hn':Int):=by omega
       go_upto_region 13 with fail
       refine wp_region_held (S:=fun u=>Below w.heap.size w u ∧ Blk.Is u bx 40 #[.string (S x.nm),.string (S x.vs),.slice a1 n1 c1,.slice a2 n2 c2,.slice a3 n3 c3,.slice a4 n4 c4,.slice a5 n5 c5,.slice a6 n6 c6,.bool x.ess]) (by kernel_rfl) ?_
       have hS0:Below w.heap.size w V.drew ∧ Blk.Is V.drew bx 40 #[.string (S x.nm),.string (S x.vs),.slice a1 n1 c1,.slice a2 n2 c2,.slice a3 n3 c3,.slice a4 n4 c4,.slice a5 n5 c5,.slice a6 n6 c6,.bool x.ess]:=⟨B2.out.drew,I2.out.drew⟩
       have O0:=Lib.hid (Own.owns_below O2.out (Below.refl V.heap.size V).drew)
       have KX:Hid (∀ u,(Below w.heap.size w u ∧ Blk.Is u bx 40 #[.string (S x.nm),.string (S x.vs),.slice a1 n1 c1,.slice a2 n2 c2,.slice a3 n3 c3,.slice a4 n4 c4,.slice a5 n5 c5,.slice a6 n6 c6,.bool x.ess]) → u.rangeAt bx 0 [.string (S x.nm),.string (S x.vs),.slice a1 n1 c1,.slice a2 n2 c2,.slice a3 n3 c3,.slice a4 n4 c4,.slice a5 n5 c5,.slice a6 n6 c6,.bool x.ess]):=Lib.hid fun u hu j v hj=>by
        rw [Nat.zero_add]
        exact hu.2.at (by rw [← Array.getElem?_toList]; exact hj)
       have Z9:Hid ((Tryz.prog.info? 40).map (·.size) = some 9):=Lib.hid (by kernel_rfl)
       change wpAnyH _ _ _ _ _ 16 _ _ V.drew
       generalize V.drew = u0 at *
       refine wpAnyH_take (i:=0) (v:=.slice na k nc) rfl (by kernel_rfl) (by kernel_rfl) (by kernel_rfl) (fun _ _ _ h=>h) (.inl ⟨rfl,fun w _=>rfl⟩) hS0 ?_
       simp only [Act.put,List.getElem_toArray,List.getElem_cons_zero,List.getElem_cons_succ,List.setIfInBounds_toArray,List.set_cons_zero,List.set_cons_succ]
       refine wpAnyH_take (i:=1) (v:=.agg #[.string (S x.nm),.string (S x.vs),.slice a1 n1 c1,.slice a2 n2 c2,.slice a3 n3 c3,.slice a4 n4 c4,.slice a5 n5 c5,.slice a6 n6 c6,.bool x.ess]) rfl (by kernel_rfl) (by kernel_rfl) (by kernel_rfl) (fun _ _ _ h=>h) (yieldsIf_load_mid rfl 40 (.tmp 9) rfl bx 0 rfl _ _ KX.out Tryz.underlying40 rfl Z9.out) hS0 ?_
       simp only [Act.put,List.getElem_toArray,List.getElem_cons_zero,List.getElem_cons_succ,List.setIfInBounds_toArray,List.set_cons_zero,List.set_cons_succ]
       refine wpAnyH_take (i:=2) (v:=.int .i64 (k:Int)) rfl (by kernel_rfl) (by kernel_rfl) (by kernel_rfl) (fun _ _ _ h=>h) (.inl ⟨rfl,fun w _=>rfl⟩) hS0 ?_
       simp only [Act.put,List.getElem_toArray,List.getElem_cons_zero,List.getElem_cons_succ,List.setIfInBounds_toArray,List.set_cons_zero,List.set_cons_succ]
       refine wpAnyH_take (i:=3) (v:=.slice ha hn' hc) rfl (by kernel_rfl) (by kernel_rfl) (by kernel_rfl) (fun _ _ _ h=>h) (.inl ⟨rfl,fun w _=>rfl⟩) hS0 ?_
       simp only [Act.put,List.getElem_toArray,List.getElem_cons_zero,List.getElem_cons_succ,List.setIfInBounds_toArray,List.set_cons_zero,List.set_cons_succ]
       refine wpAnyH_all (rs:=[4]) (by kernel_rfl) (by simp) ?_
       intro i hi
       obtain rfl:=List.mem_singleton.1 hi
       refine Reg.wpOp_list rfl ?_
       go_wp2_with fail
       change _ ∧ _
       refine ⟨hS0,?_⟩
       refine wpAnyH_take (i:=5) (v:=.bool false) rfl (by kernel_rfl) (by kernel_rfl) (by kernel_rfl) (fun _ _ _ h=>h) (.inl ⟨rfl,fun w _=>by simp [execOp,go_sem,hkh'] <;> omega⟩) hS0 ?_
       simp only [Act.put,List.getElem_toArray,List.getElem_cons_zero,List.getElem_cons_succ,List.setIfInBounds_toArray,List.set_cons_zero,List.set_cons_succ]
       refine wpAnyH_take (i:=6) (v:=.bool false) rfl (by kernel_rfl) (by kernel_rfl) (by kernel_rfl) (fun _ _ _ h=>h) (.inl ⟨rfl,fun w _=>rfl⟩) hS0 ?_
       simp only [Act.put,List.getElem_toArray,List.getElem_cons_zero,List.getElem_cons_succ,List.setIfInBounds_toArray,List.set_cons_zero,List.set_cons_succ]
       refine wpAnyH_take (i:=7) (v:=undef) rfl (by kernel_rfl) (by kernel_rfl) (by kernel_rfl) (fun _ _ _ h=>h) (.inr ⟨by kernel_rfl,rfl⟩) hS0 ?_
       simp only [Act.put,List.getElem_toArray,List.getElem_cons_zero,List.getElem_cons_succ,List.setIfInBounds_toArray,List.set_cons_zero,List.set_cons_succ]
       refine wpAnyH_take (i:=8) (v:=undef) rfl (by kernel_rfl) (by kernel_rfl) (by kernel_rfl) (fun _ _ _ h=>h) (.inr ⟨by kernel_rfl,rfl⟩) hS0 ?_
       simp only [Act.put,List.getElem_toArray,List.getElem_cons_zero,List.getElem_cons_succ,List.setIfInBounds_toArray,List.set_cons_zero,List.set_cons_succ]
       refine wpAnyH_take (i:=9) (v:=undef) rfl (by kernel_rfl) (by kernel_rfl) (by kernel_rfl) (fun _ _ _ h=>h) (.inr ⟨by kernel_rfl,rfl⟩) hS0 ?_
       simp only [Act.put,List.getElem_toArray,List.getElem_cons_zero,List.getElem_cons_succ,List.setIfInBounds_toArray,List.set_cons_zero,List.set_cons_succ]
       refine wpAnyH_take (i:=10) (v:=undef) rfl (by kernel_rfl) (by kernel_rfl) (by kernel_rfl) (fun _ _ _ h=>h) (.inr ⟨by kernel_rfl,rfl⟩) hS0 ?_
       simp only [Act.put,List.getElem_toArray,List.getElem_cons_zero,List.getElem_cons_succ,List.setIfInBounds_toArray,List.set_cons_zero,List.set_cons_succ]
       refine wpAnyH_take (i:=11) (v:=.bool false) rfl (by kernel_rfl) (by kernel_rfl) (by kernel_rfl) (fun _ _ _ h=>h) (.inl ⟨rfl,fun w _=>by rfl⟩) hS0 ?_
       simp only [Act.put,List.getElem_toArray,List.getElem_cons_zero,List.getElem_cons_succ,List.setIfInBounds_toArray,List.set_cons_zero,List.set_cons_succ]
       refine wpAnyH_take (i:=12) (v:=.agg #[.string (S x.nm),.string (S x.vs),.slice a1 n1 c1,.slice a2 n2 c2,.slice a3 n3 c3,.slice a4 n4 c4,.slice a5 n5 c5,.slice a6 n6 c6,.bool x.ess,.bool true,.bool false]) rfl (by kernel_rfl) (by kernel_rfl) (by kernel_rfl) (fun _ _ _ h=>h) (.inl ⟨rfl,fun w _=>by kernel_rfl⟩) hS0 ?_
       simp only [Act.put,List.getElem_toArray,List.getElem_cons_zero,List.getElem_cons_succ,List.setIfInBounds_toArray,List.set_cons_zero,List.set_cons_succ]
       refine wpAnyH_all (rs:=[13]) (by kernel_rfl) (by simp) ?_
       intro i hi
       obtain rfl:=List.mem_singleton.1 hi
       refine Reg.wpOp_list rfl ?_
       go_wp2_with fail
       change _ ∧ _
       have hb1:=(Below.refl u0.heap.size u0).alloc (Nat.le_refl _) (.cells #[.string (S x.nm),.string (S x.vs),.slice a1 n1 c1,.slice a2 n2 c2,.slice a3 n3 c3,.slice a4 n4 c4,.slice a5 n5 c5,.slice a6 n6 c6,.bool x.ess,.bool true,.bool false] 45)
       have i1:=Blk.Is.new u0 45 #[.string (S x.nm),.string (S x.vs),.slice a1 n1 c1,.slice a2 n2 c2,.slice a3 n3 c3,.slice a4 n4 c4,.slice a5 n5 c5,.slice a6 n6 c6,.bool x.ess,.bool true,.bool false]
       have hS1:Below w.heap.size w (u0.alloc (.cells #[.string (S x.nm),.string (S x.vs),.slice a1 n1 c1,.slice a2 n2 c2,.slice a3 n3 c3,.slice a4 n4 c4,.slice a5 n5 c5,.slice a6 n6 c6,.bool x.ess,.bool true,.bool false] 45)) ∧ Blk.Is (u0.alloc (.cells #[.string (S x.nm),.string (S x.vs),.slice a1 n1 c1,.slice a2 n2 c2,.slice a3 n3 c3,.slice a4 n4 c4,.slice a5 n5 c5,.slice a6 n6 c6,.bool x.ess,.bool true,.bool false] 45)) bx 40 #[.string (S x.nm),.string (S x.vs),.slice a1 n1 c1,.slice a2 n2 c2,.slice a3 n3 c3,.slice a4 n4 c4,.slice a5 n5 c5,.slice a6 n6 c6,.bool x.ess]:=⟨hS0.1.trans (hb1.mono hS0.1.size),hS0.2.alloc _⟩
       have O1:=Lib.hid (Own.owns_below O0.out hb1)
       have HI1:=Lib.hid i1
       obtain ⟨b6,hb6⟩:∃ b6,u0.heap.size = b6:=⟨_,rfl⟩
       refine ⟨hS1,?_⟩
       obtain ⟨u1,hu1⟩:∃ u1,u0.alloc (.cells #[.string (S x.nm),.string (S x.vs),.slice a1 n1 c1,.slice a2 n2 c2,.slice a3 n3 c3,.slice a4 n4 c4,.slice a5 n5 c5,.slice a6 n6 c6,.bool x.ess,.bool true,.bool false] 45) = u1:=⟨_,rfl⟩
       rw [hu1] at hS1 O1 HI1 ⊢
       rw [hb6] at HI1 ⊢
       clear hb1 i1 hu1 hb6
       refine wpAnyH_all (rs:=[14]) (by kernel_rfl) (by simp) ?_
       intro i0 hi0
       obtain rfl:=List.mem_singleton.1 hi0
       have hz:=hS1.1.size
       refine Reg.wpOp_list rfl ?_
       (refine append_big Tryz.underlying26 infoEn rfl rfl (.tmp 46) (.tmp 59) rfl w.heap.size (.slice na k nc) k rfl ⟨_,O1.out⟩ b6 1 rfl [.string (S x.nm),.string (S x.vs),.slice a1 n1 c1,.slice a2 n2 c2,.slice a3 n3 c3,.slice a4 n4 c4,.slice a5 n5 c5,.slice a6 n6 c6,.bool x.ess,.bool true,.bool false] rfl (fun j u hj=>HI1.out.at (by rw [← Array.getElem?_toList]; exact hj)) (fun u hu=>by simp only [List.mem_cons,List.not_mem_nil,or_false] at hu; rcases hu with rfl | rfl | rfl | rfl | rfl | rfl | rfl | rfl | rfl | rfl | rfl <;> rfl) (by omega) (by omega) hz ?_; intro v' u2 h7 g7 _; have h7:=h7 _ O1.out)
       go_wp2_with fail
       change _ ∧ _
       have c7:=Blk.Chg.grown (S:=fun q=>Value.ownBlock (.slice na k nc) = some q) (Blk.Chg.refl _ u1) g7 (fun q hq _=>hq)
       have i7:=c7.is hS1.2 (not_rowE hS1.2 (by decide) O1.out)
       have hS2:Below w.heap.size w u2 ∧ Blk.Is u2 bx 40 #[.string (S x.nm),.string (S x.vs),.slice a1 n1 c1,.slice a2 n2 c2,.slice a3 n3 c3,.slice a4 n4 c4,.slice a5 n5 c5,.slice a6 n6 c6,.bool x.ess]:=⟨Own.below_grown hS1.1 O1.out g7 hz,i7⟩
       refine ⟨hS2,?_⟩
       obtain ⟨a7,r7,rfl,_⟩:=Rl.own_shape h7
       have O7:=Lib.hid h7
       clear h7 g7 c7 i7 hz O1 HI1
       refine wpAnyH_all (rs:=[15]) (by kernel_rfl) (by simp) ?_
       intro i hi
       obtain rfl:=List.mem_singleton.1 hi
       refine Reg.wpOp_list rfl ?_
       go_wp2_with fail
       change _ ∧ _
       refine ⟨hS2,?_⟩
       refine wpAnyH_done (by kernel_rfl) ?_ _
       have B7:=Lib.hid hS2.1
       clear hS0 hS1 hS2
       go_wp2_with fail
       go_roundg g'
       case measure=>omega
       case rel =>
        refine ⟨k + 1,a7,r7,ds ++ [eeOf x a1 n1 c1 a2 n2 c2 a3 n3 c3 a4 n4 c4 a5 n5 c5 a6 n6 c6 true false],rfl,by go_num,Lib.hid ?_,Lib.hid ⟨by rw [List.length_append,HD.out.1]; rfl,?_,?_⟩,B7,by omega,by omega⟩
        ·rw [List.flatMap_append]
         exact O7.out
        ·rw [List.map_append,List.map_append,HD.out.2.1,HTK.out]; rfl
        ·intro y hy
         rcases List.mem_append.1 hy with hy | hy
         ·exact HD.out.2.2 y hy
         ·rw [List.mem_singleton.1 hy]
          exact ⟨rfl,HH.out⟩
     ·obtain rfl:n = k:=by omega
      have hge:¬ (n:Int) < (n:Int):=by omega
      have hall:AllC (ds.map Ee.en) l:=⟨by rw [HD.out.2.1,List.take_of_length_le (Nat.le_of_eq HN.out)],fun y hy=>by
       obtain ⟨z,hz,rfl⟩:=List.mem_map.1 hy
       exact (HD.out.2.2 z hz).1⟩
      have ch:=healthy_any _ l wr (H.out.below B.out) HL.out HF.out (HV.out.on B.out)
      rw [heaB_sound (fun i hi=>HEE.out i (by rw [← HN.out]; exact hi)) hall] at ch
      have HALL:=Lib.hid hall
      obtain ⟨G,hG⟩:∃ G,decide (Sa.wr (ds.map Ee.en) = []) = G:=⟨_,rfl⟩
      rw [hG] at ch
      have HG:=Lib.hid hG
      clear hall hG hkn hfu hlt
      go_wp2_with fail
      refine ch.mono ?_
      rintro e w5 ⟨rfl,k5⟩
      have B5:=Lib.hid (B.out.trans (k5.mono B.out.size))
      have O5:=Own.owns_below O.out k5
      have hens:=own_ees O5 HD.out.1 (fun y hy=>(HD.out.2.2 y hy).2.below B5.out) (by omega)
      have cw:=wrong_any _ _ w5 hens (lim_all HL.out HALL.out.1) (HV.out.on B5.out) (HF.out.all HALL.out.1)
      clear ch k5 O5 hens
      go_wp2_with fail
      refine cw.mono ?_
      rintro e w6 ⟨v6,rfl,o6,k6⟩
      have B6:=Lib.hid (B5.out.trans (k6.mono B5.out.size))
      obtain ⟨a6,r6,rfl,_⟩:=Rl.own_shape o6
      have hq:(((Sa.wr (ds.map Ee.en)).length:Int) == 0) = G:=by
       rw [← HG.out]
       cases hw:Sa.wr (ds.map Ee.en) with
       | nil=>rfl
       | cons y r =>
        rw [decide_eq_false (by simp),beq_eq_false_iff_ne]
        simp only [List.length_cons]
        omega
      obtain ⟨N,hN⟩:∃ N,(Sa.wr (ds.map Ee.en)).length = N:=⟨_,rfl⟩
      rw [hN] at hq
      rw [hN]
      have hgg:(G == G) = true:=by cases G <;> rfl
      have ca:=awake_any w6 (HV.out.on B6.out)
      clear cw o6 k6 hN
      go_wp2_with fail
      refine ca.mono ?_
      rintro e w7 ⟨rfl,k7⟩
      have hb:=B6.out.trans (k7.mono B6.out.size)
      clear ca
      go_wp2_with fail
      go_ret
      exact ⟨rfl,hb⟩
end Sa
end Go.Proofs.YtgpcilepkmckeaaGreatDoor

/-
The law RecordOnce.
-/
import Derived.Test.YthmpepnikmdjpaaGreatDoorBRecWrite
import Derived.Test.YthmpepnikmdjpaaGreatDoorBRecLight
import Derived.Test.YthmpepnikmdjpaaGreatDoorBRecSame2
namespace Go.Proofs.YthmpepnikmdjpaaGreatDoor
open Go.RowKit
set_option linter.unusedSimpArgs false
set_option linter.unusedVariables false
namespace Rc
open Ver (Bs li li_len S S_self S_size S_li sameV)
open Va (Hi Vl VAt wrT)
open Stz (Fld Sz Flds Stzs Szd BytesAt nums nums_S)
open Rl (At Pv Ats Pvs Clss Slc LimA LimP LimC Vars nA nP mem_getD may nmB isV pvA aV pV tcells)
theorem told_ok {s:ByteArray} {l:List Pk} (h:Told ofS mayAll s (.ok l)):mayAll l = 0 ∧ ∀ p ∈ l,mayK p = 0:=by
 have h1:=told_may h
 exact ⟨h1,fun p hp=>mayK_ok.2 ((mayAll_ok h1).2 p hp)⟩
set_option maxRecDepth 100000 in
set_option maxHeartbeats 16000000 in
theorem once_walk (a:Option Addr) (len cap:Nat) (zs:List Int) (w:World) (hr:Row w a len zs) (hG:Gl w) (hP:Va.Pow w) :
  Calls Tryz.prog 10 #[.slice a len cap] w fun e w'=>e = .returned (.bool true) ∧ Below w.heap.size w w':=by
 have cp:=packages_any a len cap zs w hr hG
 have HG:=Lib.hid hG
 have HP:=Lib.hid hP
 clear hr hG hP
 go_enter Tryz.func10,Tryz.ntmps10
 go_wp2_with fail
 refine cp.mono ?_
 rintro e w1 ⟨oo,v,er,ln,htold,rfl,k1,hm⟩
 clear cp
 have hb1:=(Below.refl w1.heap.size w1).alloc (Nat.le_refl _) (.cells #[.int .i64 er,.int .i64 ln] 45)
 have i1:=Blk.Is.new w1 45 #[.int .i64 er,.int .i64 ln]
 have hb2:=k1.trans (hb1.mono k1.size)
 obtain ⟨bx,hbx⟩:∃ b,w1.heap.size = b:=⟨_,rfl⟩
 rw [hbx] at i1
 have d0:(w1.alloc (.cells #[.int .i64 er,.int .i64 ln] 45)).cell? ⟨bx,0,none⟩ = some (.int .i64 er):=i1.at (i:=0) rfl
 cases oo with
 | error p =>
  obtain ⟨rfl,rfl,hne,rfl⟩:=hm
  have hne':(p.1 != 0) = true:=by simp [hne]
  have ca:=awake_any _ (HG.out.on hb2)
  have B2:=Lib.hid hb2
  clear htold k1 hb1 i1 hb2 hne
  generalize p.1 = P1 at *
  generalize p.2 = P2 at *
  go_wp2_with fail
  clear d0 hbx
  generalize w1.alloc (.cells #[.int .i64 P1,.int .i64 P2] 45) = w2 at *
  refine ca.mono ?_
  rintro e w3 ⟨rfl,k3⟩
  have hb:=B2.out.trans (k3.mono B2.out.size)
  clear ca
  go_wp2_with fail
  go_ret
  exact ⟨rfl,hb⟩
 | ok xs =>
  obtain ⟨rfl,rfl,hpk,hlm⟩:=hm
  obtain ⟨hm0,hk0⟩:=told_ok htold
  obtain ⟨ma,mc,rfl⟩:=hpk.here.shape
  have hpk2:=hpk.here.below hb1
  have HPK:=Lib.hid hpk2
  have HLM:=Lib.hid hlm
  have HM0:=Lib.hid hm0
  have HK0:=Lib.hid hk0
  have B2:=Lib.hid hb2
  obtain ⟨n,hn⟩:∃ n,xs.length = n:=⟨_,rfl⟩
  have HN:=Lib.hid hn
  have hn4:=hpk2.1
  rw [hn] at hn4 ⊢
  clear htold k1 hb1 i1 hb2 hpk hpk2 hlm hm0 hk0 hn
  go_wp2_with fail
  clear d0 hbx
  generalize w1.alloc (.cells #[.int .i64 0,.int .i64 0] 45) = w2 at *
  go_loopg [27] n (fun gf s1 wx=>∃ k:Nat,s1 = .int .i64 k ∧ Hid (Below w2.heap.size w2 wx) ∧ k ≤ n ∧ n ≤ k + gf)
  case atStart=>exact ⟨0,rfl,Lib.hid (Below.refl _ _),by omega,by omega⟩
  case round =>
   obtain ⟨k,rfl,HW,hkn,hfu⟩:=hrel
   by_cases hlt:k < n
   ·obtain ⟨g',rfl⟩:∃ g',gk = g' + 1:=⟨gk - 1,by omega⟩
    have hbw:=HW.out
    have hlt':(k:Int) < (n:Int):=by omega
    have hk0:(0:Int) ≤ k:=by omega
    have hkl:k < xs.length:=by rw [HN.out]; exact hlt
    obtain ⟨_,a',cap',e1,_,hcells⟩:=HPK.out.below hbw
    simp only [Value.slice.injEq,true_and] at e1
    obtain ⟨rfl,rfl⟩:=e1
    obtain ⟨kb,off,rfl,hcl2⟩:=hcells (by omega)
    obtain ⟨a1,n1,c1,a2,n2,c2,a3,n3,c3,a4,n4,c4,a5,n5,c5,a6,n6,c6,⟨x0,x1,x2,x3,x4,x5,x6,x7,x8⟩,hh⟩:=pk_read (hcl2 k hkl)
    rw [Nat.mul_comm 9 k] at x0 x1 x2 x3 x4 x5 x6 x7 x8
    have hmem:=Rl.mem_getD (z:=nPk) hkl
    have hlim:=HLM.out _ hmem
    have hmk:=HK0.out _ hmem
    generalize hx:xs.getD k nPk = x at *
    have hb2:=(Below.refl wr.heap.size wr).alloc (Nat.le_refl _) (.cells #[.string (S x.nm),.string (S x.vs),.slice a1 n1 c1,.slice a2 n2 c2,.slice a3 n3 c3,.slice a4 n4 c4,.slice a5 n5 c5,.slice a6 n6 c6,.bool x.ess] 31)
    have hb3:=B2.out.trans ((hbw.trans (hb2.mono hbw.size)).mono B2.out.size)
    have cm:=may_any _ x (wr.alloc (.cells #[.string (S x.nm),.string (S x.vs),.slice a1 n1 c1,.slice a2 n2 c2,.slice a3 n3 c3,.slice a4 n4 c4,.slice a5 n5 c5,.slice a6 n6 c6,.bool x.ess] 31)) ⟨_,_,_,_,_,_,rfl,hh.below hb2⟩ hlim (HG.out.on hb3).v
    rw [hmk] at cm
    have HW2:=Lib.hid (hbw.trans (hb2.mono hbw.size))
    clear hx hcells hcl2 hh hmem hlim hmk hb2 hb3 hbw HW
    go_wp2_with fail
    generalize wr.alloc (.cells #[.string (S x.nm),.string (S x.vs),.slice a1 n1 c1,.slice a2 n2 c2,.slice a3 n3 c3,.slice a4 n4 c4,.slice a5 n5 c5,.slice a6 n6 c6,.bool x.ess] 31) = W at *
    refine cm.mono ?_
    rintro e u1 ⟨rfl,q1⟩
    have HW3:=Lib.hid (HW2.out.trans (q1.mono HW2.out.size))
    clear cm q1 HW2
    go_wp2_with fail
    go_roundg g'
    case measure=>omega
    case rel=>exact ⟨k + 1,by go_num,HW3,by omega,by omega⟩
   ·have hge:¬ (k:Int) < (n:Int):=by omega
    obtain rfl:k = n:=by omega
    have B3:=Lib.hid (B2.out.trans (HW.out.mono B2.out.size))
    have HPK3:=Lib.hid (HPK.out.below HW.out)
    clear B2 HPK HW
    have cp:=print_any _ xs wr HPK3.out HLM.out (HG.out.on B3.out) (HP.out.on B3.out)
    have h1:=@prtP_ok xs
    have h2:=@prtP_err xs
    obtain ⟨T,hT⟩:∃ T,prt szP mayAll xs = T:=⟨_,rfl⟩
    rw [hT] at cp h1 h2
    rw [HN.out] at cp
    obtain ⟨t,e1⟩:=T
    have H1:=Lib.hid h1
    have H2:=Lib.hid h2
    clear hT h1 h2
    go_wp2_with fail
    refine cp.mono ?_
    rintro e w4 ⟨u,rfl,hu,k4⟩
    have B4:=Lib.hid (B3.out.trans (k4.mono B3.out.size))
    have HPK4:=Lib.hid (HPK3.out.below k4)
    have HU:=Lib.hid hu
    clear cp k4 hu B3 HPK3
    by_cases her:e1 = 0
    ·subst her
     obtain ⟨ua,uc,rfl,_,_,hrow⟩:=id HU.out
     have cq:=packages_any ua _ uc (nums t) w4 hrow (HG.out.on B4.out)
     have HTOLD:=Lib.hid (H1.out rfl).2
     clear hrow H1 H2
     go_wp2_with fail
     refine cq.mono ?_
     rintro e w5 ⟨o2,v2,er2,ln2,htold,rfl,k5,hm⟩
     obtain rfl:o2 = .ok xs:=htold.uniq (by rw [nums_S]; exact HTOLD.out)
     obtain ⟨rfl,rfl,hpk,hlm⟩:=hm
     obtain ⟨mb,md,rfl⟩:=hpk.here.shape
     have hb5:=(Below.refl w5.heap.size w5).alloc (Nat.le_refl _) (.cells #[.int .i64 0,.int .i64 0] 45)
     have i5:=Blk.Is.new w5 45 #[.int .i64 0,.int .i64 0]
     have hb6:=B4.out.trans ((k5.trans (hb5.mono k5.size)).mono B4.out.size)
     have hp1:=(HPK4.out.below k5).below hb5
     have hp2:=hpk.here.below hb5
     obtain ⟨by_,hby⟩:∃ b,w5.heap.size = b:=⟨_,rfl⟩
     rw [hby] at i5
     have d5:(w5.alloc (.cells #[.int .i64 0,.int .i64 0] 45)).cell? ⟨by_,0,none⟩ = some (.int .i64 0):=i5.at (i:=0) rfl
     have hsm:=samePks_yes _ _ xs _ hp1 hp2
     rw [HN.out] at hsm ⊢
     have B6:=Lib.hid hb6
     have HP1:=Lib.hid hp1
     clear hpk hlm k5 hb5 i5 hb6 hp1 hp2 htold cq
     go_wp2_with fail
     clear d5 hby
     generalize w5.alloc (.cells #[.int .i64 0,.int .i64 0] 45) = w6 at *
     refine hsm.mono ?_
     rintro e w7 ⟨rfl,k7⟩
     have B7:=Lib.hid (B6.out.trans (k7.mono B6.out.size))
     have cm:=mayAll_any _ xs w7 (HP1.out.below k7) HLM.out (HG.out.on B7.out).v
     rw [HM0.out,HN.out] at cm
     clear hsm k7 HP1 B6
     go_wp2_with fail
     refine cm.mono ?_
     rintro e w8 ⟨rfl,k8⟩
     have B8:=Lib.hid (B7.out.trans (k8.mono B7.out.size))
     have ca:=awake_any w8 (HG.out.on B8.out)
     clear cm k8 B7
     go_wp2_with fail
     refine ca.mono ?_
     rintro e w9 ⟨rfl,k9⟩
     have hb:=B8.out.trans (k9.mono B8.out.size)
     go_wp2_with fail
     go_ret
     exact ⟨rfl,hb⟩
    ·have her':(e1 != 0) = true:=by simp [her]
     have h2:=H2.out her
     try simp only at h2
     have h22:e1 = 2:=by
      rcases h2 with h2 | h2
      ·rw [HM0.out] at h2; exact absurd h2 her
      ·exact h2.2
     subst h22
     have ca:=awake_any w4 (HG.out.on B4.out)
     clear her h2 H1 H2 HU
     go_wp2_with fail
     refine ca.mono ?_
     rintro e w9 ⟨rfl,k9⟩
     have hb:=B4.out.trans (k9.mono B4.out.size)
     go_wp2_with fail
     go_ret
     exact ⟨rfl,hb⟩
end Rc
end Go.Proofs.YthmpepnikmdjpaaGreatDoor

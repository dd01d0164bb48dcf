/-
The law RecordBack. What the rows of package relation list of variables: the variable signs of package version; the variable of the library that Cut names. What the row lists of the library's variables, as the library's contracts ask it of a world; the number that the variable of the third place holds. What the rows of package record list of variables. What the rows of ValueWrites and ValueBack list of variables. What the rows of package record list of variables where something is printed.
-/
import Derived.Test.YthmpepnikmdjpaaGreatDoorBRecWrite
import Derived.Test.YthmpepnikmdjpaaGreatDoorBRecParseE
import Derived.Test.YthmpepnikmdjpaaGreatDoorBRecLight
import Derived.Test.YthmpepnikmdjpaaGreatDoorBRecSame2
import Derived.Test.YthmpepnikmdjpaaGreatDoorRows
import Derived.Test.YthmpepnikmdjpaaGreatDoorBRelAtom
import Derived.Shelf.Vars
import Derived.HandedShaped
import Derived.LaidLaws
import Derived.LaidMore
import Derived.Lib.LaidU8
import Derived.Test.YthmpepnikmdjpaaGreatDoorShelf
import Derived.PinnedBridge
import Derived.Test.YthmpepnikmdjpaaGreatDoorBRecRead
import Derived.LaidSub
import Derived.Test.YthmpepnikmdjpaaGreatDoorBWordsGo
namespace Go.Proofs.YthmpepnikmdjpaaGreatDoor
open Go.RowKit
set_option linter.unusedSimpArgs false
set_option linter.unusedVariables false
namespace Rc
open Ver (Bs li li_len S S_self S_size S_li sameV)
open Va (Hi Vl VAt wrT)
open Stz (Fld Sz Flds Stzs Szd BytesAt nums nums_S)
open Rl (At Pv Ats Pvs Clss Slc LimA LimP LimC Vars nA nP mem_getD may nmB isV pvA aV pV tcells)
set_option maxRecDepth 100000 in
set_option maxHeartbeats 16000000 in
theorem back_walk (vp ve:Value) (l:List Pk) (es:List En) (w:World) (hp:Pks w vp l) (he:Ens w ve es) (hL:∀ x ∈ l,x.Lim) (hLe:∀ x ∈ es,x.pk.Lim) (hbig:es.length * 184 ≤ 140737488355328) (hG:Gl w) (hP:Va.Pow w) :
  Calls Tryz.prog 9 #[vp,ve] w fun e w'=>e = .returned (.bool true) ∧ Below w.heap.size w w':=by
 obtain ⟨sa,cap,rfl⟩:=hp.shape
 obtain ⟨ea,ecap,rfl⟩:=he.shape
 have cl:=light_any _ l w hp
 have H:=Lib.hid hp
 have HE:=Lib.hid he
 have HL:=Lib.hid hL
 have HLE:=Lib.hid hLe
 have HGV:=Lib.hid hG
 have HPW:=Lib.hid hP
 have HBIG:=Lib.hid hbig
 obtain ⟨n,hn⟩:∃ n,l.length = n:=⟨_,rfl⟩
 have HN:=Lib.hid hn
 rw [hn] at cl ⊢
 obtain ⟨m,hm⟩:∃ m,es.length = m:=⟨_,rfl⟩
 have HMN:=Lib.hid hm
 rw [hm] at ⊢
 obtain ⟨b1,hb1⟩:∃ b1,lightB l = b1:=⟨_,rfl⟩
 rw [hb1] at cl
 clear hn hm hp he hL hLe hbig hG hb1 hP
 cases b1 with
 | false =>
  go_enter Tryz.func9,Tryz.ntmps9
  go_wp2_with fail
  refine cl.mono ?_
  rintro e w1 ⟨rfl,k1⟩
  have ca:=awake_any w1 (HGV.out.on k1)
  go_wp2_with fail
  refine ca.mono ?_
  rintro e w2 ⟨rfl,k2⟩
  have hb:=k1.trans (k2.mono k1.size)
  go_wp2_with fail
  go_ret
  exact ⟨rfl,hb⟩
 | true =>
  go_enter Tryz.func9,Tryz.ntmps9
  go_wp2_with fail
  refine cl.mono ?_
  rintro e w1 ⟨rfl,k1⟩
  have cb:=bare_any _ es w1 (HE.out.below k1) HBIG.out
  rw [HMN.out] at cb
  have K1:=Lib.hid k1
  clear cl k1
  go_wp2_with fail
  refine cb.mono ?_
  rintro e w2 ⟨v2,rfl,hp2,k2⟩
  have cl2:=light_any _ _ w2 hp2
  have K2:=Lib.hid (K1.out.trans (k2.mono K1.out.size))
  obtain ⟨b2,hb2⟩:∃ b2,lightB (es.map En.pk) = b2:=⟨_,rfl⟩
  rw [hb2] at cl2
  clear cb hp2 k2 hb2
  go_wp2_with fail
  refine cl2.mono ?_
  rintro e w3 ⟨rfl,k3⟩
  have K3:=Lib.hid (K2.out.trans (k3.mono K2.out.size))
  clear cl2 k3
  cases b2 with
  | false =>
   have ca:=awake_any w3 (HGV.out.on K3.out)
   go_wp2_with fail
   refine ca.mono ?_
   rintro e w4 ⟨rfl,k4⟩
   have hb:=K3.out.trans (k4.mono K3.out.size)
   go_wp2_with fail
   go_ret
   exact ⟨rfl,hb⟩
  | true =>
   have cp:=print_any _ l w3 (H.out.below K3.out) HL.out (HGV.out.on K3.out) (HPW.out.on K3.out)
   have h1:=@prtP_ok l
   have h2:=@prtP_err l
   obtain ⟨Tp,hTp⟩:∃ T,prt szP mayAll l = T:=⟨_,rfl⟩
   rw [hTp] at cp h1 h2
   rw [HN.out] at cp
   have HTp:=Lib.hid hTp
   have H1p:=Lib.hid h1
   have H2p:=Lib.hid h2
   clear hTp h1 h2
   obtain ⟨tp,ep⟩:=Tp
   go_wp2_with fail
   refine cp.mono ?_
   rintro e w3a ⟨up,rfl,hu,k1⟩
   have Bp1:=Lib.hid (K3.out.trans (k1.mono K3.out.size))
   have HUp:=Lib.hid hu
   clear cp hu k1
   by_cases her:ep = 0
   ·subst her
    obtain ⟨ua,uc,rfl,_,_,hrow⟩:=id HUp.out
    have cq:=packages_any ua _ uc (nums tp) w3a hrow (HGV.out.on Bp1.out)
    have HTOLD:=Lib.hid (H1p.out rfl).2
    clear hrow H1p H2p
    go_wp2_with fail
    refine cq.mono ?_
    rintro e w3b ⟨oo,v,er2,ln2,htold,rfl,k5,hm⟩
    obtain rfl:oo = .ok l:=htold.uniq (by rw [nums_S]; exact HTOLD.out)
    obtain ⟨rfl,rfl,hpk,hlm⟩:=hm
    obtain ⟨ma,mc,rfl⟩:=hpk.here.shape
    rw [HN.out]
    have hpk2:=hpk.here
    rw [HN.out] at hpk2
    have HPK:=Lib.hid hpk2
    have HLM:=Lib.hid hlm
    have Bp2:=Lib.hid (Bp1.out.trans (k5.mono Bp1.out.size))
    have HU2:=Lib.hid (HUp.out.below k5)
    clear hpk hpk2 hlm k5 htold cq HTOLD
    have hb5:=(Below.refl w3b.heap.size w3b).alloc (Nat.le_refl _) (.cells #[.int .i64 0,.int .i64 0] 45)
    have i5:=Blk.Is.new w3b 45 #[.int .i64 0,.int .i64 0]
    have hb6:=Bp2.out.trans (hb5.mono Bp2.out.size)
    have cp2:=print_any _ l _ (HPK.out.below hb5) HLM.out (HGV.out.on hb6) (HPW.out.on hb6)
    rw [HTp.out] at cp2
    have HPK3:=Lib.hid (HPK.out.below hb5)
    have HU3:=Lib.hid (HU2.out.below hb5)
    have Bp3:=Lib.hid hb6
    obtain ⟨bx,hbx⟩:∃ b,w3b.heap.size = b:=⟨_,rfl⟩
    rw [hbx] at i5
    have I5:=Lib.hid i5
    clear hb5 hb6 i5 HPK HU2
    go_wp2_with fail
    clear hbx
    generalize w3b.alloc (.cells #[.int .i64 0,.int .i64 0] 45) = w3c at *
    refine cp2.mono ?_
    rintro e w3d ⟨u2,rfl,hu2,k6⟩
    have d0:w3d.cell? ⟨bx,0,none⟩ = some (.int .i64 0):=(Rl.is_on I5.out k6).at (i:=0) rfl
    have Bp4:=Lib.hid (Bp3.out.trans (k6.mono Bp3.out.size))
    have hsm:=samePks_yes _ _ l w3d (H.out.below Bp4.out) (HPK3.out.below k6)
    rw [HN.out] at hsm
    have HU4:=Lib.hid (HU3.out.below k6)
    have HU5:=Lib.hid hu2
    clear cp2 hu2 k6 HPK3 HU3 I5
    go_wp2_with fail
    refine hsm.mono ?_
    rintro e w3e ⟨rfl,k7⟩
    have C1:=(HU4.out.below k7).conv
    have C2:=(HU5.out.below k7).conv
    have Bp5:=Lib.hid (Bp4.out.trans (k7.mono Bp4.out.size))
    clear hsm k7 d0 HU4 HU5
    try simp only at C2
    have cp:=printStatus_any _ es w3e (HE.out.below Bp5.out) HLE.out (HGV.out.on Bp5.out) (HPW.out.on Bp5.out)
    have h1:=@prtE_ok es
    have h2:=@prtE_err es
    obtain ⟨Te,hTe⟩:∃ T,prt szE mayEn es = T:=⟨_,rfl⟩
    rw [hTe] at cp h1 h2
    rw [HMN.out] at cp
    have HTe:=Lib.hid hTe
    have H1e:=Lib.hid h1
    have H2e:=Lib.hid h2
    clear hTe h1 h2
    obtain ⟨te,ee⟩:=Te
    go_wp2_with fail
    refine cp.mono ?_
    rintro e w3ea ⟨ue,rfl,hu,k1⟩
    have Be1:=Lib.hid (Bp5.out.trans (k1.mono Bp5.out.size))
    have HUe:=Lib.hid hu
    clear cp hu k1
    by_cases her:ee = 0
    ·subst her
     obtain ⟨ua,uc,rfl,_,_,hrow⟩:=id HUe.out
     have cq:=status_any ua _ uc (nums te) w3ea hrow (HGV.out.on Be1.out)
     have HTOLD:=Lib.hid (H1e.out rfl).2
     clear hrow H1e H2e
     go_wp2_with fail
     refine cq.mono ?_
     rintro e w3eb ⟨oo,v,er2,ln2,htold,rfl,k5,hm⟩
     obtain rfl:oo = .ok es:=htold.uniq (by rw [nums_S]; exact HTOLD.out)
     obtain ⟨rfl,rfl,hpk,hlm⟩:=hm
     obtain ⟨ma,mc,rfl⟩:=hpk.here.shape
     rw [HMN.out]
     have hpk2:=hpk.here
     rw [HMN.out] at hpk2
     have HPK:=Lib.hid hpk2
     have HLM:=Lib.hid hlm
     have Be2:=Lib.hid (Be1.out.trans (k5.mono Be1.out.size))
     have HU2:=Lib.hid (HUe.out.below k5)
     clear hpk hpk2 hlm k5 htold cq HTOLD
     have hb5:=(Below.refl w3eb.heap.size w3eb).alloc (Nat.le_refl _) (.cells #[.int .i64 0,.int .i64 0] 45)
     have i5:=Blk.Is.new w3eb 45 #[.int .i64 0,.int .i64 0]
     have hb6:=Be2.out.trans (hb5.mono Be2.out.size)
     have cp2:=printStatus_any _ es _ (HPK.out.below hb5) HLM.out (HGV.out.on hb6) (HPW.out.on hb6)
     rw [HTe.out] at cp2
     have HPK3:=Lib.hid (HPK.out.below hb5)
     have HU3:=Lib.hid (HU2.out.below hb5)
     have Be3:=Lib.hid hb6
     obtain ⟨bx,hbx⟩:∃ b,w3eb.heap.size = b:=⟨_,rfl⟩
     rw [hbx] at i5
     have I5:=Lib.hid i5
     clear hb5 hb6 i5 HPK HU2
     go_wp2_with fail
     clear hbx
     generalize w3eb.alloc (.cells #[.int .i64 0,.int .i64 0] 45) = w3ec at *
     refine cp2.mono ?_
     rintro e w3ed ⟨u2,rfl,hu2,k6⟩
     have d0:w3ed.cell? ⟨bx,0,none⟩ = some (.int .i64 0):=(Rl.is_on I5.out k6).at (i:=0) rfl
     have Be4:=Lib.hid (Be3.out.trans (k6.mono Be3.out.size))
     have hsm:=sameEns_yes _ _ es w3ed (HE.out.below Be4.out) (HPK3.out.below k6)
     rw [HMN.out] at hsm
     have HU4:=Lib.hid (HU3.out.below k6)
     have HU5:=Lib.hid hu2
     clear cp2 hu2 k6 HPK3 HU3 I5
     go_wp2_with fail
     refine hsm.mono ?_
     rintro e w3ee ⟨rfl,k7⟩
     have C1:=(HU4.out.below k7).conv
     have C2:=(HU5.out.below k7).conv
     have Be5:=Lib.hid (Be4.out.trans (k7.mono Be4.out.size))
     clear hsm k7 d0 HU4 HU5
     try simp only at C2
     have ca:=awake_any w3ee (HGV.out.on Be5.out)
     go_wp2_with fail
     refine ca.mono ?_
     rintro e wA ⟨rfl,kA⟩
     have hbA:=Be5.out.trans (kA.mono Be5.out.size)
     clear ca
     go_wp2_with fail
     go_ret
     exact ⟨rfl,hbA⟩
    ·have her':(ee == 0) = false:=by simp [her]
     have cm:=mayEntries_any _ es w3ea (HE.out.below Be1.out) HLE.out (HGV.out.on Be1.out).v
     have hor:=H2e.out her
     try simp only at hor
     rw [HMN.out] at cm
     rcases hor with e1 | ⟨e1,e2⟩
     ·rw [← e1] at cm
      have hee:(ee != ee) = false:=by simp
      clear her e1
      go_wp2_with fail
      refine cm.mono ?_
      rintro e w3ef ⟨rfl,k8⟩
      have Be6:=Lib.hid (Be1.out.trans (k8.mono Be1.out.size))
      clear cm k8
      have ca:=awake_any w3ef (HGV.out.on Be6.out)
      go_wp2_with fail
      refine ca.mono ?_
      rintro e wA ⟨rfl,kA⟩
      have hbA:=Be6.out.trans (kA.mono Be6.out.size)
      clear ca
      go_wp2_with fail
      go_ret
      exact ⟨rfl,hbA⟩
     ·subst e2
      rw [e1] at cm
      clear her e1
      go_wp2_with fail
      refine cm.mono ?_
      rintro e w3ef ⟨rfl,k8⟩
      have Be6:=Lib.hid (Be1.out.trans (k8.mono Be1.out.size))
      clear cm k8
      have ca:=awake_any w3ef (HGV.out.on Be6.out)
      go_wp2_with fail
      refine ca.mono ?_
      rintro e wA ⟨rfl,kA⟩
      have hbA:=Be6.out.trans (kA.mono Be6.out.size)
      clear ca
      go_wp2_with fail
      go_ret
      exact ⟨rfl,hbA⟩
   ·have her':(ep == 0) = false:=by simp [her]
    have cm:=mayAll_any _ l w3a (H.out.below Bp1.out) HL.out (HGV.out.on Bp1.out).v
    have hor:=H2p.out her
    try simp only at hor
    rw [HN.out] at cm
    rcases hor with e1 | ⟨e1,e2⟩
    ·rw [← e1] at cm
     have hee:(ep != ep) = false:=by simp
     clear her e1
     go_wp2_with fail
     refine cm.mono ?_
     rintro e w3f ⟨rfl,k8⟩
     have Bp6:=Lib.hid (Bp1.out.trans (k8.mono Bp1.out.size))
     clear cm k8
     have cp:=printStatus_any _ es w3f (HE.out.below Bp6.out) HLE.out (HGV.out.on Bp6.out) (HPW.out.on Bp6.out)
     have h1:=@prtE_ok es
     have h2:=@prtE_err es
     obtain ⟨Te,hTe⟩:∃ T,prt szE mayEn es = T:=⟨_,rfl⟩
     rw [hTe] at cp h1 h2
     rw [HMN.out] at cp
     have HTe:=Lib.hid hTe
     have H1e:=Lib.hid h1
     have H2e:=Lib.hid h2
     clear hTe h1 h2
     obtain ⟨te,ee⟩:=Te
     go_wp2_with fail
     refine cp.mono ?_
     rintro e w3fa ⟨ue,rfl,hu,k1⟩
     have Be1:=Lib.hid (Bp6.out.trans (k1.mono Bp6.out.size))
     have HUe:=Lib.hid hu
     clear cp hu k1
     by_cases her:ee = 0
     ·subst her
      obtain ⟨ua,uc,rfl,_,_,hrow⟩:=id HUe.out
      have cq:=status_any ua _ uc (nums te) w3fa hrow (HGV.out.on Be1.out)
      have HTOLD:=Lib.hid (H1e.out rfl).2
      clear hrow H1e H2e
      go_wp2_with fail
      refine cq.mono ?_
      rintro e w3fb ⟨oo,v,er2,ln2,htold,rfl,k5,hm⟩
      obtain rfl:oo = .ok es:=htold.uniq (by rw [nums_S]; exact HTOLD.out)
      obtain ⟨rfl,rfl,hpk,hlm⟩:=hm
      obtain ⟨ma,mc,rfl⟩:=hpk.here.shape
      rw [HMN.out]
      have hpk2:=hpk.here
      rw [HMN.out] at hpk2
      have HPK:=Lib.hid hpk2
      have HLM:=Lib.hid hlm
      have Be2:=Lib.hid (Be1.out.trans (k5.mono Be1.out.size))
      have HU2:=Lib.hid (HUe.out.below k5)
      clear hpk hpk2 hlm k5 htold cq HTOLD
      have hb5:=(Below.refl w3fb.heap.size w3fb).alloc (Nat.le_refl _) (.cells #[.int .i64 0,.int .i64 0] 45)
      have i5:=Blk.Is.new w3fb 45 #[.int .i64 0,.int .i64 0]
      have hb6:=Be2.out.trans (hb5.mono Be2.out.size)
      have cp2:=printStatus_any _ es _ (HPK.out.below hb5) HLM.out (HGV.out.on hb6) (HPW.out.on hb6)
      rw [HTe.out] at cp2
      have HPK3:=Lib.hid (HPK.out.below hb5)
      have HU3:=Lib.hid (HU2.out.below hb5)
      have Be3:=Lib.hid hb6
      obtain ⟨bx,hbx⟩:∃ b,w3fb.heap.size = b:=⟨_,rfl⟩
      rw [hbx] at i5
      have I5:=Lib.hid i5
      clear hb5 hb6 i5 HPK HU2
      go_wp2_with fail
      clear hbx
      generalize w3fb.alloc (.cells #[.int .i64 0,.int .i64 0] 45) = w3fc at *
      refine cp2.mono ?_
      rintro e w3fd ⟨u2,rfl,hu2,k6⟩
      have d0:w3fd.cell? ⟨bx,0,none⟩ = some (.int .i64 0):=(Rl.is_on I5.out k6).at (i:=0) rfl
      have Be4:=Lib.hid (Be3.out.trans (k6.mono Be3.out.size))
      have hsm:=sameEns_yes _ _ es w3fd (HE.out.below Be4.out) (HPK3.out.below k6)
      rw [HMN.out] at hsm
      have HU4:=Lib.hid (HU3.out.below k6)
      have HU5:=Lib.hid hu2
      clear cp2 hu2 k6 HPK3 HU3 I5
      go_wp2_with fail
      refine hsm.mono ?_
      rintro e w3fe ⟨rfl,k7⟩
      have C1:=(HU4.out.below k7).conv
      have C2:=(HU5.out.below k7).conv
      have Be5:=Lib.hid (Be4.out.trans (k7.mono Be4.out.size))
      clear hsm k7 d0 HU4 HU5
      try simp only at C2
      have ca:=awake_any w3fe (HGV.out.on Be5.out)
      go_wp2_with fail
      refine ca.mono ?_
      rintro e wA ⟨rfl,kA⟩
      have hbA:=Be5.out.trans (kA.mono Be5.out.size)
      clear ca
      go_wp2_with fail
      go_ret
      exact ⟨rfl,hbA⟩
     ·have her':(ee == 0) = false:=by simp [her]
      have cm:=mayEntries_any _ es w3fa (HE.out.below Be1.out) HLE.out (HGV.out.on Be1.out).v
      have hor:=H2e.out her
      try simp only at hor
      rw [HMN.out] at cm
      rcases hor with e1 | ⟨e1,e2⟩
      ·rw [← e1] at cm
       have hee:(ee != ee) = false:=by simp
       clear her e1
       go_wp2_with fail
       refine cm.mono ?_
       rintro e w3ff ⟨rfl,k8⟩
       have Be6:=Lib.hid (Be1.out.trans (k8.mono Be1.out.size))
       clear cm k8
       have ca:=awake_any w3ff (HGV.out.on Be6.out)
       go_wp2_with fail
       refine ca.mono ?_
       rintro e wA ⟨rfl,kA⟩
       have hbA:=Be6.out.trans (kA.mono Be6.out.size)
       clear ca
       go_wp2_with fail
       go_ret
       exact ⟨rfl,hbA⟩
      ·subst e2
       rw [e1] at cm
       clear her e1
       go_wp2_with fail
       refine cm.mono ?_
       rintro e w3ff ⟨rfl,k8⟩
       have Be6:=Lib.hid (Be1.out.trans (k8.mono Be1.out.size))
       clear cm k8
       have ca:=awake_any w3ff (HGV.out.on Be6.out)
       go_wp2_with fail
       refine ca.mono ?_
       rintro e wA ⟨rfl,kA⟩
       have hbA:=Be6.out.trans (kA.mono Be6.out.size)
       clear ca
       go_wp2_with fail
       go_ret
       exact ⟨rfl,hbA⟩
    ·subst e2
     rw [e1] at cm
     clear her e1
     go_wp2_with fail
     refine cm.mono ?_
     rintro e w3f ⟨rfl,k8⟩
     have Bp6:=Lib.hid (Bp1.out.trans (k8.mono Bp1.out.size))
     clear cm k8
     have cp:=printStatus_any _ es w3f (HE.out.below Bp6.out) HLE.out (HGV.out.on Bp6.out) (HPW.out.on Bp6.out)
     have h1:=@prtE_ok es
     have h2:=@prtE_err es
     obtain ⟨Te,hTe⟩:∃ T,prt szE mayEn es = T:=⟨_,rfl⟩
     rw [hTe] at cp h1 h2
     rw [HMN.out] at cp
     have HTe:=Lib.hid hTe
     have H1e:=Lib.hid h1
     have H2e:=Lib.hid h2
     clear hTe h1 h2
     obtain ⟨te,ee⟩:=Te
     go_wp2_with fail
     refine cp.mono ?_
     rintro e w3fa ⟨ue,rfl,hu,k1⟩
     have Be1:=Lib.hid (Bp6.out.trans (k1.mono Bp6.out.size))
     have HUe:=Lib.hid hu
     clear cp hu k1
     by_cases her:ee = 0
     ·subst her
      obtain ⟨ua,uc,rfl,_,_,hrow⟩:=id HUe.out
      have cq:=status_any ua _ uc (nums te) w3fa hrow (HGV.out.on Be1.out)
      have HTOLD:=Lib.hid (H1e.out rfl).2
      clear hrow H1e H2e
      go_wp2_with fail
      refine cq.mono ?_
      rintro e w3fb ⟨oo,v,er2,ln2,htold,rfl,k5,hm⟩
      obtain rfl:oo = .ok es:=htold.uniq (by rw [nums_S]; exact HTOLD.out)
      obtain ⟨rfl,rfl,hpk,hlm⟩:=hm
      obtain ⟨ma,mc,rfl⟩:=hpk.here.shape
      rw [HMN.out]
      have hpk2:=hpk.here
      rw [HMN.out] at hpk2
      have HPK:=Lib.hid hpk2
      have HLM:=Lib.hid hlm
      have Be2:=Lib.hid (Be1.out.trans (k5.mono Be1.out.size))
      have HU2:=Lib.hid (HUe.out.below k5)
      clear hpk hpk2 hlm k5 htold cq HTOLD
      have hb5:=(Below.refl w3fb.heap.size w3fb).alloc (Nat.le_refl _) (.cells #[.int .i64 0,.int .i64 0] 45)
      have i5:=Blk.Is.new w3fb 45 #[.int .i64 0,.int .i64 0]
      have hb6:=Be2.out.trans (hb5.mono Be2.out.size)
      have cp2:=printStatus_any _ es _ (HPK.out.below hb5) HLM.out (HGV.out.on hb6) (HPW.out.on hb6)
      rw [HTe.out] at cp2
      have HPK3:=Lib.hid (HPK.out.below hb5)
      have HU3:=Lib.hid (HU2.out.below hb5)
      have Be3:=Lib.hid hb6
      obtain ⟨bx,hbx⟩:∃ b,w3fb.heap.size = b:=⟨_,rfl⟩
      rw [hbx] at i5
      have I5:=Lib.hid i5
      clear hb5 hb6 i5 HPK HU2
      go_wp2_with fail
      clear hbx
      generalize w3fb.alloc (.cells #[.int .i64 0,.int .i64 0] 45) = w3fc at *
      refine cp2.mono ?_
      rintro e w3fd ⟨u2,rfl,hu2,k6⟩
      have d0:w3fd.cell? ⟨bx,0,none⟩ = some (.int .i64 0):=(Rl.is_on I5.out k6).at (i:=0) rfl
      have Be4:=Lib.hid (Be3.out.trans (k6.mono Be3.out.size))
      have hsm:=sameEns_yes _ _ es w3fd (HE.out.below Be4.out) (HPK3.out.below k6)
      rw [HMN.out] at hsm
      have HU4:=Lib.hid (HU3.out.below k6)
      have HU5:=Lib.hid hu2
      clear cp2 hu2 k6 HPK3 HU3 I5
      go_wp2_with fail
      refine hsm.mono ?_
      rintro e w3fe ⟨rfl,k7⟩
      have C1:=(HU4.out.below k7).conv
      have C2:=(HU5.out.below k7).conv
      have Be5:=Lib.hid (Be4.out.trans (k7.mono Be4.out.size))
      clear hsm k7 d0 HU4 HU5
      try simp only at C2
      have ca:=awake_any w3fe (HGV.out.on Be5.out)
      go_wp2_with fail
      refine ca.mono ?_
      rintro e wA ⟨rfl,kA⟩
      have hbA:=Be5.out.trans (kA.mono Be5.out.size)
      clear ca
      go_wp2_with fail
      go_ret
      exact ⟨rfl,hbA⟩
     ·have her':(ee == 0) = false:=by simp [her]
      have cm:=mayEntries_any _ es w3fa (HE.out.below Be1.out) HLE.out (HGV.out.on Be1.out).v
      have hor:=H2e.out her
      try simp only at hor
      rw [HMN.out] at cm
      rcases hor with e1 | ⟨e1,e2⟩
      ·rw [← e1] at cm
       have hee:(ee != ee) = false:=by simp
       clear her e1
       go_wp2_with fail
       refine cm.mono ?_
       rintro e w3ff ⟨rfl,k8⟩
       have Be6:=Lib.hid (Be1.out.trans (k8.mono Be1.out.size))
       clear cm k8
       have ca:=awake_any w3ff (HGV.out.on Be6.out)
       go_wp2_with fail
       refine ca.mono ?_
       rintro e wA ⟨rfl,kA⟩
       have hbA:=Be6.out.trans (kA.mono Be6.out.size)
       clear ca
       go_wp2_with fail
       go_ret
       exact ⟨rfl,hbA⟩
      ·subst e2
       rw [e1] at cm
       clear her e1
       go_wp2_with fail
       refine cm.mono ?_
       rintro e w3ff ⟨rfl,k8⟩
       have Be6:=Lib.hid (Be1.out.trans (k8.mono Be1.out.size))
       clear cm k8
       have ca:=awake_any w3ff (HGV.out.on Be6.out)
       go_wp2_with fail
       refine ca.mono ?_
       rintro e wA ⟨rfl,kA⟩
       have hbA:=Be6.out.trans (kA.mono Be6.out.size)
       clear ca
       go_wp2_with fail
       go_ret
       exact ⟨rfl,hbA⟩
end Rc
end Go.Proofs.YthmpepnikmdjpaaGreatDoor
namespace Go.Proofs.YthmpepnikmdjpaaGreatDoor
open Go Go.Lib Go.RowKit
set_option maxRecDepth 100000
set_option linter.unusedSimpArgs false
namespace Rl
open Ver (MaxLen Signs)
def listed : List (String × DataW Unit) := [("chandler/version.signs", Rows.laid_chandler_version_signs)]
theorem maxLen_of {w:World} (h:w.ShapedOpen Tryz.prog):MaxLen w :=
 cell_of_shapedOpen_int (P:=Tryz.prog) (g:=2) (t:=3) (zero:=#[.int .i64 0]) (k:=.i64) h (by decide +kernel) (by kernel_rfl) rfl (by kernel_rfl) (by kernel_rfl) Tryz.underlying3
theorem signs_of_laid {W:World} (h:laidMetH Tryz.prog listed W):Signs W:=by
 intro i hi
 rw [MakeChecks.laidMetH_plain _ _ _ (by kernel_rfl)] at h
 obtain ⟨g,t,cs,fuel,p,hg,hty,hvar,hd⟩:=Lib.laidMet.reads h (.head _)
 have hgn : Tryz.prog.globalNamed "chandler/version.signs" = some 1 := by kernel_rfl
 have htn:(Tryz.prog.globals[1]?).map (·.type) = some 177:=by kernel_rfl
 obtain rfl:=Option.some.inj (hgn.symm.trans hg)
 obtain rfl:=Option.some.inj (htn.symm.trans hty)
 have hu:Tryz.prog.underlying 177 = some (.array 6 9):=by kernel_rfl
 have hc:Tryz.prog.cellsOf 9 = 1:=by kernel_rfl
 obtain ⟨fuel',d,q,hdi,he⟩:=Lib.array_elem hu hd i hi
 obtain ⟨s,hs1,hs2,_⟩:=DataW.trod_string (by kernel_rfl:Tryz.prog.underlying 9 = some .string) he
 rw [hc,Nat.mul_one] at hs1
 have hcell:cs.toList[i]? = some (.string s):=by
  have:=congrArg (·[0]?) hs1
  simpa [List.getElem?_take,List.getElem?_drop] using this
 rw [World.var?_cell hg hvar i,← Array.getElem?_toList,hcell]
 simp only [Prod.mk.injEq] at hs2
 obtain ⟨rfl,_⟩:=hs2
 have hS:∀ l:List UInt8,s.data.toList = l → s = ⟨l.toArray⟩:=fun l e=>by
  apply ByteArray.ext
  rw [← e]
 have hcase:i = 0 ∨ i = 1 ∨ i = 2 ∨ i = 3 ∨ i = 4 ∨ i = 5:=by omega
 rcases hcase with rfl | rfl | rfl | rfl | rfl | rfl
 all_goals
  simp only [Rows.laid_chandler_version_signs,List.getElem?_cons_zero,List.getElem?_cons_succ,Option.some.injEq,DataW.lit.injEq,Lit.string.injEq] at hdi
  rw [hS _ hdi.symm]
  rfl
theorem vars_of {W:World} (hL:laidMetH Tryz.prog listed W) (hSh:W.ShapedOpen Tryz.prog):Vars W:=⟨maxLen_of hSh,signs_of_laid hL⟩
end Rl
end Go.Proofs.YthmpepnikmdjpaaGreatDoor
namespace Go.Proofs.YthmpepnikmdjpaaGreatDoor
open Go Go.Lib
set_option maxRecDepth 100000
namespace Txt
theorem accept_eq:(Rows.laid_unicode_utf8_acceptRanges:DataW Unit) = Lib.acceptData:=by kernel_rfl
theorem first_eq:Rows.laid_unicode_utf8_first = Lib.firstData:=Pinned.utf8First_eq
def listed : List (String × DataW Unit) := [("unicode/utf8.acceptRanges", Rows.laid_unicode_utf8_acceptRanges), ("unicode/utf8.first", Rows.laid_unicode_utf8_first)]
theorem tabs_of_laid {W:World} (h:laidMetH Tryz.prog listed W):Lib.Utf8Tabs 3 4 W:=by
 rw [MakeChecks.laidMetH_plain _ _ _ (by kernel_rfl)] at h
 have h1:=Lib.laidMet.reads h (.head _)
 have h2:=Lib.laidMet.reads h (.tail _ (.head _))
 rw [accept_eq] at h1
 rw [first_eq] at h2
 exact utf8Tabs_of_reads (ρ:=Tryz.lays197_ren) { Tryz.lays197 with } ⟨by kernel_rfl,by kernel_rfl,by kernel_rfl,by kernel_rfl,by kernel_rfl,by kernel_rfl,by kernel_rfl⟩ h2 h1
end Txt
end Go.Proofs.YthmpepnikmdjpaaGreatDoor
namespace Go.Proofs.YthmpepnikmdjpaaGreatDoor
open Go Go.Lib Go.RowKit
set_option maxRecDepth 100000
set_option linter.unusedSimpArgs false
namespace Rc
def listed : List (String × DataW Unit) := [("unicode/utf8.acceptRanges", Rows.laid_unicode_utf8_acceptRanges), ("chandler/version.signs", Rows.laid_chandler_version_signs), ("chandler/record.names", Rows.laid_chandler_record_names), ("unicode/utf8.first", Rows.laid_unicode_utf8_first)]
theorem rl_of {W:World} (h:laidMetH Tryz.prog listed W):laidMetH Tryz.prog Rl.listed W :=
 h.filter (fun x => x.1 == "chandler/version.signs")
theorem txt_of {W:World} (h:laidMetH Tryz.prog listed W):laidMetH Tryz.prog Txt.listed W :=
 h.filter (fun x => x.1 == "unicode/utf8.acceptRanges" || x.1 == "unicode/utf8.first")
theorem nms_of {W:World} (h:laidMetH Tryz.prog listed W):Nms W:=by
 intro i hi
 rw [MakeChecks.laidMetH_plain _ _ _ (by kernel_rfl)] at h
 obtain ⟨g, t, cs, fuel, p, hg, hty, hvar, hd⟩ := Lib.laidMet.reads h (n := "chandler/record.names") (d := Rows.laid_chandler_record_names) (.tail _ (.tail _ (.head _)))
 have hgn : Tryz.prog.globalNamed "chandler/record.names" = some 0 := by kernel_rfl
 have htn:(Tryz.prog.globals[0]?).map (·.type) = some 163:=by kernel_rfl
 obtain rfl:=Option.some.inj (hgn.symm.trans hg)
 obtain rfl:=Option.some.inj (htn.symm.trans hty)
 have hu:Tryz.prog.underlying 163 = some (.array 11 9):=by kernel_rfl
 have hc:Tryz.prog.cellsOf 9 = 1:=by kernel_rfl
 obtain ⟨fuel',d,q,hdi,he⟩:=Lib.array_elem hu hd i hi
 obtain ⟨s,hs1,hs2,_⟩:=DataW.trod_string (by kernel_rfl:Tryz.prog.underlying 9 = some .string) he
 rw [hc,Nat.mul_one] at hs1
 have hcell:cs.toList[i]? = some (.string s):=by
  have:=congrArg (·[0]?) hs1
  simpa [List.getElem?_take,List.getElem?_drop] using this
 rw [World.var?_cell hg hvar i,← Array.getElem?_toList,hcell]
 simp only [Prod.mk.injEq] at hs2
 obtain ⟨rfl,_⟩:=hs2
 have hS:∀ l:List UInt8,s.data.toList = l → s = ⟨l.toArray⟩:=fun l e=>by
  apply ByteArray.ext
  rw [← e]
 have hcase:i = 0 ∨ i = 1 ∨ i = 2 ∨ i = 3 ∨ i = 4 ∨ i = 5 ∨ i = 6 ∨ i = 7 ∨ i = 8 ∨ i = 9 ∨ i = 10:=by omega
 rcases hcase with rfl | rfl | rfl | rfl | rfl | rfl | rfl | rfl | rfl | rfl | rfl
 all_goals
  simp only [Rows.laid_chandler_record_names,List.getElem?_cons_zero,List.getElem?_cons_succ,Option.some.injEq,DataW.lit.injEq,Lit.string.injEq] at hdi
  rw [hS _ hdi.symm]
  rfl
theorem gl_of {W:World} (hL:laidMetH Tryz.prog listed W) (hSh:W.ShapedOpen Tryz.prog):Gl W :=
 ⟨Rl.vars_of (rl_of hL) hSh,nms_of hL,Txt.tabs_of_laid (txt_of hL)⟩
end Rc
end Go.Proofs.YthmpepnikmdjpaaGreatDoor
namespace Go.Proofs.YthmpepnikmdjpaaGreatDoor
open Go Go.Lib Go.RowKit
set_option maxRecDepth 100000
set_option linter.unusedSimpArgs false
namespace Va
def listed : List (String × DataW Unit) := [("math/bits.deBruijn32tab", Rows.laid_math_bits_deBruijn32tab), ("math/bits.deBruijn64tab", Rows.laid_math_bits_deBruijn64tab), ("internal/strconv.uint64pow10", Rows.laid_internal_strconv_uint64pow10), ("chandler/version.signs", Rows.laid_chandler_version_signs)]
theorem rl_of {W:World} (h:laidMetH Tryz.prog listed W):laidMetH Tryz.prog Rl.listed W :=
 h.filter (fun x => x.1 == "chandler/version.signs")
theorem pow_of {W:World} (h:laidMetH Tryz.prog listed W):Pow W:=by
 rw [MakeChecks.laidMetH_plain _ _ _ (by kernel_rfl)] at h
 obtain ⟨g, t, cs, fuel, p, hg, hty, hvar, hd⟩ := Lib.laidMet.reads h (n := "internal/strconv.uint64pow10") (d := Rows.laid_internal_strconv_uint64pow10) (.tail _ (.tail _ (.head _)))
 have hgn : Tryz.prog.globalNamed "internal/strconv.uint64pow10" = some 5 := by kernel_rfl
 have htn:(Tryz.prog.globals[5]?).map (·.type) = some 309:=by kernel_rfl
 obtain rfl:=Option.some.inj (hgn.symm.trans hg)
 obtain rfl:=Option.some.inj (htn.symm.trans hty)
 have hu:Tryz.prog.underlying 309 = some (.array 20 66):=by kernel_rfl
 have he:Tryz.prog.underlying 66 = some (.int .u64):=by kernel_rfl
 have hc:Tryz.prog.cellsOf 66 = 1:=by kernel_rfl
 have hct:Tryz.prog.cellsOf 309 = 20:=by kernel_rfl
 unfold Pow TabIs
 rw [hvar]
 have hk:Rows.laid_internal_strconv_uint64pow10 = (tabData .u64 pow10Tab:DataW Unit):=by rfl
 rw [hk] at hd
 rw [← cells_of_tab hu he hc hct hd]
end Va
end Go.Proofs.YthmpepnikmdjpaaGreatDoor
namespace Go.Proofs.YthmpepnikmdjpaaGreatDoor
open Go Go.Lib Go.RowKit
set_option maxRecDepth 100000
set_option linter.unusedSimpArgs false
namespace Rc
def listed2 : List (String × DataW Unit) := [("math/bits.deBruijn32tab", Rows.laid_math_bits_deBruijn32tab), ("math/bits.deBruijn64tab", Rows.laid_math_bits_deBruijn64tab), ("internal/strconv.uint64pow10", Rows.laid_internal_strconv_uint64pow10), ("unicode/utf8.acceptRanges", Rows.laid_unicode_utf8_acceptRanges), ("chandler/version.signs", Rows.laid_chandler_version_signs), ("chandler/record.names", Rows.laid_chandler_record_names), ("unicode/utf8.first", Rows.laid_unicode_utf8_first)]
theorem rc_of {W:World} (h:laidMetH Tryz.prog listed2 W):laidMetH Tryz.prog listed W :=
 h.filter (fun x => x.1 == "unicode/utf8.acceptRanges" || x.1 == "chandler/version.signs" || x.1 == "chandler/record.names" || x.1 == "unicode/utf8.first")
theorem va_of {W:World} (h:laidMetH Tryz.prog listed2 W):laidMetH Tryz.prog Va.listed W :=
 h.filter (fun x => x.1 == "math/bits.deBruijn32tab" || x.1 == "math/bits.deBruijn64tab" || x.1 == "internal/strconv.uint64pow10" || x.1 == "chandler/version.signs")
structure GlP (w:World):Prop where
 g:Gl w
 p:Va.Pow w
theorem glp_of {W:World} (hL:laidMetH Tryz.prog listed2 W) (hSh:W.ShapedOpen Tryz.prog):GlP W:=⟨gl_of (rc_of hL) hSh,Va.pow_of (va_of hL)⟩
end Rc
end Go.Proofs.YthmpepnikmdjpaaGreatDoor

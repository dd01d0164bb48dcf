/-
wrongAt, Wrong: what is wrong with entries.
-/
import Derived.Test.YtgpcilepkmckeaaGreatDoorEStaCla
namespace Go.Proofs.YtgpcilepkmckeaaGreatDoor
open Go.RowKit
set_option linter.unusedSimpArgs false
set_option linter.unusedVariables false
namespace Sa
open Ver (Bs li li_len S S_self S_size S_li)
open Rl (At Pv Ats Pvs Clss Slc LimA LimP LimC Vars aV nA mem_getD)
open Rc (Pk nPk PkV PkB Has En nEn Ens EnC CAt en_read)
set_option maxRecDepth 100000 in
set_option maxHeartbeats 16000000 in
theorem wrongAt_any (v1:Value) (s:List En) (p:Nat) (w:World) (h:Ens w v1 s) (hL:LimS s) (hv:Vars w) (hF:Few s) (hp:p < s.length) :
  Calls Tryz.prog 40 #[v1,.int .i64 (p:Int)] w fun e w'=>∃ v',e = .returned v' ∧ w'.ownsRow w.heap.size 58 5 v' (wrA s p).length (vcells (wrA s p)) ∧ Below w.heap.size w w':=by
 obtain ⟨hs0,sa,scap,rfl,hscap,hcells0⟩:=id h
 obtain ⟨kb,off,rfl,hat⟩:=hcells0 (by omega)
 obtain ⟨a1,n1,c1,a2,n2,c2,a3,n3,c3,a4,n4,c4,a5,n5,c5,a6,n6,c6,⟨x0,x1,x2,x3,x4,x5,x6,x7,x8,x9,x10⟩,hh⟩:=en_read (hat p hp)
 rw [Nat.mul_comm 11 p] at x0 x1 x2 x3 x4 x5 x6 x7 x8 x9 x10
 have hmem:=mem_getD (z:=nEn) hp
 have hlim:=hL _ hmem
 have f1:=hF.pre _ hmem
 have f2:=hF.dep _ hmem
 have f3:=hF.con _ hmem
 have f4:=hF.len
 have hw:wrA s p = unm s (s.getD p nEn).pk.pre (s.getD p nEn).pk.nm true ++ ((if (s.getD p nEn).cfg = true then unm s (s.getD p nEn).pk.dep (s.getD p nEn).pk.nm false else []) ++ (cla s p (s.getD p nEn).pk.con 2 ++ cla s p (s.getD p nEn).pk.brk 3)):=rfl
 obtain ⟨x,hx⟩:∃ x,s.getD p nEn = x:=⟨_,rfl⟩
 rw [hx] at x0 x1 x8 x9 x10 hh hlim f1 f2 f3 hw
 have hb1:=(Below.refl w.heap.size w).alloc (Nat.le_refl _) (.cells #[.string (S x.pk.nm),.string (S x.pk.vs),.slice a1 n1 c1,.slice a2 n2 c2,.slice a3 n3 c3,.slice a4 n4 c4,.slice a5 n5 c5,.slice a6 n6 c6,.bool x.pk.ess,.bool x.cfg,.bool x.hld] 45)
 have i1:=Blk.Is.new w 45 #[.string (S x.pk.nm),.string (S x.pk.vs),.slice a1 n1 c1,.slice a2 n2 c2,.slice a3 n3 c3,.slice a4 n4 c4,.slice a5 n5 c5,.slice a6 n6 c6,.bool x.pk.ess,.bool x.cfg,.bool x.hld]
 obtain ⟨W,hW⟩:∃ W,w.alloc (.cells #[.string (S x.pk.nm),.string (S x.pk.vs),.slice a1 n1 c1,.slice a2 n2 c2,.slice a3 n3 c3,.slice a4 n4 c4,.slice a5 n5 c5,.slice a6 n6 c6,.bool x.pk.ess,.bool x.cfg,.bool x.hld] 45) = W:=⟨_,rfl⟩
 rw [hW] at hb1 i1
 have y0:=i1.at (i:=0) rfl
 have y1:=i1.at (i:=1) rfl
 have y2:=i1.at (i:=2) rfl
 have H:=Lib.hid h
 have HH:=Lib.hid hh
 have HL:=Lib.hid hL
 have HLX:=Lib.hid hlim
 have HV:=Lib.hid hv
 have HP:=Lib.hid hp
 have F:=Lib.hid (⟨f1,f2,f3,f4⟩:x.pk.pre.length ≤ 20 ∧ x.pk.dep.length ≤ 20 ∧ x.pk.con.length + x.pk.brk.length ≤ 50 ∧ s.length ≤ 26)
 have ca:=unmet_any _ _ s x.pk.pre x.pk.nm true W (h.below hb1) (hh.pre.below hb1) hL hlim.pre (hv.on hb1) f1
 obtain ⟨L,hLe⟩:∃ L,unm s x.pk.pre x.pk.nm true = L:=⟨_,rfl⟩
 have HM0:=Lib.hid (show L.length ≤ 20 by rw [← hLe]; exact Nat.le_trans (unm_len _ _ _ _ _) f1)
 rw [hLe] at ca hw
 obtain ⟨G,hG⟩:∃ G,wrA s p = G:=⟨_,rfl⟩
 rw [hG] at hw ⊢
 have HWG:=Lib.hid hw
 have HB1:=Lib.hid hb1
 have I1:=Lib.hid i1
 obtain ⟨sn,hsn⟩:∃ sn,s.length = sn:=⟨_,rfl⟩
 rw [hsn] at H ca hp
 have hp0:(0:Int) ≤ p:=by omega
 have hpn:(p:Int) < (sn:Int):=by omega
 rw [hsn]
 have hu:=hW
 clear hs0 hscap hcells0 hat hh hmem hlim f1 f2 f3 f4 hw hx hb1 i1 hW h hL hv hF hp hLe hG hsn
 go_enter Tryz.func40,Tryz.ntmps40
 go_wp2_with fail
 refine ca.mono ?_
 rintro e w1 ⟨v1,rfl,o1,k1⟩
 obtain ⟨ra1,rc1,rfl,_⟩:=Rl.own_shape o1
 have O1:Hid (w1.ownsRow w.heap.size 58 5 (.slice ra1 L.length rc1) L.length (vcells L)):=Lib.hid (Rl.own_mono o1 HB1.out.size)
 have B1:=Lib.hid (HB1.out.trans (k1.mono HB1.out.size))
 have II:=Lib.hid (Rl.is_on I1.out k1)
 obtain ⟨m1,hm⟩:∃ m,L.length = m:=⟨_,rfl⟩
 obtain ⟨XS1,hXS⟩:∃ XS,vcells L = XS:=⟨_,rfl⟩
 rw [hm,hXS] at O1
 rw [hm]
 have E1:Hid (m1 = L.length ∧ XS1 = vcells L):=Lib.hid ⟨hm.symm,hXS.symm⟩
 have M1:Hid (m1 ≤ 20):=Lib.hid (by rw [← hm]; exact HM0.out)
 have q9:=II.out.at (i:=9) rfl
 clear ca o1 k1 HB1 HM0 hm hXS hu y0 y1 y2 x0 x1 x2 x3 x4 x5 x6 x7 x8 x9 x10 I1
 have I1:=II
 clear II
 cases hcf:x.cfg with
 | true =>
  rw [hcf] at q9 I1 HWG
  rw [if_pos rfl] at HWG
  clear hcf
  have ca:=unmet_any _ _ s x.pk.dep x.pk.nm false _ (H.out.below B1.out) (HH.out.dep.below B1.out) HL.out HLX.out.dep (HV.out.on B1.out) F.out.2.1
  obtain ⟨Z2,hZ⟩:∃ Z,unm s x.pk.dep x.pk.nm false = Z:=⟨_,rfl⟩
  have HZL:=Lib.hid (show Z2.length ≤ 1300 by rw [← hZ]; exact Nat.le_trans (unm_len _ _ _ _ _) (Nat.le_trans F.out.2.1 (by omega)))
  rw [hZ] at ca
  have HZ2:=Lib.hid hZ
  obtain ⟨mb,hmb⟩:∃ mb,Z2.length = mb:=⟨_,rfl⟩
  rw [hmb] at ca
  obtain ⟨YS,hYS⟩:∃ YS,vcells Z2 = YS:=⟨_,rfl⟩
  rw [hYS] at ca
  have HEB:Hid (mb = Z2.length ∧ YS = vcells Z2):=Lib.hid ⟨hmb.symm,hYS.symm⟩
  have y0:=I1.out.at (i:=0) rfl
  have y3:=I1.out.at (i:=3) rfl
  have y5:=I1.out.at (i:=5) rfl
  have y6:=I1.out.at (i:=6) rfl
  clear hZ hmb hYS
  go_wp2_with fail
  refine ca.mono ?_
  rintro e wz ⟨vb,rfl,ob,kz⟩
  obtain ⟨rb,rcb,rfl,_⟩:=Rl.own_shape ob
  have OA:=Lib.hid (Own.owns_below O1.out kz)
  have OB:=Lib.hid ob
  have BA:=Lib.hid (B1.out.trans (kz.mono B1.out.size))
  have BZ:=Lib.hid (Nat.le_trans B1.out.size kz.size)
  have IA:=Lib.hid (Rl.is_on I1.out kz)
  have K70:Hid (m1 + mb ≤ 70000):=Lib.hid (by have h1:=M1.out; have h2:=HZL.out; have h3:=HEB.out.1; omega)
  clear ca ob kz y0 y3 y5 y6 O1 B1 I1
  go_wp2_with (at_builtin; refine append_row rfl (.tmp 22) (.tmp 31) rfl w.heap.size (.slice ra1 m1 rc1) m1 XS1 rfl OA.out _ (.slice rb mb rcb) mb _ rfl OB.out (by rw [HEB.out.2]; exact vcells_one _) K70.out BZ.out ?_; intro v9 w2 h9 g9; have b9:=Own.below_grown BA.out OA.out g9 BZ.out; have c9:=Blk.Chg.grown (S:=fun q=>Value.ownBlock (.slice ra1 m1 rc1) = some q) (Blk.Chg.refl _ _) g9 (fun q hq _=>hq); have i9:=c9.is IA.out (not_row IA.out (by decide) OA.out); obtain ⟨ra2,rc2,rfl,_⟩:=Rl.own_shape h9; obtain ⟨m2,hmj⟩:∃ q,m1 + mb = q:=⟨_,rfl⟩; obtain ⟨XS2,hxj⟩:∃ q,XS1 ++ YS = q:=⟨_,rfl⟩; rw [hmj,hxj] at h9; rw [hmj]; have HMJ:=Lib.hid hmj; have HXJ:=Lib.hid hxj; have O2:=Lib.hid h9; have B2:=Lib.hid b9; have I2:=Lib.hid i9; have y5:=i9.at (i:=5) rfl; have y6:=i9.at (i:=6) rfl; clear h9 g9 b9 c9 i9 hmj hxj)
  have E2:Hid (m2 = (L ++ Z2).length ∧ XS2 = vcells (L ++ Z2)):=Lib.hid (by
   rw [List.length_append,vcells_app,← E1.out.1,← E1.out.2,← HEB.out.1,← HEB.out.2,HMJ.out,HXJ.out]; exact ⟨rfl,rfl⟩)
  have M2:Hid (m2 ≤ 1320):=Lib.hid (by have h1:=M1.out; have h2:=HZL.out; have h3:=HEB.out.1; have h4:=HMJ.out; omega)
  clear OA OB BA BZ IA K70 HZL HEB HMJ HXJ E1 M1
  clear q9
  have ca:=clashes2_any _ _ s p x.pk.con _ (H.out.below B2.out) (HH.out.con.below B2.out) HL.out HLX.out.con (HV.out.on B2.out) F.out.2.2.2 (by have:=F.out.2.2.1; omega) HP.out
  obtain ⟨Z3,hZ⟩:∃ Z,cla s p x.pk.con 2 = Z:=⟨_,rfl⟩
  have HZL:=Lib.hid (show Z3.length ≤ 1300 by rw [← hZ]; exact (by have h1:=claN_len s p x.pk.con 2 x.pk.con.length; have h2:x.pk.con.length * s.length ≤ 50 * 26:=Nat.mul_le_mul (by have:=F.out.2.2.1; omega) F.out.2.2.2; unfold cla; omega))
  rw [hZ] at ca
  have HZ3:=Lib.hid hZ
  obtain ⟨mb,hmb⟩:∃ mb,Z3.length = mb:=⟨_,rfl⟩
  rw [hmb] at ca
  obtain ⟨YS,hYS⟩:∃ YS,vcells Z3 = YS:=⟨_,rfl⟩
  rw [hYS] at ca
  have HEB:Hid (mb = Z3.length ∧ YS = vcells Z3):=Lib.hid ⟨hmb.symm,hYS.symm⟩
  skip
  clear hZ hmb hYS
  skip
  refine ca.mono ?_
  rintro e wz ⟨vb,rfl,ob,kz⟩
  obtain ⟨rb,rcb,rfl,_⟩:=Rl.own_shape ob
  have OA:=Lib.hid (Own.owns_below O2.out kz)
  have OB:=Lib.hid ob
  have BA:=Lib.hid (B2.out.trans (kz.mono B2.out.size))
  have BZ:=Lib.hid (Nat.le_trans B2.out.size kz.size)
  have IA:=Lib.hid (Rl.is_on I2.out kz)
  have K70:Hid (m2 + mb ≤ 70000):=Lib.hid (by have h1:=M2.out; have h2:=HZL.out; have h3:=HEB.out.1; omega)
  clear ca ob kz  y5 y6 O2 B2 I2
  go_wp2_with (at_builtin; refine append_row rfl (.tmp 33) (.tmp 39) rfl w.heap.size (.slice ra2 m2 rc2) m2 XS2 rfl OA.out _ (.slice rb mb rcb) mb _ rfl OB.out (by rw [HEB.out.2]; exact vcells_one _) K70.out BZ.out ?_; intro v9 w3 h9 g9; have b9:=Own.below_grown BA.out OA.out g9 BZ.out; have c9:=Blk.Chg.grown (S:=fun q=>Value.ownBlock (.slice ra2 m2 rc2) = some q) (Blk.Chg.refl _ _) g9 (fun q hq _=>hq); have i9:=c9.is IA.out (not_row IA.out (by decide) OA.out); obtain ⟨ra3,rc3,rfl,_⟩:=Rl.own_shape h9; obtain ⟨m3,hmj⟩:∃ q,m2 + mb = q:=⟨_,rfl⟩; obtain ⟨XS3,hxj⟩:∃ q,XS2 ++ YS = q:=⟨_,rfl⟩; rw [hmj,hxj] at h9; rw [hmj]; have HMJ:=Lib.hid hmj; have HXJ:=Lib.hid hxj; have O3:=Lib.hid h9; have B3:=Lib.hid b9; have I3:=Lib.hid i9; have y5:=i9.at (i:=5) rfl; have y6:=i9.at (i:=6) rfl; clear h9 g9 b9 c9 i9 hmj hxj)
  have E3:Hid (m3 = ((L ++ Z2) ++ Z3).length ∧ XS3 = vcells ((L ++ Z2) ++ Z3)):=Lib.hid (by
   rw [List.length_append,vcells_app,← E2.out.1,← E2.out.2,← HEB.out.1,← HEB.out.2,HMJ.out,HXJ.out]; exact ⟨rfl,rfl⟩)
  have M3:Hid (m3 ≤ 2620):=Lib.hid (by have h1:=M2.out; have h2:=HZL.out; have h3:=HEB.out.1; have h4:=HMJ.out; omega)
  clear OA OB BA BZ IA K70 HZL HEB HMJ HXJ E2 M2
  have ca:=clashes3_any _ _ s p x.pk.brk _ (H.out.below B3.out) (HH.out.brk.below B3.out) HL.out HLX.out.brk (HV.out.on B3.out) F.out.2.2.2 (by have:=F.out.2.2.1; omega) HP.out
  obtain ⟨Z4,hZ⟩:∃ Z,cla s p x.pk.brk 3 = Z:=⟨_,rfl⟩
  have HZL:=Lib.hid (show Z4.length ≤ 1300 by rw [← hZ]; exact (by have h1:=claN_len s p x.pk.brk 3 x.pk.brk.length; have h2:x.pk.brk.length * s.length ≤ 50 * 26:=Nat.mul_le_mul (by have:=F.out.2.2.1; omega) F.out.2.2.2; unfold cla; omega))
  rw [hZ] at ca
  have HZ4:=Lib.hid hZ
  obtain ⟨mb,hmb⟩:∃ mb,Z4.length = mb:=⟨_,rfl⟩
  rw [hmb] at ca
  obtain ⟨YS,hYS⟩:∃ YS,vcells Z4 = YS:=⟨_,rfl⟩
  rw [hYS] at ca
  have HEB:Hid (mb = Z4.length ∧ YS = vcells Z4):=Lib.hid ⟨hmb.symm,hYS.symm⟩
  skip
  clear hZ hmb hYS
  skip
  refine ca.mono ?_
  rintro e wz ⟨vb,rfl,ob,kz⟩
  obtain ⟨rb,rcb,rfl,_⟩:=Rl.own_shape ob
  have OA:=Lib.hid (Own.owns_below O3.out kz)
  have OB:=Lib.hid ob
  have BA:=Lib.hid (B3.out.trans (kz.mono B3.out.size))
  have BZ:=Lib.hid (Nat.le_trans B3.out.size kz.size)
  have IA:=Lib.hid (Rl.is_on I3.out kz)
  have K70:Hid (m3 + mb ≤ 70000):=Lib.hid (by have h1:=M3.out; have h2:=HZL.out; have h3:=HEB.out.1; omega)
  clear ca ob kz  y5 y6 O3 B3 I3
  go_wp2_with (at_builtin; refine append_row rfl (.tmp 41) (.tmp 47) rfl w.heap.size (.slice ra3 m3 rc3) m3 XS3 rfl OA.out _ (.slice rb mb rcb) mb _ rfl OB.out (by rw [HEB.out.2]; exact vcells_one _) K70.out BZ.out ?_; intro v9 w4 h9 g9; have b9:=Own.below_grown BA.out OA.out g9 BZ.out; have c9:=Blk.Chg.grown (S:=fun q=>Value.ownBlock (.slice ra3 m3 rc3) = some q) (Blk.Chg.refl _ _) g9 (fun q hq _=>hq); have i9:=c9.is IA.out (not_row IA.out (by decide) OA.out); obtain ⟨ra4,rc4,rfl,_⟩:=Rl.own_shape h9; obtain ⟨m4,hmj⟩:∃ q,m3 + mb = q:=⟨_,rfl⟩; obtain ⟨XS4,hxj⟩:∃ q,XS3 ++ YS = q:=⟨_,rfl⟩; rw [hmj,hxj] at h9; rw [hmj]; have HMJ:=Lib.hid hmj; have HXJ:=Lib.hid hxj; have O4:=Lib.hid h9; have B4:=Lib.hid b9; have I4:=Lib.hid i9; have y5:=i9.at (i:=5) rfl; have y6:=i9.at (i:=6) rfl; clear h9 g9 b9 c9 i9 hmj hxj)
  have E4:Hid (m4 = ((L ++ Z2 ++ Z3) ++ Z4).length ∧ XS4 = vcells ((L ++ Z2 ++ Z3) ++ Z4)):=Lib.hid (by
   rw [List.length_append,vcells_app,← E3.out.1,← E3.out.2,← HEB.out.1,← HEB.out.2,HMJ.out,HXJ.out]; exact ⟨rfl,rfl⟩)
  have M4:Hid (m4 ≤ 3920):=Lib.hid (by have h1:=M3.out; have h2:=HZL.out; have h3:=HEB.out.1; have h4:=HMJ.out; omega)
  clear OA OB BA BZ IA K70 HZL HEB HMJ HXJ E3 M3
  have OF:Hid (w4.ownsRow w.heap.size 58 5 (.slice ra4 m4 rc4) G.length (vcells G)):=by
   have h:=O4.out
   rw [E4.out.2] at h
   have e:G = (L ++ Z2 ++ Z3 ++ Z4):=by rw [HWG.out,HZ2.out,HZ3.out,HZ4.out]; simp only [List.append_assoc]
   rw [e,← E4.out.1]
   exact h
  go_ret
  exact ⟨_,rfl,OF.out,B4.out⟩
 | false =>
  rw [hcf] at q9 I1 HWG
  rw [if_neg (by simp),List.nil_append] at HWG
  clear hcf
  have ca:=clashes2_any _ _ s p x.pk.con _ (H.out.below B1.out) (HH.out.con.below B1.out) HL.out HLX.out.con (HV.out.on B1.out) F.out.2.2.2 (by have:=F.out.2.2.1; omega) HP.out
  obtain ⟨Z2,hZ⟩:∃ Z,cla s p x.pk.con 2 = Z:=⟨_,rfl⟩
  have HZL:=Lib.hid (show Z2.length ≤ 1300 by rw [← hZ]; exact (by have h1:=claN_len s p x.pk.con 2 x.pk.con.length; have h2:x.pk.con.length * s.length ≤ 50 * 26:=Nat.mul_le_mul (by have:=F.out.2.2.1; omega) F.out.2.2.2; unfold cla; omega))
  rw [hZ] at ca
  have HZ2:=Lib.hid hZ
  obtain ⟨mb,hmb⟩:∃ mb,Z2.length = mb:=⟨_,rfl⟩
  rw [hmb] at ca
  obtain ⟨YS,hYS⟩:∃ YS,vcells Z2 = YS:=⟨_,rfl⟩
  rw [hYS] at ca
  have HEB:Hid (mb = Z2.length ∧ YS = vcells Z2):=Lib.hid ⟨hmb.symm,hYS.symm⟩
  have y0:=I1.out.at (i:=0) rfl
  have y3:=I1.out.at (i:=3) rfl
  have y5:=I1.out.at (i:=5) rfl
  have y6:=I1.out.at (i:=6) rfl
  clear hZ hmb hYS
  go_wp2_with fail
  refine ca.mono ?_
  rintro e wz ⟨vb,rfl,ob,kz⟩
  obtain ⟨rb,rcb,rfl,_⟩:=Rl.own_shape ob
  have OA:=Lib.hid (Own.owns_below O1.out kz)
  have OB:=Lib.hid ob
  have BA:=Lib.hid (B1.out.trans (kz.mono B1.out.size))
  have BZ:=Lib.hid (Nat.le_trans B1.out.size kz.size)
  have IA:=Lib.hid (Rl.is_on I1.out kz)
  have K70:Hid (m1 + mb ≤ 70000):=Lib.hid (by have h1:=M1.out; have h2:=HZL.out; have h3:=HEB.out.1; omega)
  clear ca ob kz y0 y3 y5 y6 O1 B1 I1
  go_wp2_with (at_builtin; refine append_row rfl (.tmp 33) (.tmp 39) rfl w.heap.size (.slice ra1 m1 rc1) m1 XS1 rfl OA.out _ (.slice rb mb rcb) mb _ rfl OB.out (by rw [HEB.out.2]; exact vcells_one _) K70.out BZ.out ?_; intro v9 w2 h9 g9; have b9:=Own.below_grown BA.out OA.out g9 BZ.out; have c9:=Blk.Chg.grown (S:=fun q=>Value.ownBlock (.slice ra1 m1 rc1) = some q) (Blk.Chg.refl _ _) g9 (fun q hq _=>hq); have i9:=c9.is IA.out (not_row IA.out (by decide) OA.out); obtain ⟨ra2,rc2,rfl,_⟩:=Rl.own_shape h9; obtain ⟨m2,hmj⟩:∃ q,m1 + mb = q:=⟨_,rfl⟩; obtain ⟨XS2,hxj⟩:∃ q,XS1 ++ YS = q:=⟨_,rfl⟩; rw [hmj,hxj] at h9; rw [hmj]; have HMJ:=Lib.hid hmj; have HXJ:=Lib.hid hxj; have O2:=Lib.hid h9; have B2:=Lib.hid b9; have I2:=Lib.hid i9; have y5:=i9.at (i:=5) rfl; have y6:=i9.at (i:=6) rfl; clear h9 g9 b9 c9 i9 hmj hxj)
  have E2:Hid (m2 = (L ++ Z2).length ∧ XS2 = vcells (L ++ Z2)):=Lib.hid (by
   rw [List.length_append,vcells_app,← E1.out.1,← E1.out.2,← HEB.out.1,← HEB.out.2,HMJ.out,HXJ.out]; exact ⟨rfl,rfl⟩)
  have M2:Hid (m2 ≤ 2620):=Lib.hid (by have h1:=M1.out; have h2:=HZL.out; have h3:=HEB.out.1; have h4:=HMJ.out; omega)
  clear OA OB BA BZ IA K70 HZL HEB HMJ HXJ E1 M1
  clear q9
  have ca:=clashes3_any _ _ s p x.pk.brk _ (H.out.below B2.out) (HH.out.brk.below B2.out) HL.out HLX.out.brk (HV.out.on B2.out) F.out.2.2.2 (by have:=F.out.2.2.1; omega) HP.out
  obtain ⟨Z3,hZ⟩:∃ Z,cla s p x.pk.brk 3 = Z:=⟨_,rfl⟩
  have HZL:=Lib.hid (show Z3.length ≤ 1300 by rw [← hZ]; exact (by have h1:=claN_len s p x.pk.brk 3 x.pk.brk.length; have h2:x.pk.brk.length * s.length ≤ 50 * 26:=Nat.mul_le_mul (by have:=F.out.2.2.1; omega) F.out.2.2.2; unfold cla; omega))
  rw [hZ] at ca
  have HZ3:=Lib.hid hZ
  obtain ⟨mb,hmb⟩:∃ mb,Z3.length = mb:=⟨_,rfl⟩
  rw [hmb] at ca
  obtain ⟨YS,hYS⟩:∃ YS,vcells Z3 = YS:=⟨_,rfl⟩
  rw [hYS] at ca
  have HEB:Hid (mb = Z3.length ∧ YS = vcells Z3):=Lib.hid ⟨hmb.symm,hYS.symm⟩
  skip
  clear hZ hmb hYS
  skip
  refine ca.mono ?_
  rintro e wz ⟨vb,rfl,ob,kz⟩
  obtain ⟨rb,rcb,rfl,_⟩:=Rl.own_shape ob
  have OA:=Lib.hid (Own.owns_below O2.out kz)
  have OB:=Lib.hid ob
  have BA:=Lib.hid (B2.out.trans (kz.mono B2.out.size))
  have BZ:=Lib.hid (Nat.le_trans B2.out.size kz.size)
  have IA:=Lib.hid (Rl.is_on I2.out kz)
  have K70:Hid (m2 + mb ≤ 70000):=Lib.hid (by have h1:=M2.out; have h2:=HZL.out; have h3:=HEB.out.1; omega)
  clear ca ob kz  y5 y6 O2 B2 I2
  go_wp2_with (at_builtin; refine append_row rfl (.tmp 41) (.tmp 47) rfl w.heap.size (.slice ra2 m2 rc2) m2 XS2 rfl OA.out _ (.slice rb mb rcb) mb _ rfl OB.out (by rw [HEB.out.2]; exact vcells_one _) K70.out BZ.out ?_; intro v9 w3 h9 g9; have b9:=Own.below_grown BA.out OA.out g9 BZ.out; have c9:=Blk.Chg.grown (S:=fun q=>Value.ownBlock (.slice ra2 m2 rc2) = some q) (Blk.Chg.refl _ _) g9 (fun q hq _=>hq); have i9:=c9.is IA.out (not_row IA.out (by decide) OA.out); obtain ⟨ra3,rc3,rfl,_⟩:=Rl.own_shape h9; obtain ⟨m3,hmj⟩:∃ q,m2 + mb = q:=⟨_,rfl⟩; obtain ⟨XS3,hxj⟩:∃ q,XS2 ++ YS = q:=⟨_,rfl⟩; rw [hmj,hxj] at h9; rw [hmj]; have HMJ:=Lib.hid hmj; have HXJ:=Lib.hid hxj; have O3:=Lib.hid h9; have B3:=Lib.hid b9; have I3:=Lib.hid i9; have y5:=i9.at (i:=5) rfl; have y6:=i9.at (i:=6) rfl; clear h9 g9 b9 c9 i9 hmj hxj)
  have E3:Hid (m3 = ((L ++ Z2) ++ Z3).length ∧ XS3 = vcells ((L ++ Z2) ++ Z3)):=Lib.hid (by
   rw [List.length_append,vcells_app,← E2.out.1,← E2.out.2,← HEB.out.1,← HEB.out.2,HMJ.out,HXJ.out]; exact ⟨rfl,rfl⟩)
  have M3:Hid (m3 ≤ 3920):=Lib.hid (by have h1:=M2.out; have h2:=HZL.out; have h3:=HEB.out.1; have h4:=HMJ.out; omega)
  clear OA OB BA BZ IA K70 HZL HEB HMJ HXJ E2 M2
  have OF:Hid (w3.ownsRow w.heap.size 58 5 (.slice ra3 m3 rc3) G.length (vcells G)):=by
   have h:=O3.out
   rw [E3.out.2] at h
   have e:G = (L ++ Z2 ++ Z3):=by rw [HWG.out,HZ2.out,HZ3.out]; simp only [List.append_assoc]
   rw [e,← E3.out.1]
   exact h
  go_ret
  exact ⟨_,rfl,OF.out,B3.out⟩
set_option maxRecDepth 100000 in
set_option maxHeartbeats 8000000 in
theorem wrong_any (v1:Value) (s:List En) (w:World) (h:Ens w v1 s) (hL:LimS s) (hv:Vars w) (hF:Few s) :
  Calls Tryz.prog 21 #[v1] w fun e w'=>∃ v',e = .returned v' ∧ w'.ownsRow w.heap.size 58 5 v' (Sa.wr s).length (vcells (Sa.wr s)) ∧ Below w.heap.size w w':=by
 obtain ⟨sa,scap,rfl⟩:=h.shape
 have H:=Lib.hid h
 have HL:=Lib.hid hL
 have HV:=Lib.hid hv
 have HF:=Lib.hid hF
 obtain ⟨n,hn⟩:∃ n,s.length = n:=⟨_,rfl⟩
 have HN:=Lib.hid hn
 have hU:Sa.wr s = wrN s n:=by unfold wr; rw [hn]
 rw [hU,hn]
 have hn26:n ≤ 26:=by rw [← hn]; exact hF.len
 clear hn hU h hL hv hF
 go_enter Tryz.func21,Tryz.ntmps21
 go_wp2_with fail
 go_loopg [3,7] n (fun gf s3 s7 wx=>∃ (k m:Nat) (ra:Option Addr) (rc:Nat) (XS:List Value),s3 = .slice ra m rc ∧ s7 = .int .i64 k ∧ Hid (wx.ownsRow w.heap.size 58 5 (.slice ra m rc) m XS) ∧ Hid (m = (wrN s k).length ∧ XS = vcells (wrN s k)) ∧ Hid (Below w.heap.size w wx) ∧ k ≤ n ∧ n ≤ k + gf)
 case atStart=>exact ⟨0,0,none,0,[],rfl,rfl,Lib.hid (World.ownsRow_nil _ _ _ _),Lib.hid ⟨rfl,rfl⟩,Lib.hid (Below.refl _ _),by omega,by omega⟩
 case round =>
  obtain ⟨k,m,ra,rc,XS,rfl,rfl,HO,HE,HB,hkn,hfu⟩:=hrel
  by_cases hlt:k < n
  ·obtain ⟨g',rfl⟩:∃ g',gk = g' + 1:=⟨gk - 1,by omega⟩
   have hlt':(k:Int) < (n:Int):=by omega
   have hk0:(0:Int) ≤ k:=by omega
   have hkl:k < s.length:=by rw [HN.out]; exact hlt
   have ca:=wrongAt_any _ s k wr (H.out.below HB.out) HL.out (HV.out.on HB.out) HF.out hkl
   rw [HN.out] at ca
   have hsucc:=wrN_succ s k
   have hzl:=wrA_len HF.out hkl
   obtain ⟨Z,hZ⟩:∃ Z,wrA s k = Z:=⟨_,rfl⟩
   rw [hZ] at ca hsucc hzl
   have HS:=Lib.hid hsucc
   obtain ⟨mb,hmb⟩:∃ mb,Z.length = mb:=⟨_,rfl⟩
   rw [hmb] at ca hzl
   obtain ⟨YS,hYS⟩:∃ YS,vcells Z = YS:=⟨_,rfl⟩
   rw [hYS] at ca
   have HEB:Hid (mb = Z.length ∧ YS = vcells Z):=Lib.hid ⟨hmb.symm,hYS.symm⟩
   have K70:Hid (m + mb ≤ 70000):=Lib.hid (by
    have h1:=HE.out.1
    have h2:=wrN_len HF.out (k:=k) (by omega)
    omega)
   clear hZ hmb hYS hkl hsucc hzl
   go_wp2_with fail
   refine ca.mono ?_
   rintro e wz ⟨vb,rfl,ob,kz⟩
   obtain ⟨rb,rcb,rfl,_⟩:=Rl.own_shape ob
   have OA:=Lib.hid (Own.owns_below HO.out kz)
   have OB:=Lib.hid ob
   have BA:=Lib.hid (HB.out.trans (kz.mono HB.out.size))
   have BZ:=Lib.hid (Nat.le_trans HB.out.size kz.size)
   have HE2:Hid (m + mb = (wrN s (k + 1)).length ∧ XS ++ YS = vcells (wrN s (k + 1))):=Lib.hid (by
    rw [HS.out,List.length_append,vcells_app,← HE.out.1,← HE.out.2,← HEB.out.1,← HEB.out.2]; exact ⟨rfl,rfl⟩)
   clear ca ob kz HO HE HB
   go_wp2_with (at_builtin; refine append_row rfl (.tmp 10) (.tmp 13) rfl w.heap.size (.slice ra m rc) m XS rfl OA.out _ (.slice rb mb rcb) mb _ rfl OB.out (by rw [HEB.out.2]; exact vcells_one _) K70.out BZ.out ?_; intro v9 w9 h9 g9; have b9:=Own.below_grown BA.out OA.out g9 BZ.out; obtain ⟨a9,r9,rfl,_⟩:=Rl.own_shape h9; have O9:=Lib.hid h9; have B9:=Lib.hid b9; clear h9 g9 b9)
   go_roundg g'
   case measure=>omega
   case rel=>exact ⟨k + 1,m + mb,a9,r9,_,rfl,by go_num,O9,HE2,B9,by omega,by omega⟩
  ·have hge:¬ (k:Int) < (n:Int):=by omega
   obtain rfl:k = n:=by omega
   have OF:Hid (wr.ownsRow w.heap.size 58 5 (.slice ra m rc) (wrN s k).length (vcells (wrN s k))):=by
    have h:=HO.out
    rw [HE.out.2] at h
    rw [← HE.out.1]
    exact h
   clear HE
   go_wp2_with fail
   go_ret
   exact ⟨_,rfl,OF.out,HB.out⟩
end Sa
end Go.Proofs.YtgpcilepkmckeaaGreatDoor

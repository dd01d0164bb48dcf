/-
The stanza of what the fields have. The stanza of a package: Stanza. A row of one's own of things that lie elsewhere, beside blocks that are written (K): what appends and writes leave of it.
-/
import Derived.Test.YthmpepnikmdjpaaGreatDoorCRecVals
import Derived.Test.YthmpepnikmdjpaaGreatDoorCRecOut
namespace Go.Proofs.YthmpepnikmdjpaaGreatDoor
open Go.RowKit
set_option linter.unusedSimpArgs false
set_option linter.unusedVariables false
namespace Rc
open Ver (Bs li li_len S S_self S_size S_li sameV)
open Va (Hi Vl VAt wrT)
open Stz (Fld Sz Flds Stzs)
open Rl (At Pv Ats Pvs Clss Slc LimA LimP LimC Vars nA nP mem_getD may nmB isV pvA aV pV tcells)
theorem in_text {w:World} {b:Nat} {t:ByteArray} {nm:Bs} (h:Blk.Is w b 9 #[.string t]):In b (b + 1) w fun u=>FldC u [.string (S nm),.slice (some ⟨b,0,none⟩) 1 1] (nm,[li t]):=fun u hu=>⟨_,rfl,by
 have h2:=hu.is h (by omega)
 refine ⟨by simp,some ⟨b,0,none⟩,1,rfl,Nat.le_refl _,fun _=>⟨b,0,rfl,fun i hi=>?_⟩⟩
 have hi0:i = 0:=by simpa using hi
 subst hi0
 rw [h2.at (i:=0) rfl]
 show some (Value.string t) = some (.string (S (li t)))
 rw [S_self]⟩
theorem toList_S (t:ByteArray):t.toList.isEmpty = decide (li t = []):=by
 have h:=Rl.isEmpty_S (li t)
 rw [S_self] at h
 rw [h]
 cases li t <;> rfl
set_option maxRecDepth 100000 in
set_option maxHeartbeats 8000000 in
theorem stanzaM_any (B:Nat) (cs:Array Value) (xs:Vls) (w:World) (hV:Vs B w cs xs) (hX:Wr xs) (hG:Gl w) (hP:Va.Pow w) :
  Calls Tryz.prog 69 #[.agg cs] w fun e w'=>∃ v,e = .returned (.agg #[.int .i64 0,v]) ∧ Hi w.heap.size w' (fun u=>Flds u v (flds xs)) ∧ Below w.heap.size w w':=by
 obtain ⟨W,hW,hB,hsz,hI0,hI1,hI2⟩:=Va.three_new w 99 40 40 cs #[.int .i64 0,.slice none 0 0] #[.int .i64 0,.slice none 0 0]
 have hn:=hV.len
 have hrn:W.rangeAt 0 0 nmV.toList:=range_nms (hG.n.on hB)
 have HV:=Lib.hid hV
 have HX:=Lib.hid hX
 have HG:=Lib.hid hG
 have HP:=Lib.hid hP
 have HB:=Lib.hid hB
 have SZ:=Lib.hid hsz
 have I0:=Lib.hid hI0
 have I1:=Lib.hid hI1
 have I2:=Lib.hid hI2
 have HR:=Lib.hid hrn
 have hiS:(Tryz.prog.info? 40).map (·.size) = some 2:=by kernel_rfl
 clear hV hX hG hP hB hsz hI0 hI1 hI2 hrn
 go_enter Tryz.func69,Tryz.ntmps69
 go_wp2_with (refine wpList_load_mid rfl 163 (.global 0) rfl 0 0 rfl nmV.toList _ HR.out (by kernel_rfl:Tryz.prog.underlying 163 = some (.array 11 9)) rfl (by kernel_rfl) ?_)
 clear hW
 obtain ⟨b0,hb0⟩:∃ b0,w.heap.size = b0:=⟨_,rfl⟩
 rw [hb0] at I0 I1 I2 SZ
 have HB0:=Lib.hid hb0
 try rw [hb0]
 clear hb0 HR
 go_loopg [9] 11 (fun gf s9 wx=>∃ (k:Nat) (a:Option Addr) (c n:Nat) (fs:List Fld),s9 = .int .i64 k ∧ Hid (fs = fldN xs k ∧ fs.length = n) ∧ Hid (Acc FldC 2 43 W.heap.size W.heap.size wx (.slice a n c) fs) ∧ Hid (Blk.Is wx (b0 + 2) 40 #[.int .i64 0,.slice a n c]) ∧ Hid (Blk.Is wx (b0 + 1) 40 #[.int .i64 0,.slice none 0 0] ∧ Blk.Is wx b0 99 cs) ∧ Hid (Below w.heap.size w wx ∧ W.heap.size ≤ wx.heap.size) ∧ k ≤ 11 ∧ 11 ≤ k + gf)
 case atStart=>exact ⟨0,none,0,0,[],rfl,Lib.hid ⟨rfl,rfl⟩,Lib.hid (Acc.nil _ _ _ _ _ _),I2,Lib.hid ⟨I1.out,I0.out⟩,Lib.hid ⟨HB.out,Nat.le_refl _⟩,by omega,by omega⟩
 case round =>
  obtain ⟨k,a,c,n,fs,rfl,HFS,HA,J2,J01,HW,hk,hfu⟩:=hrel
  by_cases hlt:k < 11
  ·obtain ⟨g',rfl⟩:∃ g',gk = g' + 1:=⟨gk - 1,by omega⟩
   have hlt':(k:Int) < 11:=by omega
   have hk0:(0:Int) ≤ k:=by omega
   have hidx:=fun w=>index_nm k hlt w
   obtain ⟨vk,hck,hvk⟩:=HV.out.at_ k hlt
   have cv:wr.cell? ⟨b0,k,none⟩ = some vk:=J01.out.2.at hck
   have cw:=Va.write_any (hvk.below HW.out.1) (HX.out.lim k) (HG.out.on HW.out.1).v (HP.out.on HW.out.1)
   have he:=toList_S (wrT (xs k))
   have hfa:fldN xs (k + 1) = fldN xs k ++ fldAt xs k:=fldN_succ xs k
   have hln:=fldN_len xs k
   rw [← HFS.out.1] at hln hfa
   rw [HFS.out.2] at hln
   have hat:fldAt xs k = if li (wrT (xs k)) = [] then [] else [(nmAt k,[li (wrT (xs k))])]:=rfl
   rw [hat] at hfa
   generalize wrT (xs k) = T at *
   generalize Va.wrK (xs k) = KK at *
   have HFA:=Lib.hid hfa
   clear hat hfa hvk hck
   by_cases hT:li T = []
   ·have he1:T.toList.isEmpty = true:=by rw [he,decide_eq_true hT]
    have HFS2:Hid (fs = fldN xs (k + 1) ∧ fs.length = n):=Lib.hid ⟨by rw [HFA.out,if_pos hT,List.append_nil],HFS.out.2⟩
    clear he hT HFA HFS hln
    generalize S (nmAt k) = K at *
    go_wp2_with fail
    refine cw.mono ?_
    rintro e w1 ⟨rfl,k1⟩
    have J2:=Lib.hid (Rl.is_on J2.out k1)
    have J01:=Lib.hid (⟨Rl.is_on J01.out.1 k1,Rl.is_on J01.out.2 k1⟩:_ ∧ _)
    have HA:=Lib.hid (HA.out.on k1)
    have HW:=Lib.hid (⟨HW.out.1.trans (k1.mono HW.out.1.size),Nat.le_trans HW.out.2 k1.size⟩:_ ∧ _)
    clear cw cv k1
    go_wp2_with fail
    go_roundg g'
    case measure=>omega
    case rel=>exact ⟨k + 1,a,c,n,fs,by go_num,HFS2,HA,J2,J01,HW,by omega,by omega⟩
   ·have he1:T.toList.isEmpty = false:=by rw [he,decide_eq_false hT]
    rw [if_neg hT] at HFA
    generalize hK:nmAt k = nm at *
    clear he hT hK
    go_wp2_with fail
    refine cw.mono ?_
    rintro e w1 ⟨rfl,k1⟩
    have j2:=Rl.is_on J2.out k1
    have j1:=Rl.is_on J01.out.1 k1
    have j0:=Rl.is_on J01.out.2 k1
    have ha:=HA.out.on k1
    have hw1:=HW.out.1.trans (k1.mono HW.out.1.size)
    have hw2:=Nat.le_trans HW.out.2 k1.size
    obtain ⟨W2,hW2,hB2,hs2,hT0,hT1⟩:=two_new w1 9 43 #[.string T] #[.string (S nm),.slice (some ⟨w1.heap.size,0,none⟩) 1 1]
    have hin:=in_text (nm:=nm) hT0
    have ha2:=ha.on hB2
    have l2:=Rl.is_on j2 hB2
    have l1:=Rl.is_on j1 hB2
    have l0:=Rl.is_on j0 hB2
    have hw3:=hw1.trans (hB2.mono hw1.size)
    have hown:=ha2.own
    rw [HFS.out.2] at hown
    have hlow:∀ g,Value.ownBlock (.slice a n c) = some g → g < w1.heap.size ∨ w1.heap.size + 1 ≤ g:=fun g hg=>by
     obtain ⟨_,ho⟩:=ha.own
     exact .inl (Rl.own_lt ho hg).2
    have hown0:∀ g,Value.ownBlock (.slice a n c) = some g → W.heap.size ≤ g:=fun g hg=>by
     obtain ⟨_,ho⟩:=ha.own
     exact (Rl.own_lt ho hg).1
    have d1:w1.cell? ⟨b0 + 2,1,none⟩ = some (.slice a n c):=j2.at (i:=1) rfl
    have hle2:W.heap.size ≤ W2.heap.size:=Nat.le_trans hw2 hB2.size
    have hm2:w1.heap.size + 1 ≤ W2.heap.size:=by omega
    obtain ⟨bx,hbx⟩:∃ bx,w1.heap.size = bx:=⟨_,rfl⟩
    rw [hbx] at hT1 hin hlow hw2 hm2 hs2 hW2
    have HW2:=Lib.hid hW2
    have HT1:=Lib.hid hT1
    have HIN:=Lib.hid hin
    have AC2:=Lib.hid ha2
    have L2:=Lib.hid l2
    have L1:=Lib.hid l1
    have L0:=Lib.hid l0
    have HW3:=Lib.hid hw3
    have OWN:=Lib.hid hown
    have LOW:=Lib.hid hlow
    have OW0:=Lib.hid hown0
    have hn7:n + 1 ≤ 70000:=by omega
    clear j2 j1 j0 ha hw1 k1 hB2 hT0 hT1 hin ha2 l2 l1 l0 hw3 hown hlow hown0 cw cv HA J2 J01 HW hW2
    go_wp2_with (first | (at_builtin; (try rw [HW2.out]); refine append_at Tryz.underlying38 Stz.infoField rfl (by decide) rfl (.tmp 23) (.tmp 28) rfl W.heap.size (.slice a n c) n rfl OWN.out (bx + 1) 1 rfl [.string (S nm),.slice (some ⟨bx,0,none⟩) 1 1] rfl (fun j u hj=>HT1.out.at (by rw [← Array.getElem?_toList]; exact hj)) (fun u hu=>by simp only [List.mem_cons,List.not_mem_nil,or_false] at hu; rcases hu with rfl | rfl <;> rfl) hn7 hle2 ?_; intro v' w9 h2 h3 h4; have acc9:=AC2.out.more (cs:=[.string (S nm),.slice (some ⟨bx,0,none⟩) 1 1]) rfl HIN.out hm2 LOW.out hw2 (by rw [HFS.out.2]; exact h2) h3 h4; have hch:Blk.Chg (fun j=>W.heap.size ≤ j) W2 w9:=(Blk.Chg.refl _ _).grown h3 (fun g hg _=>OW0.out g hg); have hwz:=SZ.out; have m2:=hch.is L2.out (by omega); have m1:=hch.is L1.out (by omega); have m0:=hch.is L0.out (by omega); obtain ⟨a9,c9,e9⟩:=acc9.shape; rw [List.length_append,HFS.out.2] at e9; have hb9:Below w.heap.size w w9:=(Blk.Chg.ofBelow' (S:=fun j=>W.heap.size ≤ j) HW3.out).trans hch |>.below (fun j hj=>by have:=HB.out.size; omega) (Nat.le_refl _); have d9:w9.cell? ⟨b0 + 2,1,none⟩ = some (.slice a n c):=m2.at (i:=1) rfl; have f9:w9.frozen? ⟨b0 + 2,1,none⟩ = false:=m2.free 1; have s9:W.heap.size ≤ w9.heap.size:=Nat.le_trans hle2 hch.size; subst e9; have acc10:=acc9.low (Nat.le_refl _) ((Blk.Chg.refl (fun j=>j < W.heap.size) w9).setAt (b:=b0 + 2) (o:=1) (u:=.slice a9 (n + 1) c9) (by show b0 + 2 < W.heap.size; omega)); have AC9:=Lib.hid acc10; have M2:=Lib.hid (m2.set 1 (.slice a9 (n + 1) c9)); have M10:=Lib.hid (⟨m1.setOther (a:=⟨b0 + 2,1,none⟩) (.slice a9 (n + 1) c9) (by show b0 + 1 ≠ b0 + 2; omega),m0.setOther (a:=⟨b0 + 2,1,none⟩) (.slice a9 (n + 1) c9) (by show b0 ≠ b0 + 2; omega)⟩:_ ∧ _); have HB9:=Lib.hid (show Below w.heap.size w (w9.setCell ⟨b0 + 2,1,none⟩ (.slice a9 (n + 1) c9)) ∧ W.heap.size ≤ (w9.setCell ⟨b0 + 2,1,none⟩ (.slice a9 (n + 1) c9)).heap.size from ⟨(Blk.Chg.setCell' (S:=fun _=>False) (Blk.Chg.ofBelow' hb9) (p:=⟨b0 + 2,1,none⟩) (by show w.heap.size ≤ b0 + 2; rw [HB0.out]; omega) _).below (fun _ h=>h.elim) (Nat.le_refl _),by simp [World.setCell]; simpa using s9⟩); clear h2 h3 h4 acc9 acc10 hch m2 m1 m0 hb9 AC2 L2 L1 L0 HW3 OWN LOW OW0 HIN HT1 hwz s9) | fail)
    clear d1 HW2
    go_roundg g'
    case measure=>omega
    case rel=>exact ⟨k + 1,a9,c9,n + 1,fs ++ [(nm,[li T])],by go_num,Lib.hid ⟨HFA.out.symm,by rw [List.length_append,HFS.out.2]; rfl⟩,AC9,M2,M10,HB9,by omega,by omega⟩
  ·have hge:¬ (k:Int) < 11:=by omega
   obtain rfl:k = 11:=by omega
   have hfs:fs = flds xs:=HFS.out.1
   have hlen:fs.length ≤ 11:=by rw [HFS.out.1]; exact fldN_len xs 11
   have hfl:=HA.out.flds (Nat.le_refl _) (by omega)
   have hwz:=SZ.out
   have hh:=(hfl.on ((Blk.Chg.refl (fun j=>j < W.heap.size) wr).setRow (g:=b0 + 1) (by show b0 + 1 < W.heap.size; omega) #[.int .i64 0,.slice a n c])).mono HB.out.size
   have hb:=Va.below_row HW.out.1 (show w.heap.size ≤ b0 + 1 by rw [HB0.out]; omega) #[.int .i64 0,.slice a n c]
   have d0:wr.cell? ⟨b0 + 2,0,none⟩ = some (.int .i64 0):=J2.out.at (i:=0) rfl
   have d1:wr.cell? ⟨b0 + 2,1,none⟩ = some (.slice a n c):=J2.out.at (i:=1) rfl
   have hrz:=J01.out.1.row #[.int .i64 0,.slice a n c]
   rw [hfs] at hh
   have HH:=Lib.hid hh
   have HBB:=Lib.hid hb
   have HRZ:=Lib.hid hrz
   have J1:=Lib.hid J01.out.1
   clear hh hb hrz hfl HA J2 J01 HW HFS
   go_wp2_with (first | (refine wpList_store_row rfl 40 (.tmp 2) (.tmp 32) rfl (b0 + 1) #[.int .i64 0,.slice a n c] rfl rfl 40 #[.int .i64 0,.slice none 0 0] J1.out hiS (by rfl) (by simp [Value.oneCell']) ?_) | fail)
   generalize wr.setRow (b0 + 1) _ = wz at *
   have r0:=HRZ.out.at (i:=0) rfl
   have r1:=HRZ.out.at (i:=1) rfl
   refine bodyPost_ret (v:=.agg #[.int .i64 0,.slice a n c]) (by simp [results,Tryz.results69,go_sem,r0,r1]) rfl ?_
   exact ⟨_,rfl,HH.out,HBB.out⟩
end Rc
end Go.Proofs.YthmpepnikmdjpaaGreatDoor
namespace Go.Proofs.YthmpepnikmdjpaaGreatDoor
open Go.RowKit
set_option linter.unusedSimpArgs false
set_option linter.unusedVariables false
namespace Rc
open Ver (Bs li li_len S S_self S_size S_li sameV)
open Va (Hi Vl VAt wrT)
open Stz (Fld Sz Flds Stzs BytesAt)
open Rl (At Pv Ats Pvs Clss Slc LimA LimP LimC Vars nA nP mem_getD may nmB isV pvA aV pV tcells)
theorem flds_shape' {w:World} {v:Value} {fs:List Fld} (h:Flds w v fs):∃ a c,v = .slice a fs.length c:=by
 obtain ⟨_,a,c,e,_⟩:=h
 exact ⟨a,c,e⟩
def szF (p:Pk):List Fld:=if mayK p = 0 then flds (valsP p) else []
set_option maxRecDepth 100000 in
set_option maxHeartbeats 4000000 in
theorem stanza_any (v:Value) (p:Pk) (w:World) (h:PkV w v p) (hL:p.Lim) (hG:Gl w) (hP:Va.Pow w) :
  Calls Tryz.prog 25 #[v] w fun e w'=>∃ u,e = .returned (.tuple #[.agg #[.int .i64 0,u],.int .i64 (mayK p)]) ∧ Hi w.heap.size w' (fun z=>Flds z u (szF p)) ∧ Below w.heap.size w w':=by
 have HPV:=Lib.hid h
 obtain ⟨u1,u2,u3,u4,u5,u6,rfl,h1⟩:=h
 obtain ⟨W,hW,hBW,hsz,hI0,hI1⟩:=two_new w 31 40 #[.string (S p.nm),.string (S p.vs),u1,u2,u3,u4,u5,u6,.bool p.ess] #[.int .i64 0,.slice none 0 0]
 have cm:=may_any _ p W (HPV.out.below hBW) hL (hG.on hBW).v
 obtain ⟨M,hM⟩:∃ M,mayK p = M:=⟨_,rfl⟩
 rw [hM] at cm ⊢
 have HM:=Lib.hid hM
 obtain ⟨FF,hFF⟩:∃ F,szF p = F:=⟨_,rfl⟩
 rw [hFF]
 have HFF:=Lib.hid hFF
 clear hFF
 have HL:=Lib.hid hL
 have HG:=Lib.hid hG
 have HP:=Lib.hid hP
 have HB:=Lib.hid hBW
 have SZ:=Lib.hid hsz
 have I0:=Lib.hid hI0
 have I1:=Lib.hid hI1
 have hiS:(Tryz.prog.info? 40).map (·.size) = some 2:=by kernel_rfl
 have x0:=hI0.at (i:=0) rfl
 have x1:=hI0.at (i:=1) rfl
 have x2:=hI0.at (i:=2) rfl
 have x3:=hI0.at (i:=3) rfl
 have x4:=hI0.at (i:=4) rfl
 have x5:=hI0.at (i:=5) rfl
 have x6:=hI0.at (i:=6) rfl
 have x7:=hI0.at (i:=7) rfl
 have x8:=hI0.at (i:=8) rfl
 clear hM hL hG hP hBW hsz hI0 hI1 h1
 go_enter Tryz.func25,Tryz.ntmps25
 go_wp2_with fail
 refine cm.mono ?_
 rintro e w1 ⟨rfl,k1⟩
 have hb1:=HB.out.trans (k1.mono HB.out.size)
 have i1:=Rl.is_on I1.out k1
 have x0:=Rl.cell_on x0 k1
 have x1:=Rl.cell_on x1 k1
 have x2:=Rl.cell_on x2 k1
 have x3:=Rl.cell_on x3 k1
 have x4:=Rl.cell_on x4 k1
 have x5:=Rl.cell_on x5 k1
 have x6:=Rl.cell_on x6 k1
 have x7:=Rl.cell_on x7 k1
 have x8:=Rl.cell_on x8 k1
 have hwz:w.heap.size + 1 < w1.heap.size:=Nat.lt_of_lt_of_le (by have:=SZ.out; omega) k1.size
 have B1:=Lib.hid hb1
 have J1:=Lib.hid i1
 clear cm hW k1 hb1 i1 I0 I1
 by_cases hz:M = 0
 ·subst hz
  have hok:Ok p:=mayK_ok.1 HM.out
  have co:=ofPackage_any _ p w1 (HPV.out.below B1.out) hok
  have HSF:Hid (FF = flds (valsP p)):=Lib.hid (by rw [← HFF.out]; unfold szF; rw [if_pos HM.out])
  clear hok
  go_wp2_with fail
  refine co.mono ?_
  rintro e w2 ⟨cs,rfl,hV,k2⟩
  have hb2:=B1.out.trans (k2.mono B1.out.size)
  have cst:=stanzaM_any _ cs _ w2 hV (wrP HL.out) (HG.out.on hb2) (HP.out.on hb2)
  have J2:=Lib.hid (Rl.is_on J1.out k2)
  have Z2:=Lib.hid (Nat.lt_of_lt_of_le hwz k2.size)
  have B2:=Lib.hid hb2
  clear co hV k2 hb2 J1 B1 x0 x1 x2 x3 x4 x5 x6 x7 x8
  go_wp2_with fail
  refine cst.mono ?_
  rintro e w3 ⟨v3,rfl,hF,k3⟩
  obtain ⟨fa,fc,rfl⟩:=flds_shape' hF.here
  have j3:=Rl.is_on J2.out k3
  have hrz:=j3.row #[.int .i64 0,.slice fa (flds (valsP p)).length fc]
  have hbz:=Va.below_row (B2.out.trans (k3.mono B2.out.size)) (Nat.le_succ _) #[.int .i64 0,.slice fa (flds (valsP p)).length fc]
  have hfz:=(hF.on ((Blk.Chg.refl (fun j=>j < w2.heap.size) w3).setRow (g:=w.heap.size + 1) Z2.out #[.int .i64 0,.slice fa (flds (valsP p)).length fc])).mono B2.out.size
  have J3:=Lib.hid j3
  have HRZ:=Lib.hid hrz
  have HBZ:=Lib.hid hbz
  have HFZ:=Lib.hid hfz
  obtain ⟨fs,hfs⟩:∃ fs,flds (valsP p) = fs:=⟨_,rfl⟩
  rw [hfs] at HSF HRZ HBZ HFZ ⊢
  clear hfs
  clear cst k3 j3 hrz hbz hfz hF J2 B2
  go_wp2_with (first | (refine wpList_store_row rfl 40 (.tmp 2) (.tmp 13) rfl (w.heap.size + 1) #[.int .i64 0,.slice fa fs.length fc] rfl rfl 40 #[.int .i64 0,.slice none 0 0] J3.out hiS (by rfl) (by simp [Value.oneCell']) ?_) | fail)
  generalize w3.setRow (w.heap.size + 1) _ = wz at *
  have r0:=HRZ.out.at (i:=0) rfl
  have r1:=HRZ.out.at (i:=1) rfl
  refine bodyPost_ret (v:=.tuple #[.agg #[.int .i64 0,.slice fa fs.length fc],.int .i64 0]) (by simp [results,Tryz.results25,go_sem,r0,r1]) rfl ?_
  rw [HSF.out]
  exact ⟨_,rfl,HFZ.out,HBZ.out⟩
 ·have hz1:(M != 0) = true:=by simp [hz]
  have HSF:Hid (FF = []):=Lib.hid (by rw [← HFF.out]; unfold szF; rw [if_neg (by rw [HM.out]; exact hz)])
  have hrz:=J1.out.row #[.int .i64 0,.slice none 0 0]
  have hbz:=Va.below_row B1.out (Nat.le_succ _) #[.int .i64 0,.slice none 0 0]
  have HRZ:=Lib.hid hrz
  have HBZ:=Lib.hid hbz
  clear hz hrz hbz B1 x0 x1 x2 x3 x4 x5 x6 x7 x8
  go_wp2_with (first | (refine wpList_store_row rfl 40 (.tmp 2) (.tmp 9) rfl (w.heap.size + 1) #[.int .i64 0,.slice none 0 0] rfl rfl 40 #[.int .i64 0,.slice none 0 0] J1.out hiS (by rfl) (by simp [Value.oneCell']) ?_) | fail)
  generalize w1.setRow (w.heap.size + 1) _ = wz at *
  have r0:=HRZ.out.at (i:=0) rfl
  have r1:=HRZ.out.at (i:=1) rfl
  refine bodyPost_ret (v:=.tuple #[.agg #[.int .i64 0,.slice none 0 0],.int .i64 M]) (by simp [results,Tryz.results25,go_sem,r0,r1]) rfl ?_
  rw [HSF.out]
  exact ⟨_,rfl,fun _ _=>Flds.none _,HBZ.out⟩
end Rc
end Go.Proofs.YthmpepnikmdjpaaGreatDoor
namespace Go.Proofs.YthmpepnikmdjpaaGreatDoor
open Go.RowKit
set_option linter.unusedSimpArgs false
set_option linter.unusedVariables false
namespace Rc
open Rl (Slc)
open Va (Hi)
open Stz (Fld Sz Flds Stzs)
structure ItK {β:Type} (C:World → List Value → β → Prop) (sz:Nat) (K:Nat → Prop) (w:World) (v:Value) (p:List Value × β):Prop where
 len:p.1.length = sz
 has:∃ b m,In b m w (fun u=>C u p.1 p.2) ∧ m ≤ w.heap.size ∧ ∀ g,v.ownBlock = some g ∨ K g → g < b ∨ m ≤ g
def AccK {β:Type} (C:World → List Value → β → Prop) (sz:Nat) (e:TypeId) (B:Nat) (K:Nat → Prop) (w:World) (v:Value) (xs:List β):Prop :=
 ∃ l:List (List Value × β),l.map (·.2) = xs ∧ w.ownsRow B e sz v xs.length (l.map (·.1)).flatten ∧ (∀ g,v.ownBlock = some g → ¬ K g) ∧ ∀ p ∈ l,ItK C sz K w v p
theorem AccK.nil {β:Type} (C:World → List Value → β → Prop) (sz:Nat) (e:TypeId) (B:Nat) (K:Nat → Prop) (w:World):AccK C sz e B K w (.slice none 0 0) [] :=
 ⟨[],rfl,World.ownsRow_nil w B e sz,fun g hg=>(by cases hg),fun p hp=>by cases hp⟩
theorem AccK.on {β:Type} {C:World → List Value → β → Prop} {sz:Nat} {e:TypeId} {B:Nat} {K:Nat → Prop} {w w':World} {v:Value} {xs:List β} (h:AccK C sz e B K w v xs) (hb:Below w.heap.size w w'):AccK C sz e B K w' v xs:=by
 obtain ⟨l,h1,h2,h0,h3⟩:=h
 refine ⟨l,h1,Own.owns_below h2 hb,h0,fun p hp=>⟨(h3 p hp).len,?_⟩⟩
 obtain ⟨b,m,hi,hm,hg⟩:=(h3 p hp).has
 exact ⟨b,m,hi.on (Blk.Chg.ofBelow' hb),Nat.le_trans hm hb.size,hg⟩
theorem AccK.write {β:Type} {C:World → List Value → β → Prop} {sz:Nat} {e:TypeId} {B:Nat} {K:Nat → Prop} {w w':World} {v:Value} {xs:List β} (h:AccK C sz e B K w v xs) (hc:Blk.Chg K w w'):AccK C sz e B K w' v xs:=by
 obtain ⟨l,h1,h2,h0,h3⟩:=h
 refine ⟨l,h1,hc.owns h2 fun g hg=>h0 g hg,h0,fun p hp=>⟨(h3 p hp).len,?_⟩⟩
 obtain ⟨b,m,hi,hm,hg⟩:=(h3 p hp).has
 exact ⟨b,m,hi.on (hc.mono fun k _ hk=>hg k (.inr hk)),Nat.le_trans hm hc.size,hg⟩
theorem AccK.own {β:Type} {C:World → List Value → β → Prop} {sz:Nat} {e:TypeId} {B:Nat} {K:Nat → Prop} {w:World} {v:Value} {xs:List β} (h:AccK C sz e B K w v xs):∃ cs,w.ownsRow B e sz v xs.length cs:=by
 obtain ⟨l,_,h2,_⟩:=h
 exact ⟨_,h2⟩
theorem AccK.shape {β:Type} {C:World → List Value → β → Prop} {sz:Nat} {e:TypeId} {B:Nat} {K:Nat → Prop} {w:World} {v:Value} {xs:List β} (h:AccK C sz e B K w v xs):∃ a cap,v = .slice a xs.length cap:=by
 obtain ⟨cs,h2⟩:=h.own
 obtain ⟨a,cap,e1,_⟩:=Rl.own_shape h2
 exact ⟨a,cap,e1⟩
theorem AccK.more {β:Type} {C:World → List Value → β → Prop} {sz:Nat} {e:TypeId} {B:Nat} {K:Nat → Prop} {w w':World} {v v':Value} {xs:List β} (h:AccK C sz e B K w v xs) {cs:List Value} {x:β} {b m:Nat} (hlen:cs.length = sz) (hx:In b m w (fun u=>C u cs x)) (hm:m ≤ w.heap.size) (hb:∀ g,v.ownBlock = some g ∨ K g → g < b ∨ m ≤ g) (hK:∀ g,K g → g < w.heap.size)
  (hown:∀ ys,w.ownsRow B e sz v xs.length ys → w'.ownsRow B e sz v' (xs.length + 1) (ys ++ cs)) (hg:w.grownBy w' v.ownBlock) (hw:∀ k,v'.ownBlock = some k → v.ownBlock = some k ∨ w.heap.size ≤ k):AccK C sz e B K w' v' (xs ++ [x]):=by
 obtain ⟨l,h1,h2,h0,h3⟩:=h
 refine ⟨l ++ [(cs,x)],by simp [h1],?_,fun g hgv hk=>?_,fun p hp=>?_⟩
 ·have:=hown _ h2
  simpa using this
 ·rcases hw g hgv with h4 | h4
  ·exact h0 g h4 hk
  ·have:=hK g hk
   omega
 ·have key:∀ (q:List Value × β) (b m:Nat),In b m w (fun u=>C u q.1 q.2) → m ≤ w.heap.size → (∀ g,v.ownBlock = some g ∨ K g → g < b ∨ m ≤ g) → ∃ b m,In b m w' (fun u=>C u q.1 q.2) ∧ m ≤ w'.heap.size ∧ ∀ g,v'.ownBlock = some g ∨ K g → g < b ∨ m ≤ g:=fun q b m hi hm hb=>by
   refine ⟨b,m,hi.on ((Blk.Chg.refl _ w).grown hg fun k hk _=>hb k (.inl hk)),Nat.le_trans hm hg.size,fun g hgv=>?_⟩
   rcases hgv with hgv | hgv
   ·rcases hw g hgv with h4 | h4
    ·exact hb g (.inl h4)
    ·exact .inr (by omega)
   ·exact hb g (.inr hgv)
  rcases List.mem_append.1 hp with hp | hp
  ·obtain ⟨b,m,hi,hm,hg'⟩:=(h3 p hp).has
   exact ⟨(h3 p hp).len,key p b m hi hm hg'⟩
  ·rw [List.mem_singleton.1 hp]
   exact ⟨hlen,key (cs,x) b m hx hm hb⟩
theorem AccK.slc {β:Type} {C:World → List Value → β → Prop} {sz:Nat} {e:TypeId} {B:Nat} {K:Nat → Prop} {w:World} {v:Value} {xs:List β} (z:β) (h:AccK C sz e B K w v xs) (hn:xs.length ≤ 1152921504606846976):Slc sz z (CAt C) w v xs:=by
 obtain ⟨l,h1,h2,h0,h3⟩:=h
 exact Acc.slc z (B:=B) (L:=0) (e:=e) ⟨l,h1,h2,fun p hp=>⟨(h3 p hp).len,by
  obtain ⟨b,m,hi,hm,hg⟩:=(h3 p hp).has
  exact ⟨b,m,Nat.zero_le _,hi,hm,fun g hgv=>hg g (.inl hgv)⟩⟩⟩ hn
theorem AccK.flds {B:Nat} {K:Nat → Prop} {w:World} {v:Value} {fs:List Fld} (h:AccK FldC 2 43 B K w v fs) (hn:fs.length ≤ 1152921504606846976):Flds w v fs:=flds_of (AccK.slc ([],[]) h hn)
theorem AccK.hi {B:Nat} {K:Nat → Prop} {w:World} {v:Value} {fs:List Fld} (h:AccK FldC 2 43 B K w v fs) (hn:fs.length ≤ 1152921504606846976):∀ u,Blk.Chg K w u → Flds u v fs:=fun u hu=>(h.write hu).flds hn
end Rc
end Go.Proofs.YthmpepnikmdjpaaGreatDoor

/-
The reader: the first line of a field.
-/
import Derived.Test.YthmpepnikmdjpaaGreatDoorCStzAppend
namespace Go.Proofs.YthmpepnikmdjpaaGreatDoor
open Go.RowKit
set_option linter.unusedSimpArgs false
set_option linter.unusedVariables false
namespace Stz
open Txt (b b_eq b_lt W wht trimL trimRight trimLeft)
theorem memZ_fields {w:World} {B:Nat} {sv:Value} {done:List Sz} {k:Int} {fs:List Fld} {o:Option Fld} (h:Mem w B sv done (some (k,fs,o))):∃ g cap,sv = .slice (some ⟨g,0,none⟩) (done.length + 1) cap ∧ B ≤ g:=by
 obtain ⟨M,N,xs,h0,h1,h2,h3,_⟩:=h
 obtain ⟨g,cap,rfl,_⟩:=own_slice h3 (by simp [cnt])
 exact ⟨g,cap,rfl,(own_lt h3 (k:=g) rfl).1⟩
theorem Mem.fields {w:World} {B:Nat} {done:List Sz} {k:Int} {fs:List Fld} {g cap:Nat} (h:Mem w B (.slice (some ⟨g,0,none⟩) (done.length + 1) cap) done (some (k,fs,none))) {m:Nat} (hm:m ≤ 1152921504606846976) (hl:fs.length ≤ m) (hf:∀ f ∈ fs,f.2.length ≤ m) :
  ∃ v,w.cell? ⟨g,2 * done.length + 1,none⟩ = some v ∧ Flds w v fs:=by
 obtain ⟨M,N,xs,h0,h1,h2,h3,h4,k1,v,ys,k2,k3,k4,_⟩:=h
 have h3w:w.ownsRow B 40 2 (.slice (some ⟨g,0,none⟩) (done.length + 1) cap) (done.length + 1) xs:=h3
 refine ⟨v,own_cell h3w k2,?_⟩
 exact FldsIn.read (B:=B) (M:=w.heap.size) (N:=N) ⟨ys,own_mono (by simpa [cnt] using k3) (Nat.le_max_left _ _),fun j hj=>(own_lt k3 hj).2,k4⟩ hm hl hf
theorem flds_shape {w:World} {v:Value} {fs:List Fld} (h:Flds w v fs):∃ a cap,v = .slice a fs.length cap:=by
 obtain ⟨_,a,cap,h,_⟩:=h
 exact ⟨a,cap,h⟩
theorem own_new (w:World) (B:Nat) (T:TypeId) (v:Value) (hB:B ≤ w.heap.size):(w.alloc (.cells #[v] T)).ownsRow B T 1 (.slice (some ⟨w.heap.size,0,none⟩) 1 1) 1 [v] :=
 ⟨rfl,.inr ⟨w.heap.size,1,#[v],rfl,hB,Blk.Is.new w T #[v],Nat.le_refl _,by simp [maxLen],rfl,rfl⟩⟩
theorem Mem.reader {w:World} {B p:Nat} {sv:Value} {done:List Sz} {cur:Option (Int × List Fld × Option Fld)} {cs:Array Value} (h:Mem w B sv done cur) (hi:Blk.Is w p 209 cs) (i:Nat) (u:Value):Mem (w.setCell ⟨p,i,none⟩ u) B sv done cur :=
 h.chg (S':=fun k=>k = p) (Blk.Chg.setAt (S:=fun k=>k = p) (b:=p) (Blk.Chg.refl _ w) rfl) fun e he C sz v n zs hv _ k hk hk'=>by
  obtain ⟨cs',hcs⟩:=own_is hv hk
  rw [hk'] at hcs
  have:=(hi.inj hcs).1
  rcases he with rfl | rfl | rfl <;> exact absurd this (by decide)
def FieldPost (p B:Nat) (done:List Sz) (k:Int) (fs:List Fld) (nm r:Bs) (w:World) (e:Ending) (w':World):Prop :=
 Below B w w' ∧ ((fs.length = 40 ∧ e = .returned (.int .i64 12)) ∨ (fs.length ≠ 40 ∧ fs.any (fun g=>sameB g.1 nm) = true ∧ e = .returned (.int .i64 4)) ∨
  (fs.length ≠ 40 ∧ fs.any (fun g=>sameB g.1 nm) = false ∧ e = .returned (.int .i64 0) ∧ RdAt w' p B ⟨done,some (k,fs,(nm,[trimL r]))⟩))
theorem found_any {fs:List Fld} {nm:Bs} {r:Int} (h:Found fs nm r):fs.any (fun g=>sameB g.1 nm) = decide (0 ≤ r):=by
 rcases h with ⟨rfl,h⟩ | ⟨i,hi,rfl,h1,_⟩
 ·rw [show decide ((0:Int) ≤ -1) = false by decide,List.any_eq_false]
  intro f hf
  obtain ⟨i,hi,rfl⟩:=List.mem_iff_getElem.1 hf
  have:=h i hi
  simp [List.getD,List.getElem?_eq_getElem hi] at this
  simp [this]
 ·rw [show decide ((0:Int) ≤ (i:Int)) = true by simp,List.any_eq_true]
  refine ⟨fs.getD i ([],[]),by simp [List.getD,List.getElem?_eq_getElem hi],h1⟩
set_option maxRecDepth 100000 in
set_option maxHeartbeats 4000000 in
theorem field_nocut (p:Nat) (s:ByteArray) (n:Int) (w:World) (hs:s.size ≤ 1000000) (hM:Txt.MaxLen w) (hcut:cutL s.data.toList = none) :
  Calls Tryz.prog 228 #[.pointer (some ⟨p,0,none⟩),.string s,.int .i64 n] w fun e w'=>e = .returned (.int .i64 3) ∧ Below w.heap.size w w':=by
 have cc:=cut_any s w (by omega) hM
 rw [hcut] at cc
 simp only at cc
 have CC:=Lib.hid cc
 clear cc hM hcut
 go_enter Tryz.func228,Tryz.ntmps228
 go_wp2_with fail
 refine CC.out.mono ?_
 rintro e w1 ⟨rfl,m,rfl⟩
 go_wp2_with fail
 go_ret
 exact ⟨rfl,Txt.drewN_below w m⟩
set_option maxRecDepth 100000 in
set_option maxHeartbeats 4000000 in
theorem field_noname (p:Nat) (s:ByteArray) (n:Int) (nm r:Bs) (w:World) (hs:s.size ≤ 1000000) (hM:Txt.MaxLen w) (hcut:cutL s.data.toList = some (nm,r)) (hn:nameB nm = false) (hnl:nm.length ≤ 1000000) :
  Calls Tryz.prog 228 #[.pointer (some ⟨p,0,none⟩),.string s,.int .i64 n] w fun e w'=>e = .returned (.int .i64 3) ∧ Below w.heap.size w w':=by
 have cc:=cut_any s w (by omega) hM
 rw [hcut] at cc
 simp only at cc
 have CC:=Lib.hid cc
 have ci:=fun w=>isName_any (S nm) w (by rw [S_size]; omega)
 simp only [S_data,hn] at ci
 have CI:=Lib.hid ci
 clear cc hM hcut ci hn
 go_enter Tryz.func228,Tryz.ntmps228
 go_wp2_with fail
 refine CC.out.mono ?_
 rintro e w1 ⟨rfl,m,rfl⟩
 go_wp2_with fail
 refine (CI.out _).mono ?_
 rintro e w2 ⟨rfl,b2⟩
 go_wp2_with fail
 go_ret
 exact ⟨rfl,(Txt.drewN_below w m).trans b2⟩
set_option maxRecDepth 100000 in
set_option maxHeartbeats 4000000 in
theorem field_full (p B:Nat) (done:List Sz) (s:ByteArray) (n:Int) (nm r:Bs) (w:World) (hs:s.size ≤ 1000000) (hM:Txt.MaxLen w) (hcut:cutL s.data.toList = some (nm,r)) (hn:nameB nm = true) (hnl:nm.length ≤ 1000000)
  (h:RdAt w p B ⟨done,none⟩) (hd2:done.length = 200) :
  Calls Tryz.prog 228 #[.pointer (some ⟨p,0,none⟩),.string s,.int .i64 n] w fun e w'=>e = .returned (.int .i64 12) ∧ Below w.heap.size w w':=by
 have cc:=cut_any s w (by omega) hM
 rw [hcut] at cc
 simp only at cc
 have CC:=Lib.hid cc
 have ci:=fun w=>isName_any (S nm) w (by rw [S_size]; omega)
 simp only [S_data,hn] at ci
 have CI:=Lib.hid ci
 have HH:=Lib.hid h
 have HD:=Lib.hid hd2
 clear cc hM hcut ci hn h hd2
 go_enter Tryz.func228,Tryz.ntmps228
 go_wp2_with fail
 refine CC.out.mono ?_
 rintro e w1 ⟨rfl,m,rfl⟩
 go_wp2_with fail
 refine (CI.out _).mono ?_
 rintro e w2 ⟨rfl,b2⟩
 have hbw2:=(Txt.drewN_below w m).trans b2
 obtain ⟨sv,hi,M,N,xs,_,_,_,hown,_⟩:=HH.out
 have hi2:=(Blk.Chg.ofBelow' (S:=fun _=>False) hbw2).is hi (by simp)
 obtain ⟨a,cap,rfl,_⟩:=own_shape hown
 have c0:w2.cell? ⟨p,0,none⟩ = some (.slice a 200 cap):=by
  have:=hi2.at (i:=0) (v:=.slice a (done.length + cnt (curM ⟨done,none⟩)) cap) rfl
  rw [HD.out] at this
  exact this
 have c1:w2.cell? ⟨p,1,none⟩ = some (.bool false):=hi2.at rfl
 clear hi hi2 hown b2
 go_wp2_with fail
 go_ret
 exact ⟨rfl,hbw2⟩
set_option maxRecDepth 100000 in
set_option maxHeartbeats 8000000 in
theorem field_new (p B:Nat) (done:List Sz) (s:ByteArray) (n:Int) (nm r:Bs) (w:World) (hs:s.size ≤ 1000000) (hM:Txt.MaxLen w) (hT:Lib.Utf8Tabs 3 4 w) (hcut:cutL s.data.toList = some (nm,r)) (hn:nameB nm = true) (hnl:nm.length ≤ 1000000) (hrl:r.length ≤ 1000000)
  (h:RdAt w p B ⟨done,none⟩) (hpB:B ≤ p) (hBT:3 < B ∧ 4 < B) (hdl:done.length ≤ 200) (hd2:done.length ≠ 200) :
  Calls Tryz.prog 228 #[.pointer (some ⟨p,0,none⟩),.string s,.int .i64 n] w (FieldPost p B done n [] nm r w):=by
 have cc:=cut_any s w (by omega) hM
 rw [hcut] at cc
 simp only at cc
 have CC:=Lib.hid cc
 have ci:=fun w=>isName_any (S nm) w (by rw [S_size]; omega)
 simp only [S_data,hn] at ci
 have CI:=Lib.hid ci
 have ct:=first_any (S r)
 have CT:=Lib.hid ct
 have HH:=Lib.hid h
 have HTT:=Lib.hid hT
 have HBT:=Lib.hid hBT
 clear cc hM hcut ci hn h hT hBT ct
 go_enter Tryz.func228,Tryz.ntmps228
 go_wp2_with fail
 refine CC.out.mono ?_
 rintro e w1 ⟨rfl,m,rfl⟩
 go_wp2_with fail
 refine (CI.out _).mono ?_
 rintro e w2 ⟨rfl,b2⟩
 have hbw2:=(Txt.drewN_below w m).trans b2
 obtain ⟨sv,hi,hm⟩:=HH.out
 have hm2:=Mem.below hm hbw2
 have hi2:=(Blk.Chg.ofBelow' (S:=fun _=>False) hbw2).is hi (by simp)
 have HM2:=Lib.hid hm2
 have HI2:=Lib.hid hi2
 have HB2:=Lib.hid hbw2
 have HBW0:=Lib.hid (show B ≤ w.heap.size by obtain ⟨_,_,_,hh,_⟩:=hm; exact hh)
 have c0:w2.cell? ⟨p,0,none⟩ = some sv:=hi2.at rfl
 have c1:w2.cell? ⟨p,1,none⟩ = some (.bool false):=hi2.at rfl
 have f0:=hi2.free 0
 have f1:=hi2.free 1
 obtain ⟨W3,hW3⟩:∃ W3,w2.alloc (.cells #[.int .i64 n,.slice none 0 0] 40) = W3:=⟨_,rfl⟩
 have hb3:Below w2.heap.size w2 W3:=by rw [← hW3]; exact (Below.refl _ _).alloc (Nat.le_refl _) _
 have ha0:W3.cell? ⟨w2.heap.size,0,none⟩ = some (.int .i64 n):=by rw [← hW3]; exact (Blk.Is.new w2 40 #[.int .i64 n,.slice none 0 0]).at rfl
 have ha1:W3.cell? ⟨w2.heap.size,1,none⟩ = some (.slice none 0 0):=by rw [← hW3]; exact (Blk.Is.new w2 40 #[.int .i64 n,.slice none 0 0]).at rfl
 obtain ⟨xs,hown,hput⟩:=Mem.more (w:=W3) (B:=B) (sv:=sv) (done:=done) (hm2.below hb3) n
 obtain ⟨a,cap,rfl,_⟩:=own_shape hown
 have hi3:=(Blk.Chg.ofBelow' (S:=fun _=>False) hb3).is hi2 (by simp)
 have hB3:B ≤ W3.heap.size:=by
  obtain ⟨_,_,_,hh,_⟩:=hm2
  have:=hb3.size
  omega
 have HOWN:=Lib.hid hown
 have HPUT:=Lib.hid hput
 have HI3:=Lib.hid hi3
 have HB3:=Lib.hid (HB2.out.trans (hb3.mono HB2.out.size))
 have HA0:=Lib.hid ha0
 have HA1:=Lib.hid ha1
 have HBB:=Lib.hid hB3
 have HW3:=Lib.hid hW3
 obtain ⟨D,hD⟩:∃ D,done.length = D:=⟨_,rfl⟩
 have HD:=Lib.hid hD
 rw [hD] at c0 hdl hd2
 have hd3:((D:Int) == 200) = false:=by rw [beq_eq_false_iff_ne]; omega
 clear hm hi hm2 hi2 hbw2 b2 hput hown hD hW3 hb3 ha0 ha1 hi3 hB3 f0 f1
 go_wp2_with (at_builtin; rw [HW3.out]; refine append_two Tryz.underlying55 infoStanza rfl (by decide) rfl (.tmp 39) (.tmp 42) rfl B (.slice a D cap) D xs rfl (by rw [← HD.out]; exact HOWN.out) w2.heap.size 1 rfl (.int .i64 n) (.slice none 0 0) HA0.out HA1.out rfl rfl (by omega) HBB.out ?_; intro v' w4 h4 h5; obtain ⟨a4,c4,rfl,_⟩:=own_shape h4; have hg:=HPUT.out w4 _ (by rw [HD.out]; exact h4) (by rw [HD.out]; exact h5); have hi4:=hg.2.kinds p 209 _ (by decide) (by decide) (by decide) HI3.out; have c40:=hi4.at (i:=0) rfl; have c41:=hi4.at (i:=1) rfl; have f40:=hi4.free 0; have f41:=hi4.free 1; have HG:=Lib.hid hg; have HI4:=Lib.hid hi4; clear h4 h5 hg hi4 c0 c1)
 have hm6:=Mem.reader (Mem.reader HG.out.1 HI4.out 0 (.slice a4 (D + 1) c4)) (HI4.out.set 0 (.slice a4 (D + 1) c4)) 1 (.bool true)
 have hi6:Blk.Is ((w4.setCell ⟨p,0,none⟩ (.slice a4 (D + 1) c4)).setCell ⟨p,1,none⟩ (.bool true)) p 209 #[.slice a4 (D + 1) c4,.bool true]:=by
  have:=(HI4.out.set 0 (.slice a4 (D + 1) c4)).set 1 (.bool true)
  simpa using this
 have hb6:Below B w ((w4.setCell ⟨p,0,none⟩ (.slice a4 (D + 1) c4)).setCell ⟨p,1,none⟩ (.bool true)) :=
  (((HB3.out.mono HBW0.out).trans HG.out.2.below).setCell (p:=⟨p,0,none⟩) hpB _).setCell (p:=⟨p,1,none⟩) hpB _
 obtain ⟨W,hW⟩:∃ W,((w4.setCell ⟨p,0,none⟩ (.slice a4 (D + 1) c4)).setCell ⟨p,1,none⟩ (.bool true)) = W:=⟨_,rfl⟩
 rw [hW] at hm6 hi6 hb6 ⊢
 obtain ⟨g,capS,esv,hgB⟩:=memZ_fields hm6
 simp only [Value.slice.injEq] at esv
 obtain ⟨rfl,hDD,rfl⟩:=esv
 clear hDD
 have HBZ:=Lib.hid (show B ≤ W.heap.size from Nat.le_trans HBW0.out hb6.size)
 have HBW:=Lib.hid hb6
 have HIW:=Lib.hid hi6
 rw [← HD.out] at hm6
 have HMW:=Lib.hid hm6
 clear hW hm6 hi6 hb6 c40 c41 f40 f41 HG HI4 HM2 HI2 HOWN HPUT HI3 HA0 HA1 HW3 HBB CI CC
 obtain ⟨v,hv,hfl⟩:=Mem.fields HMW.out (m:=1000000) (by decide) (by simp) (fun f hf=>by cases hf)
 obtain ⟨av,capv,rfl⟩:=flds_shape hfl
 have hgl:g < W.heap.size:=Txt.lt_cell hv
 obtain ⟨F,hF⟩:∃ F,([]:List Fld).length = F:=⟨_,rfl⟩
 have HF:=Lib.hid hF
 have hF40:F ≤ 40:=by rw [← hF]; exact (by simp)
 rw [hF] at hv hfl
 rw [HD.out,Nat.mul_comm 2 D] at hv
 have HFL:=Lib.hid hfl
 have c0:W.cell? ⟨p,0,none⟩ = some (.slice (some ⟨g,0,none⟩) (D + 1) c4):=HIW.out.at rfl
 have k4:(D:Int) < (D:Int) + 1:=by omega
 have k0:(0:Int) ≤ D:=by omega
 have k2:(D:Int) ≤ 200:=by omega
 have hw0:IntKind.i64.wrap (D:Int) = (D:Int):=IntWalk.i64_in _ (by omega)
 clear hF hfl
 go_quiet (fail)
 obtain ⟨V,hV⟩:∃ V,W.drewN nq = V:=⟨_,rfl⟩
 have hbV:Below W.heap.size W V:=by rw [← hV]; exact Txt.drewN_below W nq
 have hvV:V.cell? ⟨g,D * 2 + 1,none⟩ = some (.slice av F capv):=by rw [hbV.cell hgl]; exact hv
 have HMV:=Lib.hid (HMW.out.below hbV)
 have HIV:=Lib.hid ((Blk.Chg.ofBelow' (S:=fun _=>False) hbV).is HIW.out (by simp))
 have HFV:=Lib.hid (HFL.out.below hbV)
 have HBV:=Lib.hid (HBW.out.trans (hbV.mono HBZ.out))
 have HBZV:=Lib.hid (Nat.le_trans HBZ.out hbV.size)
 rw [hV]
 clear hV hbV hv c0 HFL hgl hw0
 by_cases h40:F = 40
 ·have h40':((F:Int) == 40) = true:=by simp [h40]
  go_wp2_with fail
  go_ret
  exact ⟨HBV.out,.inl ⟨by rw [HF.out]; exact h40,rfl⟩⟩
 ·have h40':((F:Int) == 40) = false:=by rw [beq_eq_false_iff_ne]; omega
  have cfd:=find_any (.slice av F capv) ([]) nm V HFV.out (fun f hf=>by cases hf)
  have CFD:=Lib.hid cfd
  clear cfd
  go_wp2_with fail
  refine CFD.out.mono ?_
  rintro e w5 ⟨rr,rfl,hfound,b5⟩
  have HFO:=Lib.hid (found_any hfound)
  have hv5:w5.cell? ⟨g,D * 2 + 1,none⟩ = some (.slice av F capv):=by rw [b5.cell (Txt.lt_cell hvV)]; exact hvV
  have HM5:=Lib.hid (HMV.out.below b5)
  have HI5:=Lib.hid ((Blk.Chg.ofBelow' (S:=fun _=>False) b5).is HIV.out (by simp))
  have HB5:=Lib.hid (HBV.out.trans (b5.mono HBZV.out))
  have HBZ5:=Lib.hid (Nat.le_trans HBZV.out b5.size)
  clear hfound b5 hvV CFD HFV HMV HIV HMW HIW
  by_cases hrr:0 ≤ rr
  ·go_wp2_with fail
   go_ret
   exact ⟨HB5.out,.inr (.inl ⟨by rw [HF.out]; exact h40,by rw [HFO.out]; simpa using hrr,rfl⟩)⟩
  ·go_wp2_with fail
   obtain ⟨g',cap',v',C,ys,esv,hg5,d5,hC1,hC2,hown0,hput0⟩:=Mem.put HM5.out (Below.refl _ _)
   simp only [Value.slice.injEq,Option.some.injEq,Addr.mk.injEq,and_true,true_and] at esv
   obtain ⟨rfl,rfl⟩:=esv
   rw [HD.out,Nat.mul_comm 2 D,hv5] at d5
   obtain rfl:=Option.some.inj d5
   clear hown0 hput0 d5
   have hS:Below w5.heap.size w5 w5.drew:=(Below.refl _ _).drew
   have hd5:∀ x,Below w5.heap.size w5 x → x.cell? ⟨g,D * 2 + 1,none⟩ = some (.slice av F capv):=fun x hx=>by rw [hx.cell (Txt.lt_cell hv5)]; exact hv5
   have D5:=Lib.hid hd5
   have HS:=Lib.hid hS
   have hT5:Lib.Utf8Tabs 3 4 w5.drew:=Txt.tabs_below (Txt.tabs_below HTT.out HB5.out HBT.out) hS (by have:=HBZ5.out; have:=HBT.out; omega)
   have HT5:=Lib.hid hT5
   clear hS hd5 hv5 hT5
   refine Reg.wp_region_T 11 (fun x=>Below w5.heap.size w5 x) (by kernel_rfl) ?_
   change Reg.anyT _ _ _ _ 11 _ 15 _ _ _
   refine Reg.T_pure 0 (.pointer (some ⟨g,D * 2,none⟩)) rfl (by kernel_rfl) (fun _ _ _ h=>h) (.inl ⟨rfl,fun w _=>rfl⟩) HS.out ?_
   simp only [Act.put,List.getElem_toArray,List.getElem_cons_zero,List.getElem_cons_succ,List.setIfInBounds_toArray,List.set_cons_zero,List.set_cons_succ]
   refine Reg.T_pure 1 (.pointer (some ⟨g,D * 2,none⟩)) rfl (by kernel_rfl) (fun _ _ _ h=>h) (.inl ⟨rfl,fun w _=>rfl⟩) HS.out ?_
   simp only [Act.put,List.getElem_toArray,List.getElem_cons_zero,List.getElem_cons_succ,List.setIfInBounds_toArray,List.set_cons_zero,List.set_cons_succ]
   refine Reg.T_pure 2 (.pointer (some ⟨g,D * 2,none⟩)) rfl (by kernel_rfl) (fun _ _ _ h=>h) (.inl ⟨rfl,fun w _=>rfl⟩) HS.out ?_
   simp only [Act.put,List.getElem_toArray,List.getElem_cons_zero,List.getElem_cons_succ,List.setIfInBounds_toArray,List.set_cons_zero,List.set_cons_succ]
   refine Reg.T_pure 3 (.pointer (some ⟨g,D * 2 + 1,none⟩)) rfl (by kernel_rfl) (fun _ _ _ h=>h) (.inl ⟨rfl,fun w _=>rfl⟩) HS.out ?_
   simp only [Act.put,List.getElem_toArray,List.getElem_cons_zero,List.getElem_cons_succ,List.setIfInBounds_toArray,List.set_cons_zero,List.set_cons_succ]
   refine Reg.T_load 4 (.slice av F capv) rfl (by kernel_rfl) (fun _ _ _ h=>h) (Reg.yields_load_one rfl 38 _ rfl g (D * 2 + 1) rfl _ (fun x hx=>D5.out x hx) Tryz.isAgg38) HS.out ?_
   simp only [Act.put,List.getElem_toArray,List.getElem_cons_zero,List.getElem_cons_succ,List.setIfInBounds_toArray,List.set_cons_zero,List.set_cons_succ]
   refine Reg.T_pure 5 (.string (S nm)) rfl (by kernel_rfl) (fun _ _ _ h=>h) (.inl ⟨rfl,fun w _=>rfl⟩) HS.out ?_
   simp only [Act.put,List.getElem_toArray,List.getElem_cons_zero,List.getElem_cons_succ,List.setIfInBounds_toArray,List.set_cons_zero,List.set_cons_succ]
   refine Reg.T_pure 6 (.string (S r)) rfl (by kernel_rfl) (fun _ _ _ h=>h) (.inl ⟨rfl,fun w _=>rfl⟩) HS.out ?_
   simp only [Act.put,List.getElem_toArray,List.getElem_cons_zero,List.getElem_cons_succ,List.setIfInBounds_toArray,List.set_cons_zero,List.set_cons_succ]
   refine Reg.T_only 7 rfl (by kernel_rfl) ?_
   go_wp2_with fail
   refine (CT.out w5.drew (by rw [S_size]; omega) HT5.out).mono ?_
   rintro e w6 ⟨t,rfl,ht,b6⟩
   rw [S_data] at ht
   have hb6:=HS.out.trans (b6.mono HS.out.size)
   have HB6:=Lib.hid hb6
   have HTX:=Lib.hid (S_of ht)
   clear ht b6 hb6
   go_wp2_with fail
   change _ ∧ _
   refine ⟨fun _=>HB6.out,?_⟩
   refine Reg.T_only 8 rfl (by kernel_rfl) ?_
   go_wp2_with fail
   change _ ∧ _
   refine ⟨fun _=>HB6.out.alloc HB6.out.size _,?_⟩
   obtain ⟨W7,hW7⟩:∃ W7,w6.alloc (.cells #[.string t] 9) = W7:=⟨_,rfl⟩
   have hb7:Below w5.heap.size w5 W7:=by rw [← hW7]; exact HB6.out.alloc HB6.out.size _
   have hlv:W7.ownsRow w5.heap.size 9 1 (.slice (some ⟨w6.heap.size,0,none⟩) 1 1) 1 [.string (S (trimL r))]:=by rw [← hW7,HTX.out]; exact own_new w6 _ _ _ HB6.out.size
   rw [hW7]
   obtain ⟨z6,hz6⟩:∃ z6,w6.heap.size = z6:=⟨_,rfl⟩
   rw [hz6] at hlv ⊢
   have HB7:=Lib.hid hb7
   have HLV:=Lib.hid hlv
   clear hW7 hb7 hlv hz6
   refine Reg.T_only 9 rfl (by kernel_rfl) ?_
   go_wp2_with fail
   change _ ∧ _
   refine ⟨fun _=>HB7.out,?_⟩
   refine Reg.T_only 10 rfl (by kernel_rfl) ?_
   go_wp2_with fail
   change _ ∧ _
   refine ⟨fun _=>HB7.out.alloc HB7.out.size _,?_⟩
   refine Reg.T_only 11 rfl (by kernel_rfl) ?_
   obtain ⟨W8,hW8⟩:∃ W8,W7.alloc (.cells #[.string (S nm),.slice (some ⟨z6,0,none⟩) 1 1] 43) = W8:=⟨_,rfl⟩
   have hb78:Below W7.heap.size W7 W8:=by rw [← hW8]; exact (Below.refl _ _).alloc (Nat.le_refl _) _
   have hb8:Below w5.heap.size w5 W8:=HB7.out.trans (hb78.mono HB7.out.size)
   have ha0:W8.cell? ⟨W7.heap.size,0,none⟩ = some (.string (S nm)):=by rw [← hW8]; exact (Blk.Is.new W7 43 #[.string (S nm),.slice (some ⟨z6,0,none⟩) 1 1]).at rfl
   have ha1:W8.cell? ⟨W7.heap.size,1,none⟩ = some (.slice (some ⟨z6,0,none⟩) 1 1):=by rw [← hW8]; exact (Blk.Is.new W7 43 #[.string (S nm),.slice (some ⟨z6,0,none⟩) 1 1]).at rfl
   obtain ⟨g',cap',v',C',ys',esv,hg8,d8,hC3,hC4,hown,hput⟩:=Mem.put HM5.out hb8
   simp only [Value.slice.injEq,Option.some.injEq,Addr.mk.injEq,and_true,true_and] at esv
   obtain ⟨rfl,rfl⟩:=esv
   rw [HD.out,Nat.mul_comm 2 D,D5.out w5 (Below.refl _ _)] at d8
   obtain rfl:=Option.some.inj d8
   have HLV8:=Lib.hid (Own.owns_below HLV.out hb78)
   have HB8:=Lib.hid hb8
   have HOWN8:=Lib.hid hown
   have HPUT8:=Lib.hid hput
   have HA0:=Lib.hid ha0
   have HA1:=Lib.hid ha1
   have hC8:C' ≤ W8.heap.size:=Nat.le_trans hC4 hb8.size
   rw [hW8]
   clear d8 hown hput hW8 hb78 hb8 ha0 ha1
   refine append_two Tryz.underlying38 infoField rfl (by decide) rfl (.tmp 77) (.tmp 83) rfl C' (.slice av F capv) F ys' rfl (by have:=HOWN8.out; rw [HF.out] at this; exact this) W7.heap.size 1 rfl (.string (S nm)) (.slice (some ⟨z6,0,none⟩) 1 1) HA0.out HA1.out rfl rfl (by omega) hC8 ?_
   intro v9 w9 h9 h10
   obtain ⟨a9,c9,rfl,_⟩:=own_shape h9
   have hg9:=HPUT8.out w9 h10
   obtain ⟨⟨e1,e2⟩,e3⟩:=hg9
   have e4:=e3 nm (trimL r) (.slice (some ⟨z6,0,none⟩) 1 1) (.slice a9 (F + 1) c9) HLV8.out (by rw [HF.out]; exact h9)
   rw [HD.out,Nat.mul_comm 2 D] at e1 e2 e4
   have E4:=Lib.hid e4
   clear h9 h10 e3 e4
   change _ ∧ _
   refine ⟨fun hh=>absurd hh (by decide),?_⟩
   refine Reg.T_only 12 rfl (by kernel_rfl) ?_
   go_wp2_with fail
   change _ ∧ _
   refine ⟨fun hh=>absurd hh (by decide),?_⟩
   refine Reg.T_only 13 rfl (by kernel_rfl) ?_
   go_wp2_with fail
   change _ ∧ _
   refine ⟨fun hh=>absurd hh (by decide),?_⟩
   refine Reg.T_only 14 rfl (by kernel_rfl) ?_
   go_wp2_with fail
   change _ ∧ _
   refine ⟨fun hh=>absurd hh (by decide),?_⟩
   refine Reg.T_done (by kernel_rfl) ?_
   clear e1 e2
   go_wp2_with fail
   go_ret
   obtain ⟨m1,m2⟩:=E4.out
   have hi8:=(Blk.Chg.ofBelow' (S:=fun _=>False) HB8.out).is HI5.out (by simp)
   refine ⟨HB5.out.trans ((HB8.out.mono HBZ5.out).trans m2.below),.inr (.inr ⟨by rw [HF.out]; exact h40,by rw [HFO.out]; simpa using hrr,rfl,_,m2.kinds p 209 _ (by decide) (by decide) (by decide) hi8,?_⟩)⟩
   exact m1
set_option maxRecDepth 100000 in
set_option maxHeartbeats 8000000 in
theorem field_more (p B:Nat) (done:List Sz) (k:Int) (fs0:List Fld) (f0:Fld) (s:ByteArray) (n:Int) (nm r:Bs) (w:World) (hs:s.size ≤ 1000000) (hM:Txt.MaxLen w) (hT:Lib.Utf8Tabs 3 4 w) (hcut:cutL s.data.toList = some (nm,r)) (hn:nameB nm = true) (hnl:nm.length ≤ 1000000) (hrl:r.length ≤ 1000000)
  (h:RdAt w p B ⟨done,some (k,fs0,f0)⟩) (hpB:B ≤ p) (hBT:3 < B ∧ 4 < B) (hdl:done.length ≤ 200) (hfl:fs0.length + 1 ≤ 40) (hfn:∀ f ∈ fs0 ++ [f0],f.1.length ≤ 1000000) (hft:∀ f ∈ fs0 ++ [f0],f.2.length ≤ 1000000) :
  Calls Tryz.prog 228 #[.pointer (some ⟨p,0,none⟩),.string s,.int .i64 n] w (FieldPost p B done k (fs0 ++ [f0]) nm r w):=by
 have cc:=cut_any s w (by omega) hM
 rw [hcut] at cc
 simp only at cc
 have CC:=Lib.hid cc
 have ci:=fun w=>isName_any (S nm) w (by rw [S_size]; omega)
 simp only [S_data,hn] at ci
 have CI:=Lib.hid ci
 have ct:=first_any (S r)
 have CT:=Lib.hid ct
 have HH:=Lib.hid h
 have HTT:=Lib.hid hT
 have HBT:=Lib.hid hBT
 clear cc hM hcut ci hn h hT hBT ct
 have HFN:=Lib.hid hfn
 have HFT:=Lib.hid hft
 clear hfn hft
 go_enter Tryz.func228,Tryz.ntmps228
 go_wp2_with fail
 refine CC.out.mono ?_
 rintro e w1 ⟨rfl,m,rfl⟩
 go_wp2_with fail
 refine (CI.out _).mono ?_
 rintro e w2 ⟨rfl,b2⟩
 have hbw2:=(Txt.drewN_below w m).trans b2
 obtain ⟨sv,hi,hm⟩:=HH.out
 have hm2:=Mem.below hm hbw2
 have hi2:=(Blk.Chg.ofBelow' (S:=fun _=>False) hbw2).is hi (by simp)
 have HM2:=Lib.hid hm2
 have HI2:=Lib.hid hi2
 have HB2:=Lib.hid hbw2
 have HBW0:=Lib.hid (show B ≤ w.heap.size by obtain ⟨_,_,_,hh,_⟩:=hm; exact hh)
 have c0:w2.cell? ⟨p,0,none⟩ = some sv:=hi2.at rfl
 have c1:w2.cell? ⟨p,1,none⟩ = some (.bool true):=hi2.at rfl
 obtain ⟨D,hD⟩:∃ D,done.length = D:=⟨_,rfl⟩
 have HD:=Lib.hid hD
 have hmw:=Mem.shut (w:=w2) (B:=B) (sv:=sv) (done:=done) (n:=k) (fs:=fs0) (f:=f0) hm2
 obtain ⟨g,capS,rfl,hgB⟩:=memZ_fields hmw
 have HMW:=Lib.hid hmw
 have hi3:Blk.Is w2 p 209 #[.slice (some ⟨g,0,none⟩) (D + 1) capS,.bool true]:=by rw [← hD]; exact hi2
 have HIW:=Lib.hid hi3
 have HBW:=Lib.hid (hbw2.mono HBW0.out)
 have HBZ:=Lib.hid (show B ≤ w2.heap.size from Nat.le_trans HBW0.out hbw2.size)
 rw [hD] at c0 hdl
 clear hm hi hm2 hi2 hbw2 b2 hD hmw hi3 HM2 HI2
 go_wp2_with fail
 clear c0 c1 CI CC
 obtain ⟨v,hv,hfl⟩:=Mem.fields HMW.out (m:=1000000) (by decide) (by simp; omega) HFT.out
 obtain ⟨av,capv,rfl⟩:=flds_shape hfl
 have hgl:g < w2.heap.size:=Txt.lt_cell hv
 obtain ⟨F,hF⟩:∃ F,(fs0 ++ [f0]:List Fld).length = F:=⟨_,rfl⟩
 have HF:=Lib.hid hF
 have hF40:F ≤ 40:=by rw [← hF]; (simp; omega)
 rw [hF] at hv hfl
 rw [HD.out,Nat.mul_comm 2 D] at hv
 have HFL:=Lib.hid hfl
 have c0:w2.cell? ⟨p,0,none⟩ = some (.slice (some ⟨g,0,none⟩) (D + 1) capS):=HIW.out.at rfl
 have k4:(D:Int) < (D:Int) + 1:=by omega
 have k0:(0:Int) ≤ D:=by omega
 have k2:(D:Int) ≤ 200:=by omega
 have hw0:IntKind.i64.wrap (D:Int) = (D:Int):=IntWalk.i64_in _ (by omega)
 clear hF hfl
 go_quiet (fail)
 obtain ⟨V,hV⟩:∃ V,w2.drewN nq = V:=⟨_,rfl⟩
 have hbV:Below w2.heap.size w2 V:=by rw [← hV]; exact Txt.drewN_below w2 nq
 have hvV:V.cell? ⟨g,D * 2 + 1,none⟩ = some (.slice av F capv):=by rw [hbV.cell hgl]; exact hv
 have HMV:=Lib.hid (HMW.out.below hbV)
 have HIV:=Lib.hid ((Blk.Chg.ofBelow' (S:=fun _=>False) hbV).is HIW.out (by simp))
 have HFV:=Lib.hid (HFL.out.below hbV)
 have HBV:=Lib.hid (HBW.out.trans (hbV.mono HBZ.out))
 have HBZV:=Lib.hid (Nat.le_trans HBZ.out hbV.size)
 rw [hV]
 clear hV hbV hv c0 HFL hgl hw0
 by_cases h40:F = 40
 ·have h40':((F:Int) == 40) = true:=by simp [h40]
  go_wp2_with fail
  go_ret
  exact ⟨HBV.out,.inl ⟨by rw [HF.out]; exact h40,rfl⟩⟩
 ·have h40':((F:Int) == 40) = false:=by rw [beq_eq_false_iff_ne]; omega
  have cfd:=find_any (.slice av F capv) (fs0 ++ [f0]) nm V HFV.out (fun f hf=>by have:=HFN.out f hf; omega)
  have CFD:=Lib.hid cfd
  clear cfd
  go_wp2_with fail
  refine CFD.out.mono ?_
  rintro e w5 ⟨rr,rfl,hfound,b5⟩
  have HFO:=Lib.hid (found_any hfound)
  have hv5:w5.cell? ⟨g,D * 2 + 1,none⟩ = some (.slice av F capv):=by rw [b5.cell (Txt.lt_cell hvV)]; exact hvV
  have HM5:=Lib.hid (HMV.out.below b5)
  have HI5:=Lib.hid ((Blk.Chg.ofBelow' (S:=fun _=>False) b5).is HIV.out (by simp))
  have HB5:=Lib.hid (HBV.out.trans (b5.mono HBZV.out))
  have HBZ5:=Lib.hid (Nat.le_trans HBZV.out b5.size)
  clear hfound b5 hvV CFD HFV HMV HIV HMW HIW
  by_cases hrr:0 ≤ rr
  ·go_wp2_with fail
   go_ret
   exact ⟨HB5.out,.inr (.inl ⟨by rw [HF.out]; exact h40,by rw [HFO.out]; simpa using hrr,rfl⟩)⟩
  ·go_wp2_with fail
   obtain ⟨g',cap',v',C,ys,esv,hg5,d5,hC1,hC2,hown0,hput0⟩:=Mem.put HM5.out (Below.refl _ _)
   simp only [Value.slice.injEq,Option.some.injEq,Addr.mk.injEq,and_true,true_and] at esv
   obtain ⟨rfl,rfl⟩:=esv
   rw [HD.out,Nat.mul_comm 2 D,hv5] at d5
   obtain rfl:=Option.some.inj d5
   clear hown0 hput0 d5
   have hS:Below w5.heap.size w5 w5.drew:=(Below.refl _ _).drew
   have hd5:∀ x,Below w5.heap.size w5 x → x.cell? ⟨g,D * 2 + 1,none⟩ = some (.slice av F capv):=fun x hx=>by rw [hx.cell (Txt.lt_cell hv5)]; exact hv5
   have D5:=Lib.hid hd5
   have HS:=Lib.hid hS
   have hT5:Lib.Utf8Tabs 3 4 w5.drew:=Txt.tabs_below (Txt.tabs_below HTT.out HB5.out HBT.out) hS (by have:=HBZ5.out; have:=HBT.out; omega)
   have HT5:=Lib.hid hT5
   clear hS hd5 hv5 hT5
   refine Reg.wp_region_T 11 (fun x=>Below w5.heap.size w5 x) (by kernel_rfl) ?_
   change Reg.anyT _ _ _ _ 11 _ 15 _ _ _
   refine Reg.T_pure 0 (.pointer (some ⟨g,D * 2,none⟩)) rfl (by kernel_rfl) (fun _ _ _ h=>h) (.inl ⟨rfl,fun w _=>rfl⟩) HS.out ?_
   simp only [Act.put,List.getElem_toArray,List.getElem_cons_zero,List.getElem_cons_succ,List.setIfInBounds_toArray,List.set_cons_zero,List.set_cons_succ]
   refine Reg.T_pure 1 (.pointer (some ⟨g,D * 2,none⟩)) rfl (by kernel_rfl) (fun _ _ _ h=>h) (.inl ⟨rfl,fun w _=>rfl⟩) HS.out ?_
   simp only [Act.put,List.getElem_toArray,List.getElem_cons_zero,List.getElem_cons_succ,List.setIfInBounds_toArray,List.set_cons_zero,List.set_cons_succ]
   refine Reg.T_pure 2 (.pointer (some ⟨g,D * 2,none⟩)) rfl (by kernel_rfl) (fun _ _ _ h=>h) (.inl ⟨rfl,fun w _=>rfl⟩) HS.out ?_
   simp only [Act.put,List.getElem_toArray,List.getElem_cons_zero,List.getElem_cons_succ,List.setIfInBounds_toArray,List.set_cons_zero,List.set_cons_succ]
   refine Reg.T_pure 3 (.pointer (some ⟨g,D * 2 + 1,none⟩)) rfl (by kernel_rfl) (fun _ _ _ h=>h) (.inl ⟨rfl,fun w _=>rfl⟩) HS.out ?_
   simp only [Act.put,List.getElem_toArray,List.getElem_cons_zero,List.getElem_cons_succ,List.setIfInBounds_toArray,List.set_cons_zero,List.set_cons_succ]
   refine Reg.T_load 4 (.slice av F capv) rfl (by kernel_rfl) (fun _ _ _ h=>h) (Reg.yields_load_one rfl 38 _ rfl g (D * 2 + 1) rfl _ (fun x hx=>D5.out x hx) Tryz.isAgg38) HS.out ?_
   simp only [Act.put,List.getElem_toArray,List.getElem_cons_zero,List.getElem_cons_succ,List.setIfInBounds_toArray,List.set_cons_zero,List.set_cons_succ]
   refine Reg.T_pure 5 (.string (S nm)) rfl (by kernel_rfl) (fun _ _ _ h=>h) (.inl ⟨rfl,fun w _=>rfl⟩) HS.out ?_
   simp only [Act.put,List.getElem_toArray,List.getElem_cons_zero,List.getElem_cons_succ,List.setIfInBounds_toArray,List.set_cons_zero,List.set_cons_succ]
   refine Reg.T_pure 6 (.string (S r)) rfl (by kernel_rfl) (fun _ _ _ h=>h) (.inl ⟨rfl,fun w _=>rfl⟩) HS.out ?_
   simp only [Act.put,List.getElem_toArray,List.getElem_cons_zero,List.getElem_cons_succ,List.setIfInBounds_toArray,List.set_cons_zero,List.set_cons_succ]
   refine Reg.T_only 7 rfl (by kernel_rfl) ?_
   go_wp2_with fail
   refine (CT.out w5.drew (by rw [S_size]; omega) HT5.out).mono ?_
   rintro e w6 ⟨t,rfl,ht,b6⟩
   rw [S_data] at ht
   have hb6:=HS.out.trans (b6.mono HS.out.size)
   have HB6:=Lib.hid hb6
   have HTX:=Lib.hid (S_of ht)
   clear ht b6 hb6
   go_wp2_with fail
   change _ ∧ _
   refine ⟨fun _=>HB6.out,?_⟩
   refine Reg.T_only 8 rfl (by kernel_rfl) ?_
   go_wp2_with fail
   change _ ∧ _
   refine ⟨fun _=>HB6.out.alloc HB6.out.size _,?_⟩
   obtain ⟨W7,hW7⟩:∃ W7,w6.alloc (.cells #[.string t] 9) = W7:=⟨_,rfl⟩
   have hb7:Below w5.heap.size w5 W7:=by rw [← hW7]; exact HB6.out.alloc HB6.out.size _
   have hlv:W7.ownsRow w5.heap.size 9 1 (.slice (some ⟨w6.heap.size,0,none⟩) 1 1) 1 [.string (S (trimL r))]:=by rw [← hW7,HTX.out]; exact own_new w6 _ _ _ HB6.out.size
   rw [hW7]
   obtain ⟨z6,hz6⟩:∃ z6,w6.heap.size = z6:=⟨_,rfl⟩
   rw [hz6] at hlv ⊢
   have HB7:=Lib.hid hb7
   have HLV:=Lib.hid hlv
   clear hW7 hb7 hlv hz6
   refine Reg.T_only 9 rfl (by kernel_rfl) ?_
   go_wp2_with fail
   change _ ∧ _
   refine ⟨fun _=>HB7.out,?_⟩
   refine Reg.T_only 10 rfl (by kernel_rfl) ?_
   go_wp2_with fail
   change _ ∧ _
   refine ⟨fun _=>HB7.out.alloc HB7.out.size _,?_⟩
   refine Reg.T_only 11 rfl (by kernel_rfl) ?_
   obtain ⟨W8,hW8⟩:∃ W8,W7.alloc (.cells #[.string (S nm),.slice (some ⟨z6,0,none⟩) 1 1] 43) = W8:=⟨_,rfl⟩
   have hb78:Below W7.heap.size W7 W8:=by rw [← hW8]; exact (Below.refl _ _).alloc (Nat.le_refl _) _
   have hb8:Below w5.heap.size w5 W8:=HB7.out.trans (hb78.mono HB7.out.size)
   have ha0:W8.cell? ⟨W7.heap.size,0,none⟩ = some (.string (S nm)):=by rw [← hW8]; exact (Blk.Is.new W7 43 #[.string (S nm),.slice (some ⟨z6,0,none⟩) 1 1]).at rfl
   have ha1:W8.cell? ⟨W7.heap.size,1,none⟩ = some (.slice (some ⟨z6,0,none⟩) 1 1):=by rw [← hW8]; exact (Blk.Is.new W7 43 #[.string (S nm),.slice (some ⟨z6,0,none⟩) 1 1]).at rfl
   obtain ⟨g',cap',v',C',ys',esv,hg8,d8,hC3,hC4,hown,hput⟩:=Mem.put HM5.out hb8
   simp only [Value.slice.injEq,Option.some.injEq,Addr.mk.injEq,and_true,true_and] at esv
   obtain ⟨rfl,rfl⟩:=esv
   rw [HD.out,Nat.mul_comm 2 D,D5.out w5 (Below.refl _ _)] at d8
   obtain rfl:=Option.some.inj d8
   have HLV8:=Lib.hid (Own.owns_below HLV.out hb78)
   have HB8:=Lib.hid hb8
   have HOWN8:=Lib.hid hown
   have HPUT8:=Lib.hid hput
   have HA0:=Lib.hid ha0
   have HA1:=Lib.hid ha1
   have hC8:C' ≤ W8.heap.size:=Nat.le_trans hC4 hb8.size
   rw [hW8]
   clear d8 hown hput hW8 hb78 hb8 ha0 ha1
   refine append_two Tryz.underlying38 infoField rfl (by decide) rfl (.tmp 77) (.tmp 83) rfl C' (.slice av F capv) F ys' rfl (by have:=HOWN8.out; rw [HF.out] at this; exact this) W7.heap.size 1 rfl (.string (S nm)) (.slice (some ⟨z6,0,none⟩) 1 1) HA0.out HA1.out rfl rfl (by omega) hC8 ?_
   intro v9 w9 h9 h10
   obtain ⟨a9,c9,rfl,_⟩:=own_shape h9
   have hg9:=HPUT8.out w9 h10
   obtain ⟨⟨e1,e2⟩,e3⟩:=hg9
   have e4:=e3 nm (trimL r) (.slice (some ⟨z6,0,none⟩) 1 1) (.slice a9 (F + 1) c9) HLV8.out (by rw [HF.out]; exact h9)
   rw [HD.out,Nat.mul_comm 2 D] at e1 e2 e4
   have E4:=Lib.hid e4
   clear h9 h10 e3 e4
   change _ ∧ _
   refine ⟨fun hh=>absurd hh (by decide),?_⟩
   refine Reg.T_only 12 rfl (by kernel_rfl) ?_
   go_wp2_with fail
   change _ ∧ _
   refine ⟨fun hh=>absurd hh (by decide),?_⟩
   refine Reg.T_only 13 rfl (by kernel_rfl) ?_
   go_wp2_with fail
   change _ ∧ _
   refine ⟨fun hh=>absurd hh (by decide),?_⟩
   refine Reg.T_only 14 rfl (by kernel_rfl) ?_
   go_wp2_with fail
   change _ ∧ _
   refine ⟨fun hh=>absurd hh (by decide),?_⟩
   refine Reg.T_done (by kernel_rfl) ?_
   clear e1 e2
   go_wp2_with fail
   go_ret
   obtain ⟨m1,m2⟩:=E4.out
   have hi8:=(Blk.Chg.ofBelow' (S:=fun _=>False) HB8.out).is HI5.out (by simp)
   refine ⟨HB5.out.trans ((HB8.out.mono HBZ5.out).trans m2.below),.inr (.inr ⟨by rw [HF.out]; exact h40,by rw [HFO.out]; simpa using hrr,rfl,_,m2.kinds p 209 _ (by decide) (by decide) (by decide) hi8,?_⟩)⟩
   exact m1
end Stz
end Go.Proofs.YthmpepnikmdjpaaGreatDoor

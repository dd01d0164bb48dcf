/-
The law RecordTurned.
-/
import Derived.Test.YthmpepnikmdjpaaGreatDoorCRecAccK
import Derived.Test.YthmpepnikmdjpaaGreatDoorCValSort
import Derived.Test.YthmpepnikmdjpaaGreatDoorCRecSame
import Derived.Deep.RegionHeld3
import Derived.Deep.MidRow
import Derived.Test.YthmpepnikmdjpaaGreatDoorCRecFld
namespace Go.Proofs.YthmpepnikmdjpaaGreatDoor
open Go.RowKit
set_option linter.unusedSimpArgs false
set_option linter.unusedVariables false
namespace Rc
open Ver (Bs li li_len S S_self S_size S_li sameV)
open Va (Hi Vl VAt wrT rd knd)
open Stz (Fld Sz Flds Stzs sameB foldL partsL)
open Rl (At Pv Ats Pvs Clss Slc LimA LimP LimC Vars nA nP mem_getD may nmB isV pvA aV pV tcells)
def xF (ex:ByteArray):Fld:=([88,45,69,120,116,114,97],[li ex,[109,111,114,101]])
theorem left_len (l:Bs):(Txt.trimLeft l).length ≤ l.length:=by
 induction l with
 | nil=>exact Nat.le_refl _
 | cons c r ih =>
  unfold Txt.trimLeft
  split
  ·exact Nat.le_succ_of_le ih
  ·exact Nat.le_refl _
theorem trim_le (l:Bs):(Txt.trimL l).length ≤ l.length:=by
 unfold Txt.trimL Txt.trimRight
 rw [List.length_reverse]
 refine Nat.le_trans (left_len _) ?_
 rw [List.length_reverse]
 exact left_len _
theorem join_bound (a b:Bs):(foldL [a,b]).length ≤ a.length + b.length + 2:=by
 have ha:=trim_le a
 have hb:=trim_le b
 unfold foldL partsL
 simp only [List.map_cons,List.map_nil]
 cases h1:(Txt.trimL a).isEmpty <;> cases h2:(Txt.trimL b).isEmpty <;> simp [h1,h2,Lib.join_one,Lib.join_nil,Rl.join_two] <;> omega
theorem x_none (ex:ByteArray) (l:Int) (xs:Vls):rdF rdV l xs [xF ex] = .ok xs:=by
 have hk:knd (S [88,45,69,120,116,114,97]) = 7:=by decide +kernel
 have hn:∀ i,i < 11 → sameB [88,45,69,120,116,114,97] (nmAt i) = false:=by decide +kernel
 unfold rdF xF rdV
 rw [hk]
 have hr:∀ t,rd 7 t = .ok (.text t):=fun t=>by unfold rd; simp
 rw [hr]
 simp only
 rw [keep_else _ hn]
 rfl
theorem nm_len {n:Bs} (h:nmB n = true):n.length ≤ 24:=by
 cases n with
 | nil=>exact Nat.zero_le _
 | cons c r =>
  unfold nmB at h
  simp only [Bool.and_eq_true,decide_eq_true_eq] at h
  rw [List.length_cons]
  omega
theorem ok_small {p:Pk} (h:Ok p):∀ f ∈ flds (valsP p),FSmall f:=fun f hf=>by
 obtain ⟨i,hi,h1⟩:=List.mem_flatMap.1 hf
 have hi:=List.mem_range.1 hi
 unfold fldAt at h1
 split at h1
 ·cases h1
 ·rw [List.mem_singleton.1 h1]
  refine ⟨Nat.le_trans (nm_short i hi) (by decide),by simp,fun x hx=>?_⟩
  rw [List.mem_singleton.1 hx,li_len]
  have hv:=(Rl.ver_all h.vs).2.2
  match i,hi with
  | 0,_=>show (S p.nm).size ≤ _; rw [S_size]; exact Nat.le_trans (nm_len h.nm) (by decide)
  | 1,_=>show (S p.vs).size ≤ _; rw [S_size]; omega
  | 2,_=>exact Nat.le_trans (yes_size p.ess) (by decide)
  | 3,_=>exact Nat.le_trans (text_size p.pre) (by decide)
  | 4,_=>exact Nat.le_trans (text_size p.dep) (by decide)
  | 5,_=>exact Nat.le_trans (text_size p.rcm) (by decide)
  | 6,_=>exact Nat.le_trans (atoms_size p.con) (by decide)
  | 7,_=>exact Nat.le_trans (atoms_size p.brk) (by decide)
  | 8,_=>exact Nat.le_trans (provs_size p.prv) (by decide)
  | 9,_=>exact Nat.zero_le _
  | 10,_=>exact Nat.zero_le _
theorem turned_of {p:Pk} (h:Ok p) (ex:ByteArray) (line:Int):ofS (line,(flds (valsP p)).reverse ++ [xF ex]) = .ok p:=by
 rw [flds_plc,← List.map_reverse]
 exact of_places h line (plc (valsP p)).reverse (List.nodup_iff_pairwise_ne.2 (List.pairwise_reverse.2 ((List.nodup_iff_pairwise_ne.1 (plc_nodup _)).imp Ne.symm))) (fun i=>List.mem_reverse) [xF ex] (fun l xs=>x_none ex l xs)
theorem in_two {w:World} {b:Nat} {t u:ByteArray} {nm:Bs} (h:Blk.Is w b 9 #[.string t,.string u]):In b (b + 1) w fun z=>FldC z [.string (S nm),.slice (some ⟨b,0,none⟩) 2 2] (nm,[li t,li u]):=fun z hz=>⟨_,rfl,by
 have h2:=hz.is h (by omega)
 refine ⟨by simp,some ⟨b,0,none⟩,2,rfl,Nat.le_refl _,fun _=>⟨b,0,rfl,fun i hi=>?_⟩⟩
 have hi2:i = 0 ∨ i = 1:=by have:i < 2:=hi; omega
 rcases hi2 with rfl | rfl
 ·rw [h2.at (i:=0) rfl]
  show some (Value.string t) = some (.string (S (li t)))
  rw [S_self]
 ·rw [h2.at (i:=1) rfl]
  show some (Value.string u) = some (.string (S (li u)))
  rw [S_self]⟩
theorem pks_one {w:World} {b:Nat} {p:Pk} {cs:List Value} (h:PkC w cs p) (hb:Blk.Is w b 31 cs.toArray):Pks w (.slice (some ⟨b,0,none⟩) 1 1) [p] :=
 ⟨by simp,some ⟨b,0,none⟩,1,rfl,Nat.le_refl _,fun _=>⟨b,0,rfl,fun i hi=>by
  have hi0:i = 0:=by simpa using hi
  subst hi0
  exact ⟨cs,h,fun j u hj=>by rw [Nat.mul_zero,Nat.zero_add]; exact hb.at (by rw [← Array.getElem?_toList]; exact hj)⟩⟩⟩
set_option maxRecDepth 100000 in
set_option maxHeartbeats 16000000 in
theorem turned_walk (v:Value) (p:Pk) (ex:ByteArray) (w:World) (hpv:PkV w v p) (hL:p.Lim) (hex:ex.size ≤ 140737488351232) (hG:Gl w) (hP:Va.Pow w) :
  Calls Tryz.prog 11 #[v,.string ex] w fun e w'=>e = .returned (.bool true) ∧ Below w.heap.size w w':=by
 obtain ⟨u1,u2,u3,u4,u5,u6,rfl,h1⟩:=id hpv
 obtain ⟨W0,hW0⟩:∃ W,w.alloc (.cells #[.string (S p.nm),.string (S p.vs),u1,u2,u3,u4,u5,u6,.bool p.ess] 31) = W:=⟨_,rfl⟩
 have hB0:Below w.heap.size w W0:=by rw [← hW0]; exact (Below.refl _ _).alloc (Nat.le_refl _) _
 have hI0:=Blk.Is.new w 31 #[.string (S p.nm),.string (S p.vs),u1,u2,u3,u4,u5,u6,.bool p.ess]
 rw [hW0] at hI0
 have s0:W0.heap.size = w.heap.size + 1:=by rw [← hW0]; simp
 obtain ⟨W1,hW1⟩:∃ W,W0.alloc (.cells #[.string (S p.nm),.string (S p.vs),u1,u2,u3,u4,u5,u6,.bool p.ess] 31) = W:=⟨_,rfl⟩
 have hB1:Below W0.heap.size W0 W1:=by rw [← hW1]; exact (Below.refl _ _).alloc (Nat.le_refl _) _
 have hI1:=Blk.Is.new W0 31 #[.string (S p.nm),.string (S p.vs),u1,u2,u3,u4,u5,u6,.bool p.ess]
 rw [hW1,s0] at hI1
 have hb1:=hB0.trans (hB1.mono hB0.size)
 have cl:=light_any _ [p] W1 (pks_one (cs:=[.string (S p.nm),.string (S p.vs),u1,u2,u3,u4,u5,u6,.bool p.ess]) ⟨_,_,_,_,_,_,rfl,h1.below hb1⟩ hI1)
 have hi01:=Rl.is_on hI0 hB1
 have HPV:=Lib.hid hpv
 have HLM:=Lib.hid hL
 have HG:=Lib.hid hG
 have HP:=Lib.hid hP
 have HEX:=Lib.hid hex
 have B1:=Lib.hid hb1
 have I0:=Lib.hid hi01
 have x0:=hI0.at (i:=0) rfl
 have x1:=hI0.at (i:=1) rfl
 have x2:=hI0.at (i:=2) rfl
 have x3:=hI0.at (i:=3) rfl
 have x4:=hI0.at (i:=4) rfl
 have x5:=hI0.at (i:=5) rfl
 have x6:=hI0.at (i:=6) rfl
 have x7:=hI0.at (i:=7) rfl
 have x8:=hI0.at (i:=8) rfl
 have hi9:(Tryz.prog.info? 31).map (·.size) = some 9:=by kernel_rfl
 have hi45:(Tryz.prog.info? 45).map (·.size) = some 2:=by kernel_rfl
 obtain ⟨bl,hbl⟩:∃ b,lightB [p] = b:=⟨_,rfl⟩
 rw [hbl] at cl
 clear hpv hL hG hP hex hB0 hI0 hB1 hI1 hb1 hi01 h1 hbl
 go_enter Tryz.func11,Tryz.ntmps11
 go_wp2_with fail
 refine cl.mono ?_
 rintro e w2 ⟨rfl,k2⟩
 have B2:=Lib.hid (B1.out.trans (k2.mono B1.out.size))
 have I0:=Lib.hid (Rl.is_on I0.out k2)
 clear cl k2 x0 x1 x2 x3 x4 x5 x6 x7 x8 hW0 hW1 s0 B1
 cases bl with
 | false =>
  have ca:=awake_any w2 (HG.out.on B2.out)
  go_wp2_with fail
  refine ca.mono ?_
  rintro e wA ⟨rfl,kA⟩
  have hbA:=B2.out.trans (kA.mono B2.out.size)
  clear ca
  go_wp2_with fail
  go_ret
  exact ⟨rfl,hbA⟩
 | true =>
  have x0:=I0.out.at (i:=0) rfl
  have x1:=I0.out.at (i:=1) rfl
  have x2:=I0.out.at (i:=2) rfl
  have x3:=I0.out.at (i:=3) rfl
  have x4:=I0.out.at (i:=4) rfl
  have x5:=I0.out.at (i:=5) rfl
  have x6:=I0.out.at (i:=6) rfl
  have x7:=I0.out.at (i:=7) rfl
  have x8:=I0.out.at (i:=8) rfl
  have cs:=stanza_any _ p w2 (HPV.out.below B2.out) HLM.out (HG.out.on B2.out) (HP.out.on B2.out)
  obtain ⟨M,hM⟩:∃ M,mayK p = M:=⟨_,rfl⟩
  rw [hM] at cs
  have HM:=Lib.hid hM
  obtain ⟨FS,hFS⟩:∃ F,szF p = F:=⟨_,rfl⟩
  rw [hFS] at cs
  have HFS:=Lib.hid hFS
  clear hM hFS
  go_wp2_with fail
  refine cs.mono ?_
  rintro e w4 ⟨u,rfl,hF,k4⟩
  obtain ⟨fa,fc,rfl⟩:=flds_shape' hF.here
  obtain ⟨N,hN⟩:∃ N,FS.length = N:=⟨_,rfl⟩
  have HN:=Lib.hid hN
  have F4:=Lib.hid hF.here
  rw [hN] at ⊢
  have B4:=Lib.hid (B2.out.trans (k4.mono B2.out.size))
  have I04:=Lib.hid (Rl.is_on I0.out k4)
  have h5b:=(Below.refl w4.heap.size w4).alloc (Nat.le_refl _) (.cells #[.int .i64 0,.slice fa N fc] 40)
  have i5:=Blk.Is.new w4 40 #[.int .i64 0,.slice fa N fc]
  obtain ⟨w5,hw5⟩:∃ x,w4.alloc (.cells #[.int .i64 0,.slice fa N fc] 40) = x:=⟨_,rfl⟩
  rw [hw5] at h5b i5
  have s5:w5.heap.size = w4.heap.size + 1:=by rw [← hw5]; simp
  obtain ⟨b5,hb5⟩:∃ b,w4.heap.size = b:=⟨_,rfl⟩
  rw [hb5] at i5 s5
  have I5:=Lib.hid i5
  have B5:=Lib.hid (B4.out.trans (h5b.mono B4.out.size))
  have K5:=Lib.hid h5b
  have S5:=Lib.hid s5
  have BB5:=Lib.hid hb5
  have I05:=Lib.hid (Rl.is_on I04.out h5b)
  have d51:w5.cell? ⟨b5,1,none⟩ = some (.slice fa N fc):=i5.at (i:=1) rfl
  have HW5:=Lib.hid hw5
  clear cs hF k4 i5 h5b s5 hN B2 I0 I04 x0 x1 x2 x3 x4 x5 x6 x7 x8
  by_cases hz:M = 0
  ·have hok:Ok p:=mayK_ok.1 (by rw [HM.out]; exact hz)
   have HOK:=Lib.hid hok
   have HFL:Hid (FS = flds (valsP p)):=Lib.hid (by rw [← HFS.out]; unfold szF; rw [if_pos (by rw [HM.out]; exact hz)])
   subst hz
   have h6b:=(Below.refl w5.heap.size w5).alloc (Nat.le_refl _) (.cells #[.int .i64 3,.slice none 0 0] 40)
   have i7:=Blk.Is.new w5 40 #[.int .i64 3,.slice none 0 0]
   obtain ⟨w6,hw6⟩:∃ x,w5.alloc (.cells #[.int .i64 3,.slice none 0 0] 40) = x:=⟨_,rfl⟩
   rw [hw6] at h6b i7
   have s6:w6.heap.size = w5.heap.size + 1:=by rw [← hw6]; simp
   obtain ⟨b7,hb7⟩:∃ b,w5.heap.size = b:=⟨_,rfl⟩
   rw [hb7] at i7 s6
   have B6:=Lib.hid (B5.out.trans (h6b.mono B5.out.size))
   have I57:=Lib.hid (Rl.is_on I5.out h6b)
   have I7:=Lib.hid i7
   have I06:=Lib.hid (Rl.is_on I05.out h6b)
   have K6:=Lib.hid (K5.out.trans (h6b.mono K5.out.size))
   have Z6:=Lib.hid (show b5 + 1 = b7 ∧ w6.heap.size = b7 + 1 ∧ w4.heap.size = b5 from ⟨by rw [← hb7]; exact S5.out.symm,s6,BB5.out⟩)
   have d57:w6.cell? ⟨b5,1,none⟩ = some (.slice fa N fc):=I57.out.at (i:=1) rfl
   have HW6:=Lib.hid hw6
   clear h6b i7 s6 I5 I05 K5 B5 d51 hw6
   go_upto_region 7 with fail
   rw [HW6.out]
   go_wp2_with fail
   clear d57 HW6 hb7 hw5 hb5
   have HFS2:=Lib.hid (show N ≤ 11 by rw [← HN.out,HFL.out,flds_plc,List.length_map]; exact Nat.le_trans (List.length_filter_le _ _) (by simp))
   go_loopg [36] N (fun gf s36 wx=>∃ (i:Nat) (a:Option Addr) (c:Nat),s36 = .int .i64 i ∧ Hid (Blk.Is wx b7 40 #[.int .i64 3,.slice a i c]) ∧ Hid (AccK FldC 2 43 w6.heap.size (fun g=>g = b7) wx (.slice a i c) (FS.reverse.take i)) ∧ Hid (Blk.Chg (fun j=>j = b7) w6 wx) ∧ i ≤ N ∧ N ≤ i + gf)
   case atStart=>exact ⟨0,none,0,rfl,I7,Lib.hid (AccK.nil _ _ _ _ _ _),Lib.hid (Blk.Chg.refl _ _),by omega,by omega⟩
   case round =>
    obtain ⟨i,a,c,rfl,J7,HA,HC,hin,hfu⟩:=hrel
    by_cases hlt:i < N
    ·obtain ⟨g',rfl⟩:∃ g',gk = g' + 1:=⟨gk - 1,by omega⟩
     have hlt':(i:Int) < (N:Int):=by omega
     have hi0:(0:Int) ≤ i:=by omega
     have hN11:=HFS2.out
     have hz7:=Z6.out
     have hbl:Below w4.heap.size w4 wr:=((Blk.Chg.ofBelow' (S:=fun j=>w4.heap.size ≤ j) K6.out).trans (HC.out.mono fun k _ hk=>by show w4.heap.size ≤ k; have hk:k = b7:=hk; omega)).below (fun k hk=>hk) (Nat.le_refl _)
     obtain ⟨_,fa',fc',e1,_,hat0⟩:=F4.out
     simp only [Value.slice.injEq,true_and] at e1
     obtain ⟨rfl,rfl⟩:=e1
     have hNl:FS.length = N:=HN.out
     obtain ⟨kb,off,rfl,hat⟩:=hat0 (by omega)
     obtain ⟨j,hj⟩:∃ j,N - 1 - i = j:=⟨_,rfl⟩
     have hjN:j < FS.length:=by omega
     obtain ⟨f0,tu,f1,hft⟩:=hat j hjN
     rw [Nat.mul_comm 2 j] at f0 f1
     have hrev:FS.reverse.take (i + 1) = FS.reverse.take i ++ [FS.getD j ([],[])]:=by
      have hil:i < FS.reverse.length:=by rw [List.length_reverse]; omega
      rw [← List.take_append_getElem hil,List.getElem_reverse,List.getD_eq_getElem?_getD,List.getElem?_eq_getElem hjN,Option.getD_some]
      congr 3
      omega
     obtain ⟨_,ta,tc,rfl,_,_⟩:=id hft
     generalize hx:FS.getD j ([],[]) = x at *
     obtain ⟨tn,htn⟩:∃ n,(x.2.map Stz.S).length = n:=⟨_,rfl⟩
     rw [htn] at f1 hft
     have hkb:kb < w6.heap.size:=by
      have h1:=Va.lt_cell f0
      have h1:kb < w4.heap.size:=h1
      omega
     clear htn
     have hj1:(N:Int) - 1 - (i:Int) = (j:Int):=by omega
     have hj0:(0:Int) ≤ (j:Int):=by omega
     have hjn:(j:Int) < (N:Int):=by omega
     have I5r:=Lib.hid (HC.out.is I57.out (by show ¬ b5 = b7; omega))
     have hS0:Blk.Is wr.drew b7 40 #[.int .i64 3,.slice a i c] ∧ Blk.Is wr.drew b5 40 #[.int .i64 0,.slice (some ⟨kb,off,none⟩) N fc] ∧ wr.drew.rangeAt kb (off + j * 2) [.string (S x.1),.slice ta tn tc]:=⟨J7.out.drew,I5r.out.drew,fun q u hq=>by
      match q,hq with
      | 0,hq=>cases hq; exact Rl.cell_on f0 hbl.drew
      | 1,hq=>cases hq; exact Rl.cell_on f1 hbl.drew⟩
     have HS:=Lib.hid hS0
     have A0:=Lib.hid (HA.out.on (Below.refl _ _).drew)
     have C0:=Lib.hid (HC.out.drew)
     have HRV:=Lib.hid hrev
     have hlen:(FS.reverse.take i).length = i:=by rw [List.length_take,List.length_reverse]; omega
     have HLE:=Lib.hid hlen
     have IN:=Lib.hid (show In 0 w4.heap.size wr.drew (fun u=>FldC u [.string (S x.1),.slice ta tn tc] x) from fun u hu=>⟨_,rfl,by
      have hb2:Below w4.heap.size wr.drew u:=Blk.Chg.below hu (fun k hk=>by rcases hk with hk | hk <;> omega) (by show w4.heap.size ≤ wr.heap.size; exact hbl.size)
      have hb3:Below w4.heap.size w4 u:=(hbl.drew).trans hb2
      exact hft.below hb3⟩)
     clear hS0 hrev hlen HA HC hat hat0 f0 f1 hft hbl hx J7 I5r
     go_upto_region 10 with fail
     refine Reg.wp_region_T 15 (fun z=>Blk.Is z b7 40 #[.int .i64 3,.slice a i c] ∧ Blk.Is z b5 40 #[.int .i64 0,.slice (some ⟨kb,off,none⟩) N fc] ∧ z.rangeAt kb (off + j * 2) [.string (S x.1),.slice ta tn tc]) (by kernel_rfl) ?_
     change Reg.anyT _ _ _ _ 15 _ 16 _ _ _
     generalize wr.drew = y0 at *
     refine Reg.T_pure 0 (.pointer (some ⟨b7,1,none⟩)) rfl (by kernel_rfl) (fun _ _ _ h=>h) (.inl ⟨rfl,fun w _=>rfl⟩) HS.out ?_
     simp only [Act.put,List.getElem_toArray,List.getElem_cons_zero,List.getElem_cons_succ,List.setIfInBounds_toArray,List.set_cons_zero,List.set_cons_succ]
     refine Reg.T_load 1 (.slice a i c) rfl (by kernel_rfl) (fun _ _ _ h=>h) (Reg.yields_load_one rfl 38 _ rfl b7 1 rfl (.slice a i c) (fun x hx=>hx.1.at (i:=1) rfl) Tryz.isAgg38) HS.out ?_
     simp only [Act.put,List.getElem_toArray,List.getElem_cons_zero,List.getElem_cons_succ,List.setIfInBounds_toArray,List.set_cons_zero,List.set_cons_succ]
     refine Reg.T_pure 2 (.pointer (some ⟨b5,1,none⟩)) rfl (by kernel_rfl) (fun _ _ _ h=>h) (.inl ⟨rfl,fun w _=>rfl⟩) HS.out ?_
     simp only [Act.put,List.getElem_toArray,List.getElem_cons_zero,List.getElem_cons_succ,List.setIfInBounds_toArray,List.set_cons_zero,List.set_cons_succ]
     refine Reg.T_load 3 (.slice (some ⟨kb,off,none⟩) N fc) rfl (by kernel_rfl) (fun _ _ _ h=>h) (Reg.yields_load_one rfl 38 _ rfl b5 1 rfl (.slice (some ⟨kb,off,none⟩) N fc) (fun x hx=>hx.2.1.at (i:=1) rfl) Tryz.isAgg38) HS.out ?_
     simp only [Act.put,List.getElem_toArray,List.getElem_cons_zero,List.getElem_cons_succ,List.setIfInBounds_toArray,List.set_cons_zero,List.set_cons_succ]
     refine Reg.T_pure 4 (.pointer (some ⟨b5,1,none⟩)) rfl (by kernel_rfl) (fun _ _ _ h=>h) (.inl ⟨rfl,fun w _=>rfl⟩) HS.out ?_
     simp only [Act.put,List.getElem_toArray,List.getElem_cons_zero,List.getElem_cons_succ,List.setIfInBounds_toArray,List.set_cons_zero,List.set_cons_succ]
     refine Reg.T_load 5 (.slice (some ⟨kb,off,none⟩) N fc) rfl (by kernel_rfl) (fun _ _ _ h=>h) (Reg.yields_load_one rfl 38 _ rfl b5 1 rfl (.slice (some ⟨kb,off,none⟩) N fc) (fun x hx=>hx.2.1.at (i:=1) rfl) Tryz.isAgg38) HS.out ?_
     simp only [Act.put,List.getElem_toArray,List.getElem_cons_zero,List.getElem_cons_succ,List.setIfInBounds_toArray,List.set_cons_zero,List.set_cons_succ]
     refine Reg.T_pure 6 (.int .i64 N) rfl (by kernel_rfl) (fun _ _ _ h=>h) (.inl ⟨rfl,fun w _=>by kernel_rfl⟩) HS.out ?_
     simp only [Act.put,List.getElem_toArray,List.getElem_cons_zero,List.getElem_cons_succ,List.setIfInBounds_toArray,List.set_cons_zero,List.set_cons_succ]
     refine Reg.T_pure 7 (.int .i64 ((N:Int) - 1)) rfl (by kernel_rfl) (fun _ _ _ h=>h) (.inl ⟨rfl,fun w _=>by simp [execOp,go_sem]; exact IntWalk.i64_in _ (by omega)⟩) HS.out ?_
     simp only [Act.put,List.getElem_toArray,List.getElem_cons_zero,List.getElem_cons_succ,List.setIfInBounds_toArray,List.set_cons_zero,List.set_cons_succ]
     refine Reg.T_pure 8 (.int .i64 i) rfl (by kernel_rfl) (fun _ _ _ h=>h) (.inl ⟨rfl,fun w _=>rfl⟩) HS.out ?_
     simp only [Act.put,List.getElem_toArray,List.getElem_cons_zero,List.getElem_cons_succ,List.setIfInBounds_toArray,List.set_cons_zero,List.set_cons_succ]
     refine Reg.T_pure 9 (.int .i64 (j:Int)) rfl (by kernel_rfl) (fun _ _ _ h=>h) (.inl ⟨rfl,fun w _=>by simp [execOp,go_sem]; rw [hj1]; exact IntWalk.i64_in _ (by omega)⟩) HS.out ?_
     simp only [Act.put,List.getElem_toArray,List.getElem_cons_zero,List.getElem_cons_succ,List.setIfInBounds_toArray,List.set_cons_zero,List.set_cons_succ]
     refine Reg.T_pure 10 (.pointer (some ⟨kb,off + j * 2,none⟩)) rfl (by kernel_rfl) (fun _ _ _ h=>h) (.inl ⟨rfl,fun w _=>by simp [execOp,go_sem]; intro h; exact absurd h (by omega)⟩) HS.out ?_
     simp only [Act.put,List.getElem_toArray,List.getElem_cons_zero,List.getElem_cons_succ,List.setIfInBounds_toArray,List.set_cons_zero,List.set_cons_succ]
     refine Reg.T_load 11 (.agg [.string (S x.1),.slice ta tn tc].toArray) rfl (by kernel_rfl) (fun _ _ _ h=>h) (yieldsIf_load_mid rfl 43 (.tmp 49) rfl kb (off + j * 2) rfl [.string (S x.1),.slice ta tn tc] _ (fun w h=>h.2.2) Tryz.underlying43 rfl (by kernel_rfl)) HS.out ?_
     simp only [Act.put,List.getElem_toArray,List.getElem_cons_zero,List.getElem_cons_succ,List.setIfInBounds_toArray,List.set_cons_zero,List.set_cons_succ]
     have g2:=(Below.refl y0.heap.size y0).alloc (Nat.le_refl _) (.cells #[.string (S x.1),.slice ta tn tc] 43)
     have i2:=Blk.Is.new y0 43 #[.string (S x.1),.slice ta tn tc]
     have HS2:=Lib.hid (show Blk.Is (y0.alloc (.cells #[.string (S x.1),.slice ta tn tc] 43)) b7 40 #[.int .i64 3,.slice a i c] ∧ Blk.Is (y0.alloc (.cells #[.string (S x.1),.slice ta tn tc] 43)) b5 40 #[.int .i64 0,.slice (some ⟨kb,off,none⟩) N fc] ∧ (y0.alloc (.cells #[.string (S x.1),.slice ta tn tc] 43)).rangeAt kb (off + j * 2) [.string (S x.1),.slice ta tn tc] from ⟨Rl.is_on HS.out.1 g2,Rl.is_on HS.out.2.1 g2,fun q u hq=>Rl.cell_on (HS.out.2.2 q u hq) g2⟩)
     have A2:=Lib.hid (A0.out.on g2)
     have C2:=Lib.hid (C0.out.trans (Blk.Chg.ofBelow' g2))
     have IN2:=Lib.hid (IN.out.on (Blk.Chg.ofBelow' g2))
     refine Reg.T_only 12 rfl (by kernel_rfl) ?_
     go_wp2_with fail
     change _ ∧ _
     refine ⟨by first | exact HS2.out | exact fun _=>HS2.out,?_⟩
     obtain ⟨px,hpx⟩:∃ p,y0.heap.size = p:=⟨_,rfl⟩
     rw [hpx] at i2
     try rw [hpx]
     have hz0:w6.heap.size ≤ y0.heap.size:=C0.out.size
     have hz2:y0.heap.size ≤ (y0.alloc (.cells #[.string (S x.1),.slice ta tn tc] 43)).heap.size:=g2.size
     clear g2 A0 C0 IN HS hpx
     generalize y0.alloc (.cells #[.string (S x.1),.slice ta tn tc] 43) = y2 at *
     have own:=A2.out.own
     rw [HLE.out] at own
     have hBn:w6.heap.size ≤ y2.heap.size:=by omega
     have hn7:i + 1 ≤ 70000:=by omega
     refine Reg.T_only 13 rfl (by kernel_rfl) ?_
     refine append_at Tryz.underlying38 Stz.infoField rfl (by decide) rfl (.tmp 40) (.tmp 51) rfl w6.heap.size (.slice a i c) i rfl own px 1 rfl [.string (S x.1),.slice ta tn tc] rfl (fun j u hj=>i2.at (by rw [← Array.getElem?_toList]; exact hj)) (fun u hu=>by simp only [List.mem_cons,List.not_mem_nil,or_false] at hu; rcases hu with rfl | rfl <;> rfl) hn7 hBn ?_
     intro v' w9 h2 h3 h4
     have hownlo:∀ g,Value.ownBlock (.slice a i c) = some g → w6.heap.size ≤ g:=fun g hg=>(Rl.own_lt own.choose_spec hg).1
     have acc9:=A2.out.more (cs:=[.string (S x.1),.slice ta tn tc]) rfl IN2.out (by omega) (fun g hg=>by rcases hg with hg | hg; have:=hownlo g hg; exact .inr (by omega); exact .inr (by omega)) (fun g hg=>by have hg:g = b7:=hg; omega) (by rw [HLE.out]; exact h2) h3 h4
     have hch:Blk.Chg (fun q=>Value.ownBlock (.slice a i c) = some q) y2 w9:=(Blk.Chg.refl _ _).grown h3 (fun g hg _=>hg)
     have hlt7:b7 < w6.heap.size:=by omega
     have s9:=hch.is HS2.out.1 (fun h=>by have:=hownlo _ h; omega)
     have t9:=hch.is HS2.out.2.1 (fun h=>by have:=hownlo _ h; omega)
     have c9:Blk.Chg (fun q=>q = b7) w6 w9:=C2.out.grown h3 (fun g hg hl=>by have:=hownlo g hg; omega)
     have r9:w9.rangeAt kb (off + j * 2) [.string (S x.1),.slice ta tn tc]:=fun q u hq=>by
      have hq2:=HS2.out.2.2 q u hq
      have hb:=hch.below (B:=w6.heap.size) hownlo (by omega)
      rw [hb.cell (by exact hkb)]
      exact hq2
     obtain ⟨a9,cc9,e9⟩:=acc9.shape
     rw [List.length_append,HLE.out,List.length_singleton] at e9
     subst e9
     have AC9:=Lib.hid acc9
     have S9:=Lib.hid (⟨s9,t9,r9⟩:_ ∧ _ ∧ _)
     have C9:=Lib.hid c9
     clear h2 h3 h4 acc9 hch s9 t9 r9 c9 own A2 C2 IN2 HS2 i2
     go_wp2_with fail
     change _ ∧ _
     refine ⟨by first | exact S9.out | exact fun _=>S9.out,?_⟩
     refine Reg.T_only 14 rfl (by kernel_rfl) ?_
     go_wp2_with fail
     change _ ∧ _
     refine ⟨by first | exact S9.out | exact fun _=>S9.out,?_⟩
     have e7:w9.cell? ⟨b7,1,none⟩ = some (.slice a i c):=S9.out.1.at (i:=1) rfl
     have f7:=S9.out.1.free 1
     refine Reg.T_only 15 rfl (by kernel_rfl) ?_
     go_wp2_with fail
     change _ ∧ _
     refine ⟨fun h=>absurd h (by decide),?_⟩
     refine Reg.T_done (by kernel_rfl) ?_
     have J10:=Lib.hid (S9.out.1.set 1 (.slice a9 (i + 1) cc9))
     have A10:=Lib.hid (AC9.out.write ((Blk.Chg.refl (fun q=>q = b7) w9).setAt (b:=b7) (o:=1) (u:=.slice a9 (i + 1) cc9) rfl))
     have C10:=Lib.hid (C9.out.setAt (b:=b7) (o:=1) (u:=.slice a9 (i + 1) cc9) rfl)
     rw [← HRV.out] at A10
     clear e7 f7 S9 AC9 C9
     try simp only [List.length_cons,List.length_nil,Nat.zero_add]
     generalize w9.setCell ⟨b7,1,none⟩ (.slice a9 (i + 1) cc9) = w10 at *
     go_wp2_with fail
     go_roundg g'
     case measure=>omega
     case rel=>exact ⟨i + 1,a9,cc9,by go_num,J10,A10,C10,by omega,by omega⟩
    ·have hge:¬ (i:Int) < (N:Int):=by omega
     obtain rfl:i = N:=by omega
     have hz7:=Z6.out
     have hN11:=HFS2.out
     have hrl:FS.reverse.length = i:=by rw [List.length_reverse]; exact HN.out
     have htk:FS.reverse.take i = FS.reverse:=List.take_of_length_le (by omega)
     rw [htk] at HA
     obtain ⟨W2,hW2,hB2,hs2,hT0,hT1⟩:=two_new wr 9 43 #[.string ex,.string ⟨#[109,111,114,101]⟩] #[.string ⟨#[88,45,69,120,116,114,97]⟩,.slice (some ⟨wr.heap.size,0,none⟩) 2 2]
     have hin:=in_two (nm:=[88,45,69,120,116,114,97]) hT0
     have hli:li ⟨#[109,111,114,101]⟩ = [109,111,114,101]:=S_li _
     rw [hli] at hin
     have ha2:=HA.out.on hB2
     have c2:=HC.out.trans (Blk.Chg.ofBelow' hB2)
     have l7:=Rl.is_on J7.out hB2
     have hown:=ha2.own
     rw [hrl] at hown
     have hw6:w6.heap.size ≤ wr.heap.size:=HC.out.size
     have hlow:∀ g,Value.ownBlock (.slice a i c) = some g ∨ g = b7 → g < wr.heap.size ∨ wr.heap.size + 1 ≤ g:=fun g hg=>by
      rcases hg with hg | hg
      ·exact .inl (Rl.own_lt HA.out.own.choose_spec hg).2
      ·exact .inl (by omega)
     have hown0:∀ g,Value.ownBlock (.slice a i c) = some g → w6.heap.size ≤ g:=fun g hg=>(Rl.own_lt HA.out.own.choose_spec hg).1
     have d1:wr.cell? ⟨b7,1,none⟩ = some (.slice a i c):=J7.out.at (i:=1) rfl
     have hm2:wr.heap.size + 1 ≤ W2.heap.size:=by omega
     have hn7:i + 1 ≤ 70000:=by omega
     have hlt7:b7 < w6.heap.size:=by omega
     have hlt72:b7 < W2.heap.size:=by omega
     have hle2:w6.heap.size ≤ W2.heap.size:=by omega
     obtain ⟨bx,hbx⟩:∃ bx,wr.heap.size = bx:=⟨_,rfl⟩
     rw [hbx] at hT1 hin hlow hm2 hs2 hW2 hw6
     have HW2:=Lib.hid hW2
     have HT1:=Lib.hid hT1
     have HIN:=Lib.hid hin
     have AC2:=Lib.hid ha2
     have CH2:=Lib.hid c2
     have L7:=Lib.hid l7
     have OWN:=Lib.hid hown
     have LOW:=Lib.hid hlow
     have OW0:=Lib.hid hown0
     have HRL:=Lib.hid hrl
     clear ha2 c2 l7 hT0 hT1 hin hown hlow hown0 hW2 hB2 hli htk hrl hz7 hN11 hs2 HA HC J7
     go_wp2_with (first | (at_builtin; (try rw [HW2.out]); refine append_at Tryz.underlying38 Stz.infoField rfl (by decide) rfl (.tmp 56) (.tmp 60) rfl w6.heap.size (.slice a i c) i rfl OWN.out (bx + 1) 1 rfl [.string ⟨#[88,45,69,120,116,114,97]⟩,.slice (some ⟨bx,0,none⟩) 2 2] rfl (fun j u hj=>HT1.out.at (by rw [← Array.getElem?_toList]; exact hj)) (fun u hu=>by simp only [List.mem_cons,List.not_mem_nil,or_false] at hu; rcases hu with rfl | rfl <;> rfl) hn7 hle2 ?_; intro v' w9 h2 h3 h4; have acc9:=AC2.out.more (cs:=[.string ⟨#[88,45,69,120,116,114,97]⟩,.slice (some ⟨bx,0,none⟩) 2 2]) rfl HIN.out hm2 LOW.out (fun g hg=>by have hg:g = b7:=hg; omega) (by rw [HRL.out]; exact h2) h3 h4; have hch:Blk.Chg (fun q=>Value.ownBlock (.slice a i c) = some q) W2 w9:=(Blk.Chg.refl _ _).grown h3 (fun g hg _=>hg); have m7:=hch.is L7.out (fun h=>by have:=OW0.out _ h; omega); have c9:Blk.Chg (fun q=>q = b7) w6 w9:=CH2.out.grown h3 (fun g hg hl=>by have:=OW0.out g hg; omega); obtain ⟨a9,cc9,e9⟩:=acc9.shape; rw [List.length_append,HRL.out,List.length_singleton] at e9; subst e9; have d90:w9.cell? ⟨b7,0,none⟩ = some (.int .i64 3):=m7.at (i:=0) rfl; have d9:w9.cell? ⟨b7,1,none⟩ = some (.slice a i c):=m7.at (i:=1) rfl; have f9:w9.frozen? ⟨b7,1,none⟩ = false:=m7.free 1; have J10:=Lib.hid (m7.set 1 (.slice a9 (i + 1) cc9)); have A10:=Lib.hid (acc9.write ((Blk.Chg.refl (fun q=>q = b7) w9).setAt (b:=b7) (o:=1) (u:=.slice a9 (i + 1) cc9) rfl)); have C10:=Lib.hid (c9.setAt (b:=b7) (o:=1) (u:=.slice a9 (i + 1) cc9) rfl); clear h2 h3 h4 acc9 hch m7 c9 AC2 CH2 L7 OWN LOW OW0 HT1 HIN) | fail)
     clear d90 d9 f9 d1 hbx HW2 hm2 hw6 hlt72 hle2
     have hw9:w9.heap.size = (w9.setCell ⟨b7,1,none⟩ (.slice a9 (i + 1) cc9)).heap.size:=by simp [World.setCell]
     generalize w9.setCell ⟨b7,1,none⟩ (.slice a9 (i + 1) cc9) = w10 at *
     have hz7:=Z6.out
     have hN11:=HFS2.out
     have hrl:=HRL.out
     have hb10:Below w4.heap.size w4 w10:=((Blk.Chg.ofBelow' (S:=fun j=>w4.heap.size ≤ j) K6.out).trans (C10.out.mono fun k _ hk=>by show w4.heap.size ≤ k; have hk:k = b7:=hk; omega)).below (fun k hk=>hk) (Nat.le_refl _)
     have B10:=Lib.hid (B4.out.trans (hb10.mono B4.out.size))
     have hBl:=B4.out.size
     have I510:=Lib.hid (C10.out.is I57.out (by show ¬ b5 = b7; omega))
     have I010:=Lib.hid (C10.out.is I06.out (by show ¬ w.heap.size = b7; omega))
     have F10:=Lib.hid (F4.out.below hb10)
     have hfl:=A10.out.flds (by rw [List.length_append,hrl,List.length_singleton]; omega)
     have hsm:=ok_small HOK.out
     have hok1:∀ f ∈ FS.reverse ++ [xF ex],FOk f:=fun f hf=>by
      rcases List.mem_append.1 hf with hf | hf
      ·exact (hsm f (by rw [← HFL.out]; exact List.mem_reverse.1 hf)).ok
      ·rw [List.mem_singleton.1 hf]
       have hx:=HEX.out
       have hl:(li ex).length = ex.size:=li_len ex
       refine ⟨by show 7 ≤ 140737488351232; decide,by show 2 ≤ 100000; decide,fun x hx2=>?_,?_⟩
       ·have hx2:x = li ex ∨ x = [109,111,114,101]:=by simpa [xF] using hx2
        rcases hx2 with rfl | rfl
        ·rw [hl]; exact hx
        ·decide
       ·refine Nat.le_trans (join_bound _ _) ?_
        rw [hl]
        show ex.size + 4 + 2 ≤ _
        omega
     have hok2:∀ f ∈ FS,FOk f:=fun f hf=>(hsm f (by rw [← HFL.out]; exact hf)).ok
     have co:=of_any 3 (.slice a9 (i + 1) cc9) (FS.reverse ++ [xF ex]) w10 (HG.out.on B10.out) ⟨by omega,by omega⟩ hfl hok1
     have et:ofS (3,FS.reverse ++ [xF ex]) = .ok p:=by rw [HFL.out]; exact turned_of HOK.out ex 3
     rw [et] at co
     have es:ofS (0,FS) = .ok p:=by rw [HFL.out]; exact of_sz HOK.out 0
     have ES:=Lib.hid es
     have HO2:=Lib.hid hok2
     have HB4:=Lib.hid hBl
     clear hw9 hz7 hN11 hrl hb10 hfl hsm hok1 hok2 et es hBl C10 A10 J10 HRL F4 I57 I06
     try go_wp2_with fail
     refine co.mono ?_
     rintro e w11 ⟨cs,x,er,ln,rfl,hh,k11,rfl,rfl,rfl⟩
     obtain ⟨cl⟩:=cs
     obtain ⟨y1,y2,y3,y4,y5,y6,hcl,hy⟩:=hh.here
     obtain rfl:cl = _:=hcl
     obtain ⟨c9,hc9⟩:∃ c,w11.heap.size = c:=⟨_,rfl⟩
     obtain ⟨V,hV,hBV,hsz,hP9,hPe⟩:=two_new w11 31 45 #[.string ⟨#[]⟩,.string ⟨#[]⟩,.slice none 0 0,.slice none 0 0,.slice none 0 0,.slice none 0 0,.slice none 0 0,.slice none 0 0,.bool false] #[.int .i64 0,.int .i64 0]
     rw [hc9] at hP9 hPe
     have hBW:Below w11.heap.size w11 ((V.setRow c9 #[.string (S x.nm),.string (S x.vs),y1,y2,y3,y4,y5,y6,.bool x.ess]).setRow (c9 + 1) #[.int .i64 0,.int .i64 0]):=Va.below_row (Va.below_row hBV (by omega) _) (by omega) _
     have hJ9:=(hP9.row #[.string (S x.nm),.string (S x.vs),y1,y2,y3,y4,y5,y6,.bool x.ess]).rowOther (g:=c9 + 1) #[.int .i64 0,.int .i64 0] (by omega)
     have hPe2:=hPe.rowOther (g:=c9) #[.string (S x.nm),.string (S x.vs),y1,y2,y3,y4,y5,y6,.bool x.ess] (by omega)
     have hJe:=hPe2.row #[.int .i64 0,.int .i64 0]
     have HV:=Lib.hid hV
     have HP9:=Lib.hid hP9
     have HPE:=Lib.hid hPe2
     have hb11:=k11.trans (hBW.mono k11.size)
     have I5W:=Lib.hid (Rl.is_on I510.out hb11)
     have I0W:=Lib.hid (Rl.is_on I010.out hb11)
     have FW:=Lib.hid (F10.out.below hb11)
     have BW:=Lib.hid (B10.out.trans (hb11.mono B10.out.size))
     have HY:=Lib.hid (hy.below hBW)
     have J9:=Lib.hid hJ9
     have JE:=Lib.hid hJe
     have hy1:=clss_one hy.pre
     have hy2:=clss_one hy.dep
     have hy3:=clss_one hy.rcm
     have hy4:=ats_one hy.con
     have hy5:=ats_one hy.brk
     have hy6:=pvs_one hy.prv
     have d50:((V.setRow c9 #[.string (S x.nm),.string (S x.vs),y1,y2,y3,y4,y5,y6,.bool x.ess]).setRow (c9 + 1) #[.int .i64 0,.int .i64 0]).cell? ⟨b5,0,none⟩ = some (.int .i64 0):=I5W.out.at (i:=0) rfl
     have d51:((V.setRow c9 #[.string (S x.nm),.string (S x.vs),y1,y2,y3,y4,y5,y6,.bool x.ess]).setRow (c9 + 1) #[.int .i64 0,.int .i64 0]).cell? ⟨b5,1,none⟩ = some (.slice fa i fc):=I5W.out.at (i:=1) rfl
     have co:=of_any 0 (.slice fa i fc) FS ((V.setRow c9 #[.string (S x.nm),.string (S x.vs),y1,y2,y3,y4,y5,y6,.bool x.ess]).setRow (c9 + 1) #[.int .i64 0,.int .i64 0]) (HG.out.on BW.out) ⟨by omega,by omega⟩ (by have:=FW.out; rw [HN.out] at this; exact this) HO2.out
     rw [ES.out] at co
     clear hh hy hBW hb11 hJ9 hJe hP9 hPe hPe2 hBV hV hsz k11 F10 I510 I010 B10 FW I5W
     go_wp2_with (first | (rw [HV.out]; refine wpList_store_row rfl 31 (.tmp 9) (.tmp 66) rfl c9 #[.string (S x.nm),.string (S x.vs),y1,y2,y3,y4,y5,y6,.bool x.ess] rfl rfl 31 #[.string ⟨#[]⟩,.string ⟨#[]⟩,.slice none 0 0,.slice none 0 0,.slice none 0 0,.slice none 0 0,.slice none 0 0,.slice none 0 0,.bool false] HP9.out hi9 (by rfl) (by simp [Value.oneCell']; exact ⟨hy1,hy2,hy3,hy4,hy5,hy6⟩) ?_; clear hy1 hy2 hy3 hy4 hy5 hy6) | (refine wpList_store_row rfl 45 (.tmp 10) (.tmp 67) rfl (c9 + 1) #[.int .i64 0,.int .i64 0] rfl rfl 45 #[.int .i64 0,.int .i64 0] HPE.out hi45 (by rfl) (by simp [Value.oneCell']) ?_) | fail)
     clear d50 d51 HPE HP9 HV hc9
     generalize (V.setRow c9 #[.string (S x.nm),.string (S x.vs),y1,y2,y3,y4,y5,y6,.bool x.ess]).setRow (c9 + 1) #[.int .i64 0,.int .i64 0] = W at *
     refine co.mono ?_
     rintro e w12 ⟨cs2,x2,er2,ln2,rfl,hh,k12,rfl,rfl,hx⟩
     have hx:=hx.symm
     subst hx
     obtain ⟨cl2⟩:=cs2
     obtain ⟨t1,t2,t3,t4,t5,t6,hcl,ht⟩:=hh.here
     obtain rfl:cl2 = _:=hcl
     obtain ⟨c11,hc11⟩:∃ c,w12.heap.size = c:=⟨_,rfl⟩
     obtain ⟨V2,hV,hBV,hsz,hP9,hPe⟩:=two_new w12 31 45 #[.string ⟨#[]⟩,.string ⟨#[]⟩,.slice none 0 0,.slice none 0 0,.slice none 0 0,.slice none 0 0,.slice none 0 0,.slice none 0 0,.bool false] #[.int .i64 0,.int .i64 0]
     rw [hc11] at hP9 hPe
     have hBW:Below w12.heap.size w12 ((V2.setRow c11 #[.string (S x.nm),.string (S x.vs),t1,t2,t3,t4,t5,t6,.bool x.ess]).setRow (c11 + 1) #[.int .i64 0,.int .i64 0]):=Va.below_row (Va.below_row hBV (by omega) _) (by omega) _
     have hJ11:=(hP9.row #[.string (S x.nm),.string (S x.vs),t1,t2,t3,t4,t5,t6,.bool x.ess]).rowOther (g:=c11 + 1) #[.int .i64 0,.int .i64 0] (by omega)
     have hPe2:=hPe.rowOther (g:=c11) #[.string (S x.nm),.string (S x.vs),t1,t2,t3,t4,t5,t6,.bool x.ess] (by omega)
     have hJe:=hPe2.row #[.int .i64 0,.int .i64 0]
     have HV:=Lib.hid hV
     have HP9:=Lib.hid hP9
     have HPE:=Lib.hid hPe2
     have hb12:=k12.trans (hBW.mono k12.size)
     have I0Z:=Lib.hid (Rl.is_on I0W.out hb12)
     have J9Z:=Lib.hid (Rl.is_on J9.out hb12)
     have JEZ:=Lib.hid (Rl.is_on JE.out hb12)
     have BZ:=Lib.hid (BW.out.trans (hb12.mono BW.out.size))
     have HYZ:=Lib.hid (HY.out.below hb12)
     have HTZ:=Lib.hid (ht.below hBW)
     have J11:=Lib.hid hJ11
     have J12:=Lib.hid hJe
     have hy1:=clss_one ht.pre
     have hy2:=clss_one ht.dep
     have hy3:=clss_one ht.rcm
     have hy4:=ats_one ht.con
     have hy5:=ats_one ht.brk
     have hy6:=pvs_one ht.prv
     have g10:((V2.setRow c11 #[.string (S x.nm),.string (S x.vs),t1,t2,t3,t4,t5,t6,.bool x.ess]).setRow (c11 + 1) #[.int .i64 0,.int .i64 0]).cell? ⟨c9 + 1,0,none⟩ = some (.int .i64 0):=JEZ.out.at (i:=0) rfl
     have g12:((V2.setRow c11 #[.string (S x.nm),.string (S x.vs),t1,t2,t3,t4,t5,t6,.bool x.ess]).setRow (c11 + 1) #[.int .i64 0,.int .i64 0]).cell? ⟨c11 + 1,0,none⟩ = some (.int .i64 0):=J12.out.at (i:=0) rfl
     have x0:=I0Z.out.at (i:=0) rfl
     have x1:=I0Z.out.at (i:=1) rfl
     have x2:=I0Z.out.at (i:=2) rfl
     have x3:=I0Z.out.at (i:=3) rfl
     have x4:=I0Z.out.at (i:=4) rfl
     have x5:=I0Z.out.at (i:=5) rfl
     have x6:=I0Z.out.at (i:=6) rfl
     have x7:=I0Z.out.at (i:=7) rfl
     have x8:=I0Z.out.at (i:=8) rfl
     have z0:=J9Z.out.at (i:=0) rfl
     have z1:=J9Z.out.at (i:=1) rfl
     have z2:=J9Z.out.at (i:=2) rfl
     have z3:=J9Z.out.at (i:=3) rfl
     have z4:=J9Z.out.at (i:=4) rfl
     have z5:=J9Z.out.at (i:=5) rfl
     have z6:=J9Z.out.at (i:=6) rfl
     have z7:=J9Z.out.at (i:=7) rfl
     have z8:=J9Z.out.at (i:=8) rfl
     have cy:=ysame_any (.agg #[.string (S x.nm),.string (S x.vs),u1,u2,u3,u4,u5,u6,.bool x.ess]) (.agg #[.string (S x.nm),.string (S x.vs),y1,y2,y3,y4,y5,y6,.bool x.ess]) x x ((V2.setRow c11 #[.string (S x.nm),.string (S x.vs),t1,t2,t3,t4,t5,t6,.bool x.ess]).setRow (c11 + 1) #[.int .i64 0,.int .i64 0]) (HPV.out.below BZ.out) ⟨_,_,_,_,_,_,rfl,HYZ.out⟩
     rw [(eqP_iff x x).2 rfl] at cy
     clear hh ht hBW hb12 hJ11 hJe hP9 hPe hPe2 hBV hV hsz k12 I0W J9 JE BW HY co
     go_wp2_with (first | (rw [HV.out]; refine wpList_store_row rfl 31 (.tmp 11) (.tmp 71) rfl c11 #[.string (S x.nm),.string (S x.vs),t1,t2,t3,t4,t5,t6,.bool x.ess] rfl rfl 31 #[.string ⟨#[]⟩,.string ⟨#[]⟩,.slice none 0 0,.slice none 0 0,.slice none 0 0,.slice none 0 0,.slice none 0 0,.slice none 0 0,.bool false] HP9.out hi9 (by rfl) (by simp [Value.oneCell']; exact ⟨hy1,hy2,hy3,hy4,hy5,hy6⟩) ?_; clear hy1 hy2 hy3 hy4 hy5 hy6) | (refine wpList_store_row rfl 45 (.tmp 12) (.tmp 72) rfl (c11 + 1) #[.int .i64 0,.int .i64 0] rfl rfl 45 #[.int .i64 0,.int .i64 0] HPE.out hi45 (by rfl) (by simp [Value.oneCell']) ?_) | fail)
     clear HPE HP9 HV hc11 g10 g12 x0 x1 x2 x3 x4 x5 x6 x7 x8 z0 z1 z2 z3 z4 z5 z6 z7 z8
     generalize (V2.setRow c11 #[.string (S x.nm),.string (S x.vs),t1,t2,t3,t4,t5,t6,.bool x.ess]).setRow (c11 + 1) #[.int .i64 0,.int .i64 0] = Z at *
     refine cy.mono ?_
     rintro e Z2 ⟨rfl,k13⟩
     have B14:=Lib.hid (BZ.out.trans (k13.mono BZ.out.size))
     have i0z:=Rl.is_on I0Z.out k13
     have i11z:=Rl.is_on J11.out k13
     have x0:=i0z.at (i:=0) rfl
     have x1:=i0z.at (i:=1) rfl
     have x2:=i0z.at (i:=2) rfl
     have x3:=i0z.at (i:=3) rfl
     have x4:=i0z.at (i:=4) rfl
     have x5:=i0z.at (i:=5) rfl
     have x6:=i0z.at (i:=6) rfl
     have x7:=i0z.at (i:=7) rfl
     have x8:=i0z.at (i:=8) rfl
     have z0:=i11z.at (i:=0) rfl
     have z1:=i11z.at (i:=1) rfl
     have z2:=i11z.at (i:=2) rfl
     have z3:=i11z.at (i:=3) rfl
     have z4:=i11z.at (i:=4) rfl
     have z5:=i11z.at (i:=5) rfl
     have z6:=i11z.at (i:=6) rfl
     have z7:=i11z.at (i:=7) rfl
     have z8:=i11z.at (i:=8) rfl
     have cy2:=ysame_any (.agg #[.string (S x.nm),.string (S x.vs),u1,u2,u3,u4,u5,u6,.bool x.ess]) (.agg #[.string (S x.nm),.string (S x.vs),t1,t2,t3,t4,t5,t6,.bool x.ess]) x x Z2 (HPV.out.below B14.out) ⟨_,_,_,_,_,_,rfl,HTZ.out.below k13⟩
     rw [(eqP_iff x x).2 rfl] at cy2
     clear cy k13 i0z i11z I0Z J9Z JEZ HYZ HTZ J11 J12 BZ
     go_wp2_with fail
     refine cy2.mono ?_
     rintro e Z3 ⟨rfl,k14⟩
     have B15:=Lib.hid (B14.out.trans (k14.mono B14.out.size))
     clear cy2 k14 B14 x0 x1 x2 x3 x4 x5 x6 x7 x8 z0 z1 z2 z3 z4 z5 z6 z7 z8
     have ca:=awake_any Z3 (HG.out.on B15.out)
     go_wp2_with fail
     refine ca.mono ?_
     rintro e wA ⟨rfl,kA⟩
     have hbA:=B15.out.trans (kA.mono B15.out.size)
     clear ca
     go_wp2_with fail
     go_ret
     exact ⟨rfl,hbA⟩
  ·have hz1:(M != 0) = true:=by simp [hz]
   have hn0:N = 0:=by rw [← HN.out,← HFS.out]; unfold szF; rw [if_neg (by rw [HM.out]; exact hz)]; rfl
   subst hn0
   have ca:=awake_any w5 (HG.out.on B5.out)
   clear hz
   go_wp2_with fail
   refine ca.mono ?_
   rintro e wA ⟨rfl,kA⟩
   have hbA:=B5.out.trans (kA.mono B5.out.size)
   clear ca
   go_wp2_with fail
   go_ret
   exact ⟨rfl,hbA⟩
end Rc
end Go.Proofs.YthmpepnikmdjpaaGreatDoor

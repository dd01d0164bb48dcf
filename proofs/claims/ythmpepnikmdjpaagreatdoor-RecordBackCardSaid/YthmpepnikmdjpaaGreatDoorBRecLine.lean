/-
The entry that the values of fields are; a field of an entry. A field of an entry, as it is read. How great the pieces are of what is read; what is read may be printed but for its length. The reference's Fold: the same as Fold. At which lines stanzas begin; a line that many lines further; the Fold of a field's lines is no longer than texts may be.
-/
import Derived.Test.YthmpepnikmdjpaaGreatDoorBRecPkg
import Derived.Test.YthmpepnikmdjpaaGreatDoorBValRead
import Derived.Test.YthmpepnikmdjpaaGreatDoorBStzLines
import Derived.Test.YthmpepnikmdjpaaGreatDoorBStzPField
import Derived.Test.YthmpepnikmdjpaaGreatDoorBRecDef
import Derived.Test.YthmpepnikmdjpaaGreatDoorBStzLine
import Derived.Test.YthmpepnikmdjpaaGreatDoorBRecFld
namespace Go.Proofs.YthmpepnikmdjpaaGreatDoor
open Go.RowKit
set_option linter.unusedSimpArgs false
set_option linter.unusedVariables false
namespace Rc
open Ver (Bs li li_len S S_self S_size S_li)
open Rl (At Pv Ats Pvs Clss Slc LimA LimP LimC Vars)
open Va (Hi Vl VAt wrT rd knd Rdr)
open Stz (sameB sameS)
theorem cfgT_list:cfgT.toList = [99,111,110,102,105,103,117,114,101,100]:=by decide +kernel
theorem unpT_list:unpT.toList = [117,110,112,97,99,107,101,100]:=by decide +kernel
set_option maxRecDepth 100000 in
set_option maxHeartbeats 16000000 in
theorem entry_any (cs:Array Value) (xs:Vls) (B:Nat) (w:World) (hV:Vs B w cs xs) (hs:SmallV xs) :
  Calls Tryz.prog 137 #[.agg cs] w fun e w'=>∃ u1 u2 u3 u4 u5 u6,e = .returned (.agg #[.string (xs 0).txt,.string (xs 1).txt,u1,u2,u3,u4,u5,u6,.bool (xs 2).ye,.bool (decide ((xs 9).txt = cfgT)),.bool (xs 10).ye]) ∧ HasH w.heap.size w' (pkOf xs) u1 u2 u3 u4 u5 u6 ∧ Below w.heap.size w w':=by
 obtain ⟨v9,hv9,ha9⟩:=hV.at_ 9 (by omega)
 obtain ⟨v10,hv10,ha10⟩:=hV.at_ 10 (by omega)
 have hsz:=valsSz hV.len
 have s1:(w.alloc (.cells cs 99)).heap.size = w.heap.size + 1:=by simp
 have i1:=Blk.Is.new w 99 cs
 have i2:=Blk.Is.new (w.alloc (.cells cs 99)) 68 #[.string ⟨#[]⟩,.string ⟨#[]⟩,.slice none 0 0,.slice none 0 0,.slice none 0 0,.slice none 0 0,.slice none 0 0,.slice none 0 0,.bool false,.bool false,.bool false]
 rw [s1] at i2
 have hb:Below w.heap.size w ((w.alloc (.cells cs 99)).alloc (.cells #[.string ⟨#[]⟩,.string ⟨#[]⟩,.slice none 0 0,.slice none 0 0,.slice none 0 0,.slice none 0 0,.slice none 0 0,.slice none 0 0,.bool false,.bool false,.bool false] 68)):=((Below.refl _ _).alloc (Nat.le_refl _) _).alloc (by omega) _
 have i1':=i1.alloc (.cells #[.string ⟨#[]⟩,.string ⟨#[]⟩,.slice none 0 0,.slice none 0 0,.slice none 0 0,.slice none 0 0,.slice none 0 0,.slice none 0 0,.bool false,.bool false,.bool false] 68)
 have s2:w.heap.size + 2 ≤ ((w.alloc (.cells cs 99)).alloc (.cells #[.string ⟨#[]⟩,.string ⟨#[]⟩,.slice none 0 0,.slice none 0 0,.slice none 0 0,.slice none 0 0,.slice none 0 0,.slice none 0 0,.bool false,.bool false,.bool false] 68)).heap.size:=by simp
 obtain ⟨W,hW⟩:∃ W,(w.alloc (.cells cs 99)).alloc (.cells #[.string ⟨#[]⟩,.string ⟨#[]⟩,.slice none 0 0,.slice none 0 0,.slice none 0 0,.slice none 0 0,.slice none 0 0,.slice none 0 0,.bool false,.bool false,.bool false] 68) = W:=⟨_,rfl⟩
 rw [hW] at i2 hb i1' s2
 have HA9:=Lib.hid ha9
 have HA10:=Lib.hid ha10
 have HV9:=Lib.hid hv9
 have HV10:=Lib.hid hv10
 have HB:=Lib.hid hb
 have IB:=Lib.hid i1'
 have IR:=Lib.hid i2
 have RG:=Lib.hid (range_vals i1')
 have SZ:=Lib.hid hsz
 have S2:=Lib.hid s2
 have CP:=Lib.hid (pkg_any cs xs B W (hV.below hb) hs)
 clear i1 s1 hv9 ha9 hv10 ha10 hV hs hb i1' i2 hsz s2
 obtain ⟨T,hT⟩:∃ T,decide ((xs 9).txt = cfgT) = T:=⟨_,rfl⟩
 rw [hT]
 have HT:=Lib.hid hT
 clear hT
 go_enter Tryz.func137,Tryz.ntmps137
 go_wp2_with (refine wpList_load_mid rfl 99 (.tmp 1) rfl w.heap.size 0 rfl cs.toList _ RG.out valsD rfl SZ.out ?_)
 refine CP.out.mono ?_
 rintro e y1 ⟨u1,u2,u3,u4,u5,u6,rfl,hh,k⟩
 obtain ⟨a1,d1,e1⟩:=hh.here.pre.shape
 obtain ⟨a2,d2,e2⟩:=hh.here.dep.shape
 obtain ⟨a3,d3,e3⟩:=hh.here.rcm.shape
 obtain ⟨a4,d4,e4⟩:=hh.here.con.shape
 obtain ⟨a5,d5,e5⟩:=hh.here.brk.shape
 obtain ⟨a6,d6,e6⟩:=hh.here.prv.shape
 subst e1 e2 e3 e4 e5 e6
 generalize (pkOf xs).pre.length = m1 at *
 generalize (pkOf xs).dep.length = m2 at *
 generalize (pkOf xs).rcm.length = m3 at *
 generalize (pkOf xs).con.length = m4 at *
 generalize (pkOf xs).brk.length = m5 at *
 generalize (pkOf xs).prv.length = m6 at *
 have ib:=Rl.is_on IB.out k
 have ir:=Rl.is_on IR.out k
 have hb:=HB.out.trans (k.mono HB.out.size)
 have hz:=k.size
 have hi11:(Tryz.prog.info? 68).map (·.size) = some 11:=by kernel_rfl
 have ip0:=Blk.Is.new y1 68 #[.string ⟨#[]⟩,.string ⟨#[]⟩,.slice none 0 0,.slice none 0 0,.slice none 0 0,.slice none 0 0,.slice none 0 0,.slice none 0 0,.bool false,.bool false,.bool false]
 have kn:Below y1.heap.size y1 ((y1.alloc (.cells #[.string ⟨#[]⟩,.string ⟨#[]⟩,.slice none 0 0,.slice none 0 0,.slice none 0 0,.slice none 0 0,.slice none 0 0,.slice none 0 0,.bool false,.bool false,.bool false] 68)).setRow y1.heap.size #[.string (xs 0).txt,.string (xs 1).txt,.slice a1 m1 d1,.slice a2 m2 d2,.slice a3 m3 d3,.slice a4 m4 d4,.slice a5 m5 d5,.slice a6 m6 d6,.bool (xs 2).ye,.bool false,.bool false]):=Va.below_row ((Below.refl _ _).alloc (Nat.le_refl _) _) (Nat.le_refl _) _
 have ib2:=Rl.is_on ib kn
 have ir2:=Rl.is_on ir kn
 have ip2:=ip0.row #[.string (xs 0).txt,.string (xs 1).txt,.slice a1 m1 d1,.slice a2 m2 d2,.slice a3 m3 d3,.slice a4 m4 d4,.slice a5 m5 d5,.slice a6 m6 d6,.bool (xs 2).ye,.bool false,.bool false]
 have hb2:=hb.trans (kn.mono hb.size)
 have ch2:Blk.Chg (fun q=>q < w.heap.size + 2) y1 ((y1.alloc (.cells #[.string ⟨#[]⟩,.string ⟨#[]⟩,.slice none 0 0,.slice none 0 0,.slice none 0 0,.slice none 0 0,.slice none 0 0,.slice none 0 0,.bool false,.bool false,.bool false] 68)).setRow y1.heap.size #[.string (xs 0).txt,.string (xs 1).txt,.slice a1 m1 d1,.slice a2 m2 d2,.slice a3 m3 d3,.slice a4 m4 d4,.slice a5 m5 d5,.slice a6 m6 d6,.bool (xs 2).ye,.bool false,.bool false]):=Blk.Chg.ofBelow' kn
 have IP0:=Lib.hid ip0
 have n0:w.heap.size + 2 ≤ y1.heap.size:=Nat.le_trans S2.out hz
 have n1:w.heap.size ≠ y1.heap.size:=by omega
 have n2:w.heap.size + 1 ≠ y1.heap.size:=by omega
 have n3:w.heap.size ≤ y1.heap.size:=by omega
 obtain ⟨W1,hW1⟩:∃ W1,((y1.alloc (.cells #[.string ⟨#[]⟩,.string ⟨#[]⟩,.slice none 0 0,.slice none 0 0,.slice none 0 0,.slice none 0 0,.slice none 0 0,.slice none 0 0,.bool false,.bool false,.bool false] 68)).setRow y1.heap.size #[.string (xs 0).txt,.string (xs 1).txt,.slice a1 m1 d1,.slice a2 m2 d2,.slice a3 m3 d3,.slice a4 m4 d4,.slice a5 m5 d5,.slice a6 m6 d6,.bool (xs 2).ye,.bool false,.bool false]) = W1:=⟨_,rfl⟩
 rw [hW1] at ib2 ir2 ip2 hb2 ch2
 have c9:=ib2.at HV9.out
 have IB1:=Lib.hid ib2
 have IR1:=Lib.hid ir2
 have IP1:=Lib.hid ip2
 have HB1:=Lib.hid hb2
 have CH1:=Lib.hid ch2
 have HH:=Lib.hid (hh.mono S2.out)
 have NN:=Lib.hid (⟨n0,n1,n2,n3⟩:_ ∧ _ ∧ _ ∧ _)
 clear hW ib ir hb hz k hh ib2 ir2 ip2 hb2 ch2 IB IR HB CP RG n0 n1 n2 n3 ip0 kn
 go_wp2_with (refine wpList_store_row rfl 68 (.tmp 3) (.tmp 8) rfl y1.heap.size #[.string (xs 0).txt,.string (xs 1).txt,.slice a1 m1 d1,.slice a2 m2 d2,.slice a3 m3 d3,.slice a4 m4 d4,.slice a5 m5 d5,.slice a6 m6 d6,.bool (xs 2).ye,.bool false,.bool false] rfl rfl 68 #[.string ⟨#[]⟩,.string ⟨#[]⟩,.slice none 0 0,.slice none 0 0,.slice none 0 0,.slice none 0 0,.slice none 0 0,.slice none 0 0,.bool false,.bool false,.bool false] IP0.out hi11 (by rfl) (by simp [Value.oneCell']) ?_)
 refine (Va.text_x (HA9.out.below HB1.out)).mono ?_
 rintro e y2 ⟨rfl,k⟩
 clear hW1 c9 IP0
 have ib:=Rl.is_on IB1.out k
 have ir:=Rl.is_on IR1.out k
 have ip:=Rl.is_on IP1.out k
 have hb:=HB1.out.trans (k.mono HB1.out.size)
 have ch:=CH1.out.trans (Blk.Chg.ofBelow' k)
 have hq:((xs 9).txt.toList == [99,111,110,102,105,103,117,114,101,100]) = decide ((xs 9).txt = cfgT):=by
  have h0:=Va.str_eq (xs 9).txt cfgT
  rwa [cfgT_list] at h0
 rw [HT.out] at hq
 obtain ⟨b2,hb2e⟩:∃ b2,y1.heap.size = b2:=⟨_,rfl⟩
 have NB:=Lib.hid hb2e
 rw [hb2e] at NN ip
 rw [hb2e]
 have o1:=ip.at (i:=9) rfl
 have o2:=ip.free 9
 have ip2:Blk.Is (y2.setCell ⟨b2,9,none⟩ (.bool T)) b2 68 #[.string (xs 0).txt,.string (xs 1).txt,.slice a1 m1 d1,.slice a2 m2 d2,.slice a3 m3 d3,.slice a4 m4 d4,.slice a5 m5 d5,.slice a6 m6 d6,.bool (xs 2).ye,.bool T,.bool false]:=ip.set 9 (.bool T)
 have ib2:=ib.setOther (a:=⟨b2,9,none⟩) (.bool T) NN.out.2.1
 have ir2:=ir.setOther (a:=⟨b2,9,none⟩) (.bool T) NN.out.2.2.1
 have hb2:=hb.setCell (p:=⟨b2,9,none⟩) NN.out.2.2.2 (.bool T)
 have ch2:=ch.setCell' (p:=⟨b2,9,none⟩) (by rw [hb2e]; exact Nat.le_refl _) (.bool T)
 obtain ⟨W2,hW2⟩:∃ W2,y2.setCell ⟨b2,9,none⟩ (.bool T) = W2:=⟨_,rfl⟩
 rw [hW2] at ip2 ib2 ir2 hb2 ch2
 have c10:=ib2.at HV10.out
 have IR2:=Lib.hid ir2
 have IP2:=Lib.hid ip2
 have HB2:=Lib.hid hb2
 have CH2:=Lib.hid ch2
 clear ib ir ip hb ch ib2 ir2 ip2 hb2 ch2 k hb2e IB1 IR1 IP1 HB1 CH1
 go_wp2_with fail
 refine (Va.yes_x (HA10.out.below HB2.out)).mono ?_
 rintro e y3 ⟨rfl,k⟩
 clear hW2 c10 o1 o2 hq
 have ir:=Rl.is_on IR2.out k
 have ip:=Rl.is_on IP2.out k
 have hb:=HB2.out.trans (k.mono HB2.out.size)
 have ch:=CH2.out.trans (Blk.Chg.ofBelow' k)
 have o1:=ip.at (i:=10) rfl
 have o2:=ip.free 10
 have ip2:Blk.Is (y3.setCell ⟨b2,10,none⟩ (.bool (xs 10).ye)) b2 68 #[.string (xs 0).txt,.string (xs 1).txt,.slice a1 m1 d1,.slice a2 m2 d2,.slice a3 m3 d3,.slice a4 m4 d4,.slice a5 m5 d5,.slice a6 m6 d6,.bool (xs 2).ye,.bool T,.bool (xs 10).ye]:=ip.set 10 (.bool (xs 10).ye)
 have ir2:=ir.setOther (a:=⟨b2,10,none⟩) (.bool (xs 10).ye) NN.out.2.2.1
 have hb2:=hb.setCell (p:=⟨b2,10,none⟩) NN.out.2.2.2 (.bool (xs 10).ye)
 have ch2:=ch.setCell' (p:=⟨b2,10,none⟩) (by rw [NB.out]; exact Nat.le_refl _) (.bool (xs 10).ye)
 obtain ⟨W3,hW3⟩:∃ W3,y3.setCell ⟨b2,10,none⟩ (.bool (xs 10).ye) = W3:=⟨_,rfl⟩
 rw [hW3] at ip2 ir2 hb2 ch2
 have IR3:=Lib.hid ir2
 have RP:=Lib.hid (range_vals ip2)
 have HB3:=Lib.hid hb2
 have CH3:=Lib.hid ch2
 clear ir ip hb ch ir2 ip2 hb2 ch2 k IR2 IP2 HB2 CH2
 go_wp2_with (first | (refine wpList_load_mid rfl 68 (.tmp 3) rfl b2 0 rfl _ _ RP.out Tryz.underlying68 rfl hi11 ?_) | (refine wpList_store_row rfl 68 (.tmp 2) (.tmp 25) rfl (w.heap.size + 1) #[.string (xs 0).txt,.string (xs 1).txt,.slice a1 m1 d1,.slice a2 m2 d2,.slice a3 m3 d3,.slice a4 m4 d4,.slice a5 m5 d5,.slice a6 m6 d6,.bool (xs 2).ye,.bool T,.bool (xs 10).ye] rfl rfl 68 #[.string ⟨#[]⟩,.string ⟨#[]⟩,.slice none 0 0,.slice none 0 0,.slice none 0 0,.slice none 0 0,.slice none 0 0,.slice none 0 0,.bool false,.bool false,.bool false] IR3.out hi11 (by rfl) (by simp [Value.oneCell']) ?_))
 have hr:=IR3.out.row #[.string (xs 0).txt,.string (xs 1).txt,.slice a1 m1 d1,.slice a2 m2 d2,.slice a3 m3 d3,.slice a4 m4 d4,.slice a5 m5 d5,.slice a6 m6 d6,.bool (xs 2).ye,.bool T,.bool (xs 10).ye]
 have hb4:=Va.below_row HB3.out (by show w.heap.size ≤ w.heap.size + 1; omega) #[.string (xs 0).txt,.string (xs 1).txt,.slice a1 m1 d1,.slice a2 m2 d2,.slice a3 m3 d3,.slice a4 m4 d4,.slice a5 m5 d5,.slice a6 m6 d6,.bool (xs 2).ye,.bool T,.bool (xs 10).ye]
 have ch4:=CH3.out.setRow (g:=w.heap.size + 1) (by show w.heap.size + 1 < w.heap.size + 2; omega) #[.string (xs 0).txt,.string (xs 1).txt,.slice a1 m1 d1,.slice a2 m2 d2,.slice a3 m3 d3,.slice a4 m4 d4,.slice a5 m5 d5,.slice a6 m6 d6,.bool (xs 2).ye,.bool T,.bool (xs 10).ye]
 have hres:=(HH.out.on ch4).mono (by omega:w.heap.size ≤ w.heap.size + 2)
 generalize W3.setRow (w.heap.size + 1) #[.string (xs 0).txt,.string (xs 1).txt,.slice a1 m1 d1,.slice a2 m2 d2,.slice a3 m3 d3,.slice a4 m4 d4,.slice a5 m5 d5,.slice a6 m6 d6,.bool (xs 2).ye,.bool T,.bool (xs 10).ye] = W4 at *
 have r0:=hr.at (i:=0) rfl
 have r1:=hr.at (i:=1) rfl
 have r2:=hr.at (i:=2) rfl
 have r3:=hr.at (i:=3) rfl
 have r4:=hr.at (i:=4) rfl
 have r5:=hr.at (i:=5) rfl
 have r6:=hr.at (i:=6) rfl
 have r7:=hr.at (i:=7) rfl
 have r8:=hr.at (i:=8) rfl
 have r9:=hr.at (i:=9) rfl
 have r10:=hr.at (i:=10) rfl
 clear hW3 o1 o2 hr ch4
 refine bodyPost_ret (v:=.agg #[.string (xs 0).txt,.string (xs 1).txt,.slice a1 m1 d1,.slice a2 m2 d2,.slice a3 m3 d3,.slice a4 m4 d4,.slice a5 m5 d5,.slice a6 m6 d6,.bool (xs 2).ye,.bool T,.bool (xs 10).ye]) ?_ rfl ?_
 ·simp [results,Tryz.results137,go_sem,r0,r1,r2,r3,r4,r5,r6,r7,r8,r9,r10]
 ·exact ⟨_,_,_,_,_,_,rfl,hres,hb4⟩
end Rc
end Go.Proofs.YthmpepnikmdjpaaGreatDoor
namespace Go.Proofs.YthmpepnikmdjpaaGreatDoor
open Go.RowKit
set_option linter.unusedSimpArgs false
set_option linter.unusedVariables false
namespace Rc
open Ver (Bs li li_len S S_self S_size S_li)
open Rl (At Pv Ats Pvs Clss Slc LimA LimP LimC Vars)
open Va (Hi Vl VAt wrT rd knd Rdr)
open Stz (sameB sameS)
theorem rdE_ok {nm s:ByteArray} (h:isState nm = false ∨ s = unpT ∨ s = cfgT):rdE nm s = rd (knd nm) s:=by
 unfold rdE
 rw [if_neg]
 intro ⟨a,b,c⟩
 rcases h with h | h | h
 ·rw [a] at h; cases h
 ·exact b h
 ·exact c h
theorem rdE_no {nm s:ByteArray} (h:isState nm = true) (h1:s ≠ unpT) (h2:s ≠ cfgT):rdE nm s = .error 3:=by
 unfold rdE
 rw [if_pos ⟨h,h1,h2⟩]
set_option maxRecDepth 100000 in
set_option maxHeartbeats 4000000 in
theorem readOfEntry_any (name s:ByteArray) (hn:name.size ≤ 9223372036854775807) (hs:s.size ≤ 4611686018427387904) (w:World) (hv:Vars w) (hN:Nms w) :
  Calls Tryz.prog 136 #[.string name,.string s] w fun e w'=>Rdr (rdE name s) w e w':=by
 have hb0:Below w.heap.size w (w.alloc (.cells #[.nilIface] 97)):=(Below.refl _ _).alloc (Nat.le_refl _) _
 have i0:=Blk.Is.new w 97 #[.nilIface]
 have c9:=hN.on hb0 9 (by omega)
 obtain ⟨W,hW⟩:∃ W,w.alloc (.cells #[.nilIface] 97) = W:=⟨_,rfl⟩
 rw [hW] at hb0 i0 c9
 have cs:=Stz.same_any name (S (nmAt 9)) W hn
 have hst:sameS name (S (nmAt 9)) = isState name:=rfl
 rw [hst] at cs
 have hq1:(s.toList == [117,110,112,97,99,107,101,100]) = decide (s = unpT):=by
  have h0:=Va.str_eq s unpT
  rwa [unpT_list] at h0
 have hq2:(s.toList == [99,111,110,102,105,103,117,114,101,100]) = decide (s = cfgT):=by
  have h0:=Va.str_eq s cfgT
  rwa [cfgT_list] at h0
 obtain ⟨R,hR⟩:∃ R,rdE name s = R:=⟨_,rfl⟩
 have hok:=fun h=>(rdE_ok (nm:=name) (s:=s) h).symm.trans hR
 have hno:=fun h h1 h2=>(rdE_no (nm:=name) (s:=s) h h1 h2).symm.trans hR
 rw [hR]
 have HOK:=Lib.hid hok
 have HNO:=Lib.hid hno
 have HV:=Lib.hid (hv.on hb0)
 have HB:=Lib.hid hb0
 have I0:=Lib.hid i0
 generalize hK:S (nmAt 9) = K at *
 clear hv hN hR hok hno hst hK hb0 i0
 obtain ⟨T,hT⟩:∃ T,isState name = T:=⟨_,rfl⟩
 rw [hT] at cs
 have HT:=Lib.hid hT
 clear hT
 cases T with
 | false =>
  clear hq1 hq2
  go_enter Tryz.func136,Tryz.ntmps136
  go_wp2_with fail
  refine cs.mono ?_
  rintro e w1 ⟨rfl,q,rfl⟩
  have k1:=Va.below_drewN W q
  have hb1:=HB.out.trans (k1.mono HB.out.size)
  have i1:=Rl.is_on I0.out k1
  have hv1:=HV.out.on k1
  generalize W.drewN q = w1 at *
  clear hW cs c9 k1
  have hR:=HOK.out (.inl HT.out)
  have ca:=Va.read_any name s hs w1 hv1
  rw [hR] at ca
  have HB1:=Lib.hid hb1
  have I1:=Lib.hid i1
  clear HNO hR hb1 i1 hv1 HV HOK HB I0 HT
  go_wp2_with fail
  refine ca.mono ?_
  rintro e w2 ⟨v,er,rfl,hI,k2,hA⟩
  have hb2:=HB1.out.trans (k2.mono HB1.out.size)
  have i2:=Rl.is_on I1.out k2
  have c2:=i2.at (i:=0) rfl
  have f2:=i2.free 0
  have h9:=(i2.set 0 v).at (i:=0) (v:=v) rfl
  have hb3:=hb2.setCell (p:=⟨w.heap.size,0,none⟩) (Nat.le_refl _) v
  have hA2:Va.Ans R w.heap.size (w2.setCell ⟨w.heap.size,0,none⟩ v) v er:=by
   refine (Va.ans_told R).mono _ _ _ _ _ ?_ ((Va.ans_told R).on _ _ _ _ _ hA ((Blk.Chg.refl _ w2).setAt (b:=w.heap.size) (o:=0) (u:=v) (S:=fun k=>k < w1.heap.size) ?_))
   ·exact HB1.out.size
   ·exact I1.out.lt
  clear ca hA hb2 i2 k2
  rcases hI with rfl | ⟨t,y,rfl⟩
  all_goals
   go_wp2_with fail
  ·refine bodyPost_ret (v:=.tuple #[.agg #[.nilIface],.int .i64 er]) ?_ rfl ⟨_,_,rfl,.inl rfl,hb3,hA2⟩
   simp [results,Tryz.results136,go_sem,h9]
  ·refine bodyPost_ret (v:=.tuple #[.agg #[.iface t y],.int .i64 er]) ?_ rfl ⟨_,_,rfl,.inr ⟨_,_,rfl⟩,hb3,hA2⟩
   simp [results,Tryz.results136,go_sem,h9]
 | true =>
  by_cases hu:s = unpT
  ·rw [decide_eq_true hu] at hq1
   go_enter Tryz.func136,Tryz.ntmps136
   go_wp2_with fail
   refine cs.mono ?_
   rintro e w1 ⟨rfl,q,rfl⟩
   have k1:=Va.below_drewN W q
   have hb1:=HB.out.trans (k1.mono HB.out.size)
   have i1:=Rl.is_on I0.out k1
   have hv1:=HV.out.on k1
   generalize W.drewN q = w1 at *
   clear hW cs c9 k1
   have hR:=HOK.out (.inr (.inl hu))
   have ca:=Va.read_any name s hs w1 hv1
   rw [hR] at ca
   have HB1:=Lib.hid hb1
   have I1:=Lib.hid i1
   clear HNO hR hb1 i1 hv1 HV HOK HB I0 HT hu
   go_wp2_with fail
   refine ca.mono ?_
   rintro e w2 ⟨v,er,rfl,hI,k2,hA⟩
   have hb2:=HB1.out.trans (k2.mono HB1.out.size)
   have i2:=Rl.is_on I1.out k2
   have c2:=i2.at (i:=0) rfl
   have f2:=i2.free 0
   have h9:=(i2.set 0 v).at (i:=0) (v:=v) rfl
   have hb3:=hb2.setCell (p:=⟨w.heap.size,0,none⟩) (Nat.le_refl _) v
   have hA2:Va.Ans R w.heap.size (w2.setCell ⟨w.heap.size,0,none⟩ v) v er:=by
    refine (Va.ans_told R).mono _ _ _ _ _ ?_ ((Va.ans_told R).on _ _ _ _ _ hA ((Blk.Chg.refl _ w2).setAt (b:=w.heap.size) (o:=0) (u:=v) (S:=fun k=>k < w1.heap.size) ?_))
    ·exact HB1.out.size
    ·exact I1.out.lt
   clear ca hA hb2 i2 k2
   rcases hI with rfl | ⟨t,y,rfl⟩
   all_goals
    go_wp2_with fail
   ·refine bodyPost_ret (v:=.tuple #[.agg #[.nilIface],.int .i64 er]) ?_ rfl ⟨_,_,rfl,.inl rfl,hb3,hA2⟩
    simp [results,Tryz.results136,go_sem,h9]
   ·refine bodyPost_ret (v:=.tuple #[.agg #[.iface t y],.int .i64 er]) ?_ rfl ⟨_,_,rfl,.inr ⟨_,_,rfl⟩,hb3,hA2⟩
    simp [results,Tryz.results136,go_sem,h9]
  ·rw [decide_eq_false hu] at hq1
   by_cases hc:s = cfgT
   ·rw [decide_eq_true hc] at hq2
    go_enter Tryz.func136,Tryz.ntmps136
    go_wp2_with fail
    refine cs.mono ?_
    rintro e w1 ⟨rfl,q,rfl⟩
    have k1:=Va.below_drewN W q
    have hb1:=HB.out.trans (k1.mono HB.out.size)
    have i1:=Rl.is_on I0.out k1
    have hv1:=HV.out.on k1
    generalize W.drewN q = w1 at *
    clear hW cs c9 k1
    have hR:=HOK.out (.inr (.inr hc))
    have ca:=Va.read_any name s hs w1 hv1
    rw [hR] at ca
    have HB1:=Lib.hid hb1
    have I1:=Lib.hid i1
    clear HNO hR hb1 i1 hv1 HV HOK HB I0 HT hu hc
    go_wp2_with fail
    refine ca.mono ?_
    rintro e w2 ⟨v,er,rfl,hI,k2,hA⟩
    have hb2:=HB1.out.trans (k2.mono HB1.out.size)
    have i2:=Rl.is_on I1.out k2
    have c2:=i2.at (i:=0) rfl
    have f2:=i2.free 0
    have h9:=(i2.set 0 v).at (i:=0) (v:=v) rfl
    have hb3:=hb2.setCell (p:=⟨w.heap.size,0,none⟩) (Nat.le_refl _) v
    have hA2:Va.Ans R w.heap.size (w2.setCell ⟨w.heap.size,0,none⟩ v) v er:=by
     refine (Va.ans_told R).mono _ _ _ _ _ ?_ ((Va.ans_told R).on _ _ _ _ _ hA ((Blk.Chg.refl _ w2).setAt (b:=w.heap.size) (o:=0) (u:=v) (S:=fun k=>k < w1.heap.size) ?_))
     ·exact HB1.out.size
     ·exact I1.out.lt
    clear ca hA hb2 i2 k2
    rcases hI with rfl | ⟨t,y,rfl⟩
    all_goals
     go_wp2_with fail
    ·refine bodyPost_ret (v:=.tuple #[.agg #[.nilIface],.int .i64 er]) ?_ rfl ⟨_,_,rfl,.inl rfl,hb3,hA2⟩
     simp [results,Tryz.results136,go_sem,h9]
    ·refine bodyPost_ret (v:=.tuple #[.agg #[.iface t y],.int .i64 er]) ?_ rfl ⟨_,_,rfl,.inr ⟨_,_,rfl⟩,hb3,hA2⟩
     simp [results,Tryz.results136,go_sem,h9]
   ·rw [decide_eq_false hc] at hq2
    go_enter Tryz.func136,Tryz.ntmps136
    go_wp2_with fail
    refine cs.mono ?_
    rintro e w1 ⟨rfl,q,rfl⟩
    have k1:=Va.below_drewN W q
    have hb1:=HB.out.trans (k1.mono HB.out.size)
    have i1:=Rl.is_on I0.out k1
    have hv1:=HV.out.on k1
    generalize W.drewN q = w1 at *
    clear hW cs c9 k1
    have hR:=HNO.out HT.out hu hc
    subst hR
    have c2:=i1.at (i:=0) rfl
    have f2:=i1.free 0
    have h9:=(i1.set 0 .nilIface).at (i:=0) (v:=.nilIface) rfl
    have hb3:=hb1.setCell (p:=⟨w.heap.size,0,none⟩) (Nat.le_refl _) .nilIface
    clear HNO hb1 i1 hv1 HV HOK HB I0 HT hu hc
    go_wp2_with fail
    refine bodyPost_ret (v:=.tuple #[.agg #[.nilIface],.int .i64 3]) ?_ rfl ⟨_,_,rfl,.inl rfl,hb3,rfl,rfl⟩
    simp [results,Tryz.results136,go_sem,h9]
end Rc
end Go.Proofs.YthmpepnikmdjpaaGreatDoor
namespace Go.Proofs.YthmpepnikmdjpaaGreatDoor
set_option linter.unusedSimpArgs false
set_option linter.unusedVariables false
namespace Stz
open Txt (trimL trimRight trimLeft)
def Slim (M:Nat) (f:Fld):Prop:=f.1.length ≤ M ∧ ∀ x ∈ f.2,x.length ≤ M
def ZSlim (M:Nat) (z:Zip):Prop:=(∀ s ∈ z.done,∀ f ∈ s.2,Slim M f) ∧ ∀ n fs f,z.cur = some (n,fs,f) → ∀ g ∈ fs ++ [f],Slim M g
theorem slim_start (M:Nat):ZSlim M start:=⟨(fun s hs=>by cases hs),(fun n fs f e=>by cases e)⟩
theorem slim_close {M:Nat} {z:Zip} (h:ZSlim M z):ZSlim M z.close:=by
 obtain ⟨d,q⟩:=z
 obtain ⟨h2,h3⟩:=h
 cases q with
 | none=>exact ⟨h2,h3⟩
 | some p =>
  obtain ⟨k,fs,f⟩:=p
  have k3:=h3 k fs f rfl
  refine ⟨fun s hs=>?_,fun _ _ _ e=>by cases e⟩
  rcases List.mem_append.1 (show s ∈ d ++ [(k,fs ++ [f])] from hs) with hs | hs
  ·exact h2 s hs
  ·rw [List.mem_singleton.1 hs]
   exact k3
theorem right_len (l:Bs):(trimRight l).length ≤ l.length:=by
 obtain ⟨x,_,h2,_⟩:=Txt.trimRight_eq l
 have:=congrArg List.length h2
 rw [List.length_append] at this
 omega
theorem trimL_le (l:Bs):(trimL l).length ≤ l.length:=by
 obtain ⟨x,_,h2,_⟩:=Txt.trimLeft_eq l
 have:=congrArg List.length h2
 rw [List.length_append] at this
 have:=right_len (trimLeft l)
 unfold trimL
 omega
theorem further_le (l:Bs):(further l).length ≤ l.length:=by
 unfold further
 split
 ·simp
 ·exact right_len l
theorem slim_take {M:Nat} {z z':Zip} {x:Bs} {n:Int} (h:ZSlim M z) (hx:x.length ≤ M) (ht:take z x n = .ok z'):ZSlim M z':=by
 unfold take at ht
 split at ht
 ·cases ht; exact h
 split at ht
 ·cases ht; exact slim_close h
 split at ht
 ·obtain ⟨d,q⟩:=z
  cases q with
  | none=>cases ht
  | some p =>
   obtain ⟨k,fs,nm,ls⟩:=p
   cases ht
   have k3:=h.2 k fs (nm,ls) rfl
   refine ⟨h.1,fun k' fs' f' e=>?_⟩
   simp only [Option.some.injEq,Prod.mk.injEq] at e
   obtain ⟨rfl,rfl,rfl⟩:=e
   intro g hg
   rcases List.mem_append.1 hg with hg | hg
   ·exact k3 g (List.mem_append.2 (.inl hg))
   ·rw [List.mem_singleton.1 hg]
    have:=k3 (nm,ls) (by simp)
    refine ⟨this.1,fun y hy=>?_⟩
    rcases List.mem_append.1 hy with hy | hy
    ·exact this.2 y hy
    ·rw [List.mem_singleton.1 hy]
     have h1:=further_le x.tail
     have h2:x.tail.length ≤ x.length:=by simp
     omega
 ·unfold field at ht
  cases hc:cutL x with
  | none=>rw [hc] at ht; cases ht
  | some p =>
   obtain ⟨nm,r⟩:=p
   rw [hc] at ht
   have hlen:=congrArg List.length (cut_eq hc).1
   rw [List.length_append,List.length_cons] at hlen
   have hnew:Slim M (nm,[trimL r]):=⟨by show nm.length ≤ M; omega,fun y hy=>by
    rw [List.mem_singleton.1 hy]
    have:=trimL_le r
    omega⟩
   simp only at ht
   split at ht
   ·unfold begin at ht
    obtain ⟨d,q⟩:=z
    cases q with
    | none =>
     simp only at ht
     split at ht
     ·cases ht
     ·cases ht
      refine ⟨h.1,fun k' fs' f' e=>?_⟩
      simp only [Option.some.injEq,Prod.mk.injEq] at e
      obtain ⟨rfl,rfl,rfl⟩:=e
      intro g hg
      rw [List.mem_singleton.1 hg]
      exact hnew
    | some p =>
     obtain ⟨k,fs,f⟩:=p
     simp only at ht
     split at ht
     ·cases ht
     ·split at ht
      ·cases ht
      ·cases ht
       have k3:=h.2 k fs f rfl
       refine ⟨h.1,fun k' fs' f' e=>?_⟩
       simp only [Option.some.injEq,Prod.mk.injEq] at e
       obtain ⟨rfl,rfl,rfl⟩:=e
       intro g hg
       rcases List.mem_append.1 hg with hg | hg
       ·exact k3 g hg
       ·rw [List.mem_singleton.1 hg]
        exact hnew
   ·cases ht
theorem slim_run {M:Nat}:∀ (ls:List Bs) {z z':Zip} (n:Nat),ZSlim M z → (∀ x ∈ ls,x.length ≤ M) → run z n ls = .ok z' → ZSlim M z'
 | [],z,z',n,h,_,hr=>by cases hr; exact h
 | x :: r,z,z',n,h,hg,hr=>by
  rw [run_cons] at hr
  cases ht:take z x n with
  | error e=>rw [ht] at hr; cases hr
  | ok z1 =>
   rw [ht] at hr
   exact slim_run r (n + 1) (slim_take h (hg x (.head _)) ht) (fun y hy=>hg y (.tail _ hy)) hr
theorem parse_slim {M:Nat} {ls:List Bs} (hg:∀ x ∈ ls,x.length ≤ M) {l:List Sz} {e n:Nat} (h:parse ls = (l,e,n)):∀ s ∈ l,∀ f ∈ s.2,Slim M f:=by
 unfold parse at h
 cases hr:run start 1 ls with
 | error e =>
  rw [hr] at h
  simp only [Prod.mk.injEq] at h
  rw [← h.1]
  intro s hs; cases hs
 | ok z =>
  rw [hr] at h
  simp only [Prod.mk.injEq] at h
  rw [← h.1]
  exact (slim_close (slim_run ls 1 (slim_start M) hg hr)).1
theorem E_ok {x:ByteArray} (h:Txt.E x = 0):LineOK x.data.toList:=by
 unfold Txt.E at h
 split at h
 ·cases h
 split at h
 ·cases h
 ·next h1 h2 =>
  refine ⟨?_,by rw [Txt.len_list]; omega⟩
  unfold goodL
  rw [show (⟨x.data.toList.toArray⟩:ByteArray) = x from S_self x]
  have:=Txt.good_ge x
  omega
theorem pr_ok {s:ByteArray} {l:List Sz} {n:Nat} (h:PR s l 0 n):∃ ls,(∀ x ∈ ls,LineOK x) ∧ parse ls = (l,0,n) ∧ ls = Txt.linesL s.data.toList:=by
 obtain ⟨ls,e0,n0,h1,h2⟩:=h
 rcases h2 with ⟨h2,_,h3,_⟩ | ⟨rfl,h2⟩
 ·exact absurd h3.symm h2
 unfold Txt.LR at h1
 split at h1
 ·have:=h1.2.1; cases this
 rcases h1 with ⟨_,rfl,h3,h4⟩ | ⟨_,h5,_⟩
 ·refine ⟨bytes ls,fun x hx=>?_,h2,h3⟩
  obtain ⟨t,ht,rfl⟩:=List.mem_map.1 hx
  obtain ⟨i,hi,rfl⟩:=List.mem_iff_getElem.1 ht
  refine E_ok ?_
  have:=h4 i hi
  rwa [show ls.getD i ByteArray.empty = ls[i] by simp [List.getD,hi]] at this
 ·exact absurd rfl h5
end Stz
end Go.Proofs.YthmpepnikmdjpaaGreatDoor
namespace Go.Proofs.YthmpepnikmdjpaaGreatDoor
open Go.RowKit
set_option linter.unusedSimpArgs false
set_option linter.unusedVariables false
namespace Stz
open Txt (trimL)
theorem join_snoc (ps:List Bs) (p:Bs):Lib.join (ps ++ [p]) [32] = if ps = [] then p else Lib.join ps [32] ++ 32 :: p:=by
 cases ps with
 | nil=>rw [List.nil_append,Lib.join_one,if_pos rfl]
 | cons x r =>
  rw [if_neg (by simp),List.cons_append,Lib.join_cons,Lib.join_cons]
  unfold Lib.joinTail
  simp
theorem fold_nil_iff (ls:List Bs):foldL ls = [] ↔ partsL ls = []:=by
 unfold foldL
 cases h:partsL ls with
 | nil=>simp [Lib.join_nil]
 | cons y r =>
  have hy:y ∈ partsL ls:=by rw [h]; exact .head _
  unfold partsL at hy
  have:=(List.mem_filter.1 hy).2
  rw [Lib.join_cons]
  cases y with
  | nil=>simp at this
  | cons c y=>simp
theorem fold_snoc (ls:List Bs) (x:Bs):foldL (ls ++ [x]) = if trimL x = [] then foldL ls else if foldL ls = [] then trimL x else foldL ls ++ 32 :: trimL x:=by
 by_cases h:trimL x = []
 ·rw [if_pos h]
  unfold foldL
  rw [parts_snoc,if_pos h]
 ·rw [if_neg h]
  have e:foldL (ls ++ [x]) = Lib.join (partsL ls ++ [trimL x]) [32]:=by
   unfold foldL
   rw [parts_snoc,if_neg h]
  rw [e,join_snoc]
  by_cases h2:partsL ls = []
  ·rw [if_pos h2,if_pos ((fold_nil_iff ls).2 h2)]
  ·rw [if_neg h2,if_neg (fun e=>h2 ((fold_nil_iff ls).1 e))]
   rfl
theorem fold_len {M:Nat} (ls:List Bs) (h:∀ x ∈ ls,x.length ≤ M):∀ k,k ≤ ls.length → (foldL (ls.take k)).length ≤ (M + 1) * k
 | 0,_=>by simp [foldL,partsL,Lib.join_nil]
 | k + 1,hk=>by
  have ih:=fold_len ls h k (by omega)
  rw [take_one (show k < ls.length by omega),fold_snoc]
  have hx:(trimL (ls.getD k [])).length ≤ M:=Nat.le_trans (trimL_le _) (h _ (by simp [List.getD,List.getElem?_eq_getElem (show k < ls.length by omega)]))
  rw [Nat.mul_add,Nat.mul_one]
  split
  ·omega
  ·split
   ·omega
   ·rw [List.length_append,List.length_cons]; omega
end Stz
end Go.Proofs.YthmpepnikmdjpaaGreatDoor
namespace Go.Proofs.YthmpepnikmdjpaaGreatDoor
open Go.RowKit
set_option linter.unusedSimpArgs false
set_option linter.unusedVariables false
namespace Stz
def ZL (M:Nat) (z:Zip):Prop:=(∀ s ∈ z.done,0 ≤ s.1 ∧ s.1 ≤ (M:Int)) ∧ ∀ n fs f,z.cur = some (n,fs,f) → 0 ≤ n ∧ n ≤ (M:Int)
theorem zl_close {M:Nat} {z:Zip} (h:ZL M z):ZL M z.close:=by
 obtain ⟨d,q⟩:=z
 obtain ⟨h2,h3⟩:=h
 cases q with
 | none=>exact ⟨h2,h3⟩
 | some p =>
  obtain ⟨k,fs,f⟩:=p
  have k3:=h3 k fs f rfl
  refine ⟨fun s hs=>?_,fun _ _ _ e=>by cases e⟩
  rcases List.mem_append.1 (show s ∈ d ++ [(k,fs ++ [f])] from hs) with hs | hs
  ·exact h2 s hs
  ·rw [List.mem_singleton.1 hs]
   exact k3
theorem zl_take {M:Nat} {z z':Zip} {x:Bs} {n:Nat} (h:ZL M z) (hn:n ≤ M) (ht:take z x n = .ok z'):ZL M z':=by
 unfold take at ht
 split at ht
 ·cases ht; exact h
 split at ht
 ·cases ht; exact zl_close h
 split at ht
 ·obtain ⟨d,q⟩:=z
  cases q with
  | none=>cases ht
  | some p =>
   obtain ⟨k,fs,nm,ls⟩:=p
   cases ht
   have k3:=h.2 k fs (nm,ls) rfl
   refine ⟨h.1,fun k' fs' f' e=>?_⟩
   simp only [Option.some.injEq,Prod.mk.injEq] at e
   obtain ⟨rfl,rfl,rfl⟩:=e
   exact k3
 ·unfold field at ht
  cases hc:cutL x with
  | none=>rw [hc] at ht; cases ht
  | some p =>
   obtain ⟨nm,r⟩:=p
   rw [hc] at ht
   simp only at ht
   split at ht
   ·unfold begin at ht
    obtain ⟨d,q⟩:=z
    cases q with
    | none =>
     simp only at ht
     split at ht
     ·cases ht
     ·cases ht
      refine ⟨h.1,fun k' fs' f' e=>?_⟩
      simp only [Option.some.injEq,Prod.mk.injEq] at e
      obtain ⟨rfl,rfl,rfl⟩:=e
      omega
    | some p =>
     obtain ⟨k,fs,f⟩:=p
     simp only at ht
     split at ht
     ·cases ht
     ·split at ht
      ·cases ht
      ·cases ht
       have k3:=h.2 k fs f rfl
       refine ⟨h.1,fun k' fs' f' e=>?_⟩
       simp only [Option.some.injEq,Prod.mk.injEq] at e
       obtain ⟨rfl,rfl,rfl⟩:=e
       exact k3
   ·cases ht
theorem zl_run {M:Nat}:∀ (ls:List Bs) {z z':Zip} (n:Nat),ZL M z → n + ls.length ≤ M + 1 → run z n ls = .ok z' → ZL M z'
 | [],z,z',n,h,_,hr=>by cases hr; exact h
 | x :: r,z,z',n,h,hl,hr=>by
  rw [run_cons] at hr
  rw [List.length_cons] at hl
  cases ht:take z x n with
  | error e=>rw [ht] at hr; cases hr
  | ok z1 =>
   rw [ht] at hr
   exact zl_run r (n + 1) (zl_take h (by omega) ht) (by omega) hr
theorem spl_count:∀ l:Bs,(Txt.spl l).length ≤ l.length + 1
 | []=>by simp [Txt.spl]
 | c :: l=>by
  have ih:=spl_count l
  show (if c = 10 then [] :: Txt.spl l else Txt.put c (Txt.spl l)).length ≤ _
  split
  ·simp only [List.length_cons]; omega
  ·have hne:=Txt.spl_ne l
   cases hq:Txt.spl l with
   | nil=>exact absurd hq hne
   | cons y r =>
    rw [hq] at ih
    simp only [Txt.put,List.length_cons] at ih ⊢
    omega
theorem dl_count:∀ l:List Bs,(Txt.dl l).length ≤ l.length
 | []=>by simp [Txt.dl]
 | [x]=>by unfold Txt.dl; split <;> simp
 | x :: y :: r=>by
  have:=dl_count (y :: r)
  show (x :: Txt.dl (y :: r)).length ≤ _
  simp only [List.length_cons] at this ⊢
  omega
theorem pr_small {s:ByteArray} {l:List Sz} {n:Nat} (h:PR s l 0 n):s.size ≤ 65536:=by
 obtain ⟨ls,e0,n0,h1,h2⟩:=h
 rcases h2 with ⟨h2,_,h3,_⟩ | ⟨rfl,h2⟩
 ·exact absurd h3.symm h2
 unfold Txt.LR at h1
 split at h1
 ·have:=h1.2.1; cases this
 ·omega
theorem pr_line {s:ByteArray} {l:List Sz} {n:Nat} (h:PR s l 0 n):∀ z ∈ l,0 ≤ z.1 ∧ z.1 ≤ 70000:=by
 have h0:=pr_small h
 obtain ⟨ls,_,h2,h3⟩:=pr_ok h
 have hl:ls.length ≤ 65537:=by
  rw [h3]
  have a:=dl_count (Txt.spl s.data.toList)
  have b:=spl_count s.data.toList
  have c:s.data.toList.length = s.size:=sz_list s
  unfold Txt.linesL
  omega
 unfold parse at h2
 cases hr:run start 1 ls with
 | error e =>
  rw [hr] at h2
  simp only [Prod.mk.injEq] at h2
  rw [← h2.1]
  intro z hz; cases hz
 | ok z =>
  rw [hr] at h2
  simp only [Prod.mk.injEq] at h2
  rw [← h2.1]
  have:=(zl_close (zl_run (M:=70000) ls 1 ⟨fun s hs=>(by cases hs),fun _ _ _ e=>(by cases e)⟩ (by omega) hr)).1
  exact this
end Stz
namespace Rc
open Ver (Bs li li_len S S_self S_size S_li)
open Stz (Fld Sz sameB sameS foldL PR)
def LineOK (n:Int):Prop:=-9223372036854775808 ≤ n ∧ n ≤ 9223372036854775807
theorem furth_ok {line:Int} (h:LineOK line) (n:Nat):LineOK (furth line n):=by
 unfold furth LineOK most at *
 split <;> omega
set_option maxRecDepth 100000 in
theorem furth_any (line:Int) (n:Nat) (w:World) (h:LineOK line) (hn:n ≤ 1152921504606846976) :
  Calls Tryz.prog 102 #[.int .i64 line,.int .i64 n] w fun e w'=>e = .returned (.int .i64 (furth line n)) ∧ w' = w:=by
 unfold furth most
 obtain ⟨h1,h2⟩:=h
 by_cases hc:(9223372036854775807:Int) - n < line
 ·rw [if_pos hc]
  go_enter Tryz.func102,Tryz.ntmps102
  go_wp2_with fail
  go_ret
  exact ⟨rfl,rfl⟩
 ·rw [if_neg hc]
  go_enter Tryz.func102,Tryz.ntmps102
  go_wp2_with fail
  go_ret
  exact ⟨rfl,rfl⟩
structure FOk (f:Fld):Prop where
 nm:f.1.length ≤ 140737488351232
 cnt:f.2.length ≤ 100000
 len:∀ x ∈ f.2,x.length ≤ 140737488351232
 fold:(foldL f.2).length ≤ 140737488355328
structure FSmall (f:Fld):Prop where
 nm:f.1.length ≤ 140737488351232
 cnt:f.2.length ≤ 100000
 len:∀ x ∈ f.2,x.length ≤ 1048576
theorem FSmall.ok {f:Fld} (h:FSmall f):FOk f:=by
 refine ⟨h.nm,h.cnt,fun x hx=>by have:=h.len x hx; omega,?_⟩
 have h1:=Stz.fold_len f.2 h.len f.2.length (Nat.le_refl _)
 rw [List.take_of_length_le (Nat.le_refl _)] at h1
 have h2:(1048576 + 1) * f.2.length ≤ 1048577 * 100000:=Nat.mul_le_mul_left _ h.cnt
 omega
theorem pr_fsmall {s:ByteArray} {l:List Sz} {n:Nat} (h:PR s l 0 n) (hs:Stz.Small l):∀ z ∈ l,∀ f ∈ z.2,FSmall f:=by
 intro z hz f hf
 obtain ⟨ls,h1,h2,_⟩:=Stz.pr_ok h
 have h3:=Stz.parse_slim (M:=1000) (fun x hx=>(h1 x hx).2) h2 z hz f hf
 exact ⟨by have:=h3.1; omega,by have:=((hs.2 z hz).2 f hf).2; omega,fun x hx=>by have:=h3.2 x hx; omega⟩
end Rc
end Go.Proofs.YthmpepnikmdjpaaGreatDoor

/-
The package, and the entry, that the values of fields are.
-/
import Derived.Test.YthmpepnikmdjpaaGreatDoorCRecFld
import Derived.Test.YthmpepnikmdjpaaGreatDoorCValSort
namespace Go.Proofs.YthmpepnikmdjpaaGreatDoor
open Go.RowKit
set_option linter.unusedSimpArgs false
set_option linter.unusedVariables false
namespace Rc
open Ver (Bs li li_len S S_self S_size S_li)
open Rl (At Pv Ats Pvs Clss Slc LimA LimP LimC Vars)
open Va (Hi Vl VAt wrT)
def HasH (B:Nat) (w:World) (p:Pk) (u1 u2 u3 u4 u5 u6:Value):Prop:=Hi B w fun z=>Has z p u1 u2 u3 u4 u5 u6
theorem HasH.of {B:Nat} {w:World} {p:Pk} {u1 u2 u3 u4 u5 u6:Value} (h1:Hi B w fun z=>Clss z u1 p.pre) (h2:Hi B w fun z=>Clss z u2 p.dep) (h3:Hi B w fun z=>Clss z u3 p.rcm) (h4:Hi B w fun z=>Ats z u4 p.con) (h5:Hi B w fun z=>Ats z u5 p.brk) (h6:Hi B w fun z=>Pvs z u6 p.prv):HasH B w p u1 u2 u3 u4 u5 u6 :=
 fun u hu=>⟨h1 u hu,h2 u hu,h3 u hu,h4 u hu,h5 u hu,h6 u hu⟩
def SmallV (xs:Vls):Prop:=∀ i,i < 11 → (xs i).Small
set_option maxRecDepth 100000 in
set_option maxHeartbeats 16000000 in
theorem pkg_any (cs:Array Value) (xs:Vls) (B:Nat) (w:World) (hV:Vs B w cs xs) (hs:SmallV xs) :
  Calls Tryz.prog 66 #[.agg cs] w fun e w'=>∃ u1 u2 u3 u4 u5 u6,e = .returned (.agg #[.string (xs 0).txt,.string (xs 1).txt,u1,u2,u3,u4,u5,u6,.bool (xs 2).ye]) ∧ HasH w.heap.size w' (pkOf xs) u1 u2 u3 u4 u5 u6 ∧ Below w.heap.size w w':=by
 obtain ⟨v0,hv0,ha0⟩:=hV.at_ 0 (by omega)
 have HA0:=Lib.hid ha0
 have HV0:=Lib.hid hv0
 obtain ⟨v1,hv1,ha1⟩:=hV.at_ 1 (by omega)
 have HA1:=Lib.hid ha1
 have HV1:=Lib.hid hv1
 obtain ⟨v2,hv2,ha2⟩:=hV.at_ 2 (by omega)
 have HA2:=Lib.hid ha2
 have HV2:=Lib.hid hv2
 obtain ⟨v3,hv3,ha3⟩:=hV.at_ 3 (by omega)
 have HA3:=Lib.hid ha3
 have HV3:=Lib.hid hv3
 obtain ⟨v4,hv4,ha4⟩:=hV.at_ 4 (by omega)
 have HA4:=Lib.hid ha4
 have HV4:=Lib.hid hv4
 obtain ⟨v5,hv5,ha5⟩:=hV.at_ 5 (by omega)
 have HA5:=Lib.hid ha5
 have HV5:=Lib.hid hv5
 obtain ⟨v6,hv6,ha6⟩:=hV.at_ 6 (by omega)
 have HA6:=Lib.hid ha6
 have HV6:=Lib.hid hv6
 obtain ⟨v7,hv7,ha7⟩:=hV.at_ 7 (by omega)
 have HA7:=Lib.hid ha7
 have HV7:=Lib.hid hv7
 obtain ⟨v8,hv8,ha8⟩:=hV.at_ 8 (by omega)
 have HA8:=Lib.hid ha8
 have HV8:=Lib.hid hv8
 have HS:=Lib.hid hs
 clear hv0 ha0 hv1 ha1 hv2 ha2 hv3 ha3 hv4 ha4 hv5 ha5 hv6 ha6 hv7 ha7 hv8 ha8 hV hs
 obtain ⟨W0,hW,hB,hsz,hA,hR,hP⟩:=Va.three_new w 99 31 31 cs #[.string ⟨#[]⟩,.string ⟨#[]⟩,.slice none 0 0,.slice none 0 0,.slice none 0 0,.slice none 0 0,.slice none 0 0,.slice none 0 0,.bool false] #[.string ⟨#[]⟩,.string ⟨#[]⟩,.slice none 0 0,.slice none 0 0,.slice none 0 0,.slice none 0 0,.slice none 0 0,.slice none 0 0,.bool false]
 have h1:w.heap.size + 1 < w.heap.size + 3:=by omega
 have HB0:=Lib.hid hB
 have HSZ0:=Lib.hid (show w.heap.size + 3 ≤ W0.heap.size by omega)
 have IB0:=Lib.hid hA
 have IR0:=Lib.hid hR
 have IP0:=Lib.hid hP
 have hu:=hW
 clear hB hsz hR hP hW h1
 have c0:=hA.at HV0.out
 clear hA
 go_enter Tryz.func66,Tryz.ntmps66
 have ca:=Va.text_x (HA0.out.below HB0.out)
 go_wp2_with fail
 refine ca.mono ?_
 rintro e y1 ⟨rfl,k⟩
 clear ca hu c0
 have ib:=Rl.is_on IB0.out k
 have ir:=Rl.is_on IR0.out k
 have ip:=Rl.is_on IP0.out k
 have hb:=HB0.out.trans (k.mono HB0.out.size)
 have hz:w.heap.size + 3 ≤ y1.heap.size:=Nat.le_trans HSZ0.out k.size
 have o1:=ip.at (i:=0) rfl
 have o2:=ip.free 0
 have ip2:Blk.Is (y1.setCell ⟨w.heap.size + 1 + 1,0,none⟩ (.string (xs 0).txt)) (w.heap.size + 1 + 1) 31 #[.string (xs 0).txt,.string ⟨#[]⟩,.slice none 0 0,.slice none 0 0,.slice none 0 0,.slice none 0 0,.slice none 0 0,.slice none 0 0,.bool false]:=ip.set 0 (.string (xs 0).txt)
 have ib2:=ib.setOther (a:=⟨w.heap.size + 1 + 1,0,none⟩) (.string (xs 0).txt) (by show w.heap.size ≠ w.heap.size + 1 + 1; omega)
 have ir2:=ir.setOther (a:=⟨w.heap.size + 1 + 1,0,none⟩) (.string (xs 0).txt) (by show w.heap.size + 1 ≠ w.heap.size + 1 + 1; omega)
 have hb2:=hb.setCell (p:=⟨w.heap.size + 1 + 1,0,none⟩) (by show w.heap.size ≤ w.heap.size + 1 + 1; omega) (.string (xs 0).txt)
 have hz2:w.heap.size + 3 ≤ (y1.setCell ⟨w.heap.size + 1 + 1,0,none⟩ (.string (xs 0).txt)).heap.size:=by rw [show (y1.setCell ⟨w.heap.size + 1 + 1,0,none⟩ (.string (xs 0).txt)).heap.size = y1.heap.size by simp]; exact hz
 have hch:Blk.Chg (fun q=>q < w.heap.size + 3) y1 (y1.setCell ⟨w.heap.size + 1 + 1,0,none⟩ (.string (xs 0).txt)):=(Blk.Chg.refl _ _).setAt (by show w.heap.size + 1 + 1 < w.heap.size + 3; omega)
 obtain ⟨W1,hW1⟩:∃ W',y1.setCell ⟨w.heap.size + 1 + 1,0,none⟩ (.string (xs 0).txt) = W':=⟨_,rfl⟩
 rw [hW1] at ip2 ib2 ir2 hb2 hz2
 have hu:=hW1
 have IB1:=Lib.hid ib2
 have IR1:=Lib.hid ir2
 have IP1:=Lib.hid ip2
 have HB1:=Lib.hid hb2
 have HSZ1:=Lib.hid hz2
 have c0:=ib2.at HV1.out
 clear ib ir ip hb hz ip2 ib2 ir2 hb2 hz2 hch k hW1 IB0 IR0 IP0 HB0 HSZ0
 have ca:=Va.text_x (HA1.out.below HB1.out)
 go_wp2_with fail
 refine ca.mono ?_
 rintro e y2 ⟨rfl,k⟩
 clear ca hu c0
 have ib:=Rl.is_on IB1.out k
 have ir:=Rl.is_on IR1.out k
 have ip:=Rl.is_on IP1.out k
 have hb:=HB1.out.trans (k.mono HB1.out.size)
 have hz:w.heap.size + 3 ≤ y2.heap.size:=Nat.le_trans HSZ1.out k.size
 have o1:=ip.at (i:=1) rfl
 have o2:=ip.free 1
 have ip2:Blk.Is (y2.setCell ⟨w.heap.size + 1 + 1,1,none⟩ (.string (xs 1).txt)) (w.heap.size + 1 + 1) 31 #[.string (xs 0).txt,.string (xs 1).txt,.slice none 0 0,.slice none 0 0,.slice none 0 0,.slice none 0 0,.slice none 0 0,.slice none 0 0,.bool false]:=ip.set 1 (.string (xs 1).txt)
 have ib2:=ib.setOther (a:=⟨w.heap.size + 1 + 1,1,none⟩) (.string (xs 1).txt) (by show w.heap.size ≠ w.heap.size + 1 + 1; omega)
 have ir2:=ir.setOther (a:=⟨w.heap.size + 1 + 1,1,none⟩) (.string (xs 1).txt) (by show w.heap.size + 1 ≠ w.heap.size + 1 + 1; omega)
 have hb2:=hb.setCell (p:=⟨w.heap.size + 1 + 1,1,none⟩) (by show w.heap.size ≤ w.heap.size + 1 + 1; omega) (.string (xs 1).txt)
 have hz2:w.heap.size + 3 ≤ (y2.setCell ⟨w.heap.size + 1 + 1,1,none⟩ (.string (xs 1).txt)).heap.size:=by rw [show (y2.setCell ⟨w.heap.size + 1 + 1,1,none⟩ (.string (xs 1).txt)).heap.size = y2.heap.size by simp]; exact hz
 have hch:Blk.Chg (fun q=>q < w.heap.size + 3) y2 (y2.setCell ⟨w.heap.size + 1 + 1,1,none⟩ (.string (xs 1).txt)):=(Blk.Chg.refl _ _).setAt (by show w.heap.size + 1 + 1 < w.heap.size + 3; omega)
 obtain ⟨W2,hW2⟩:∃ W',y2.setCell ⟨w.heap.size + 1 + 1,1,none⟩ (.string (xs 1).txt) = W':=⟨_,rfl⟩
 rw [hW2] at ip2 ib2 ir2 hb2 hz2
 have hu:=hW2
 have IB2:=Lib.hid ib2
 have IR2:=Lib.hid ir2
 have IP2:=Lib.hid ip2
 have HB2:=Lib.hid hb2
 have HSZ2:=Lib.hid hz2
 have c0:=ib2.at HV2.out
 clear ib ir ip hb hz ip2 ib2 ir2 hb2 hz2 hch k hW2 IB1 IR1 IP1 HB1 HSZ1
 have ca:=Va.yes_x (HA2.out.below HB2.out)
 go_wp2_with fail
 refine ca.mono ?_
 rintro e y3 ⟨rfl,k⟩
 clear ca hu c0
 have ib:=Rl.is_on IB2.out k
 have ir:=Rl.is_on IR2.out k
 have ip:=Rl.is_on IP2.out k
 have hb:=HB2.out.trans (k.mono HB2.out.size)
 have hz:w.heap.size + 3 ≤ y3.heap.size:=Nat.le_trans HSZ2.out k.size
 have o1:=ip.at (i:=8) rfl
 have o2:=ip.free 8
 have ip2:Blk.Is (y3.setCell ⟨w.heap.size + 1 + 1,8,none⟩ (.bool (xs 2).ye)) (w.heap.size + 1 + 1) 31 #[.string (xs 0).txt,.string (xs 1).txt,.slice none 0 0,.slice none 0 0,.slice none 0 0,.slice none 0 0,.slice none 0 0,.slice none 0 0,.bool (xs 2).ye]:=ip.set 8 (.bool (xs 2).ye)
 have ib2:=ib.setOther (a:=⟨w.heap.size + 1 + 1,8,none⟩) (.bool (xs 2).ye) (by show w.heap.size ≠ w.heap.size + 1 + 1; omega)
 have ir2:=ir.setOther (a:=⟨w.heap.size + 1 + 1,8,none⟩) (.bool (xs 2).ye) (by show w.heap.size + 1 ≠ w.heap.size + 1 + 1; omega)
 have hb2:=hb.setCell (p:=⟨w.heap.size + 1 + 1,8,none⟩) (by show w.heap.size ≤ w.heap.size + 1 + 1; omega) (.bool (xs 2).ye)
 have hz2:w.heap.size + 3 ≤ (y3.setCell ⟨w.heap.size + 1 + 1,8,none⟩ (.bool (xs 2).ye)).heap.size:=by rw [show (y3.setCell ⟨w.heap.size + 1 + 1,8,none⟩ (.bool (xs 2).ye)).heap.size = y3.heap.size by simp]; exact hz
 have hch:Blk.Chg (fun q=>q < w.heap.size + 3) y3 (y3.setCell ⟨w.heap.size + 1 + 1,8,none⟩ (.bool (xs 2).ye)):=(Blk.Chg.refl _ _).setAt (by show w.heap.size + 1 + 1 < w.heap.size + 3; omega)
 obtain ⟨W3,hW3⟩:∃ W',y3.setCell ⟨w.heap.size + 1 + 1,8,none⟩ (.bool (xs 2).ye) = W':=⟨_,rfl⟩
 rw [hW3] at ip2 ib2 ir2 hb2 hz2
 have hu:=hW3
 have IB3:=Lib.hid ib2
 have IR3:=Lib.hid ir2
 have IP3:=Lib.hid ip2
 have HB3:=Lib.hid hb2
 have HSZ3:=Lib.hid hz2
 have c0:=ib2.at HV3.out
 clear ib ir ip hb hz ip2 ib2 ir2 hb2 hz2 hch k hW3 IB2 IR2 IP2 HB2 HSZ2
 have ca:=Va.clauses_x (HA3.out.below HB3.out) (HS.out 3 (by omega))
 go_wp2_with fail
 refine ca.mono ?_
 rintro e y4 ⟨u3,rfl,hq3,k⟩
 obtain ⟨a3,d3,rfl⟩:=hq3.here.shape
 clear ca hu c0
 have ib:=Rl.is_on IB3.out k
 have ir:=Rl.is_on IR3.out k
 have ip:=Rl.is_on IP3.out k
 have hb:=HB3.out.trans (k.mono HB3.out.size)
 have hz:w.heap.size + 3 ≤ y4.heap.size:=Nat.le_trans HSZ3.out k.size
 have o1:=ip.at (i:=2) rfl
 have o2:=ip.free 2
 have ip2:Blk.Is (y4.setCell ⟨w.heap.size + 1 + 1,2,none⟩ (.slice a3 (xs 3).cls.length d3)) (w.heap.size + 1 + 1) 31 #[.string (xs 0).txt,.string (xs 1).txt,.slice a3 (xs 3).cls.length d3,.slice none 0 0,.slice none 0 0,.slice none 0 0,.slice none 0 0,.slice none 0 0,.bool (xs 2).ye]:=ip.set 2 (.slice a3 (xs 3).cls.length d3)
 have ib2:=ib.setOther (a:=⟨w.heap.size + 1 + 1,2,none⟩) (.slice a3 (xs 3).cls.length d3) (by show w.heap.size ≠ w.heap.size + 1 + 1; omega)
 have ir2:=ir.setOther (a:=⟨w.heap.size + 1 + 1,2,none⟩) (.slice a3 (xs 3).cls.length d3) (by show w.heap.size + 1 ≠ w.heap.size + 1 + 1; omega)
 have hb2:=hb.setCell (p:=⟨w.heap.size + 1 + 1,2,none⟩) (by show w.heap.size ≤ w.heap.size + 1 + 1; omega) (.slice a3 (xs 3).cls.length d3)
 have hz2:w.heap.size + 3 ≤ (y4.setCell ⟨w.heap.size + 1 + 1,2,none⟩ (.slice a3 (xs 3).cls.length d3)).heap.size:=by rw [show (y4.setCell ⟨w.heap.size + 1 + 1,2,none⟩ (.slice a3 (xs 3).cls.length d3)).heap.size = y4.heap.size by simp]; exact hz
 have hch:Blk.Chg (fun q=>q < w.heap.size + 3) y4 (y4.setCell ⟨w.heap.size + 1 + 1,2,none⟩ (.slice a3 (xs 3).cls.length d3)):=(Blk.Chg.refl _ _).setAt (by show w.heap.size + 1 + 1 < w.heap.size + 3; omega)
 have hh3:=(hq3.mono HSZ3.out).on hch
 obtain ⟨W4,hW4⟩:∃ W',y4.setCell ⟨w.heap.size + 1 + 1,2,none⟩ (.slice a3 (xs 3).cls.length d3) = W':=⟨_,rfl⟩
 rw [hW4] at ip2 ib2 ir2 hb2 hz2 hh3
 have hu:=hW4
 have IB4:=Lib.hid ib2
 have IR4:=Lib.hid ir2
 have IP4:=Lib.hid ip2
 have HB4:=Lib.hid hb2
 have HSZ4:=Lib.hid hz2
 have HH3:=Lib.hid hh3
 have c0:=ib2.at HV4.out
 clear ib ir ip hb hz ip2 ib2 ir2 hb2 hz2 hch k hW4 hq3 hh3 IB3 IR3 IP3 HB3 HSZ3
 generalize hg3:(xs 3).cls.length = m3 at *
 have ca:=Va.clauses_x (HA4.out.below HB4.out) (HS.out 4 (by omega))
 go_wp2_with fail
 refine ca.mono ?_
 rintro e y5 ⟨u4,rfl,hq4,k⟩
 obtain ⟨a4,d4,rfl⟩:=hq4.here.shape
 clear ca hu c0
 have ib:=Rl.is_on IB4.out k
 have ir:=Rl.is_on IR4.out k
 have ip:=Rl.is_on IP4.out k
 have hb:=HB4.out.trans (k.mono HB4.out.size)
 have hz:w.heap.size + 3 ≤ y5.heap.size:=Nat.le_trans HSZ4.out k.size
 have o1:=ip.at (i:=3) rfl
 have o2:=ip.free 3
 have ip2:Blk.Is (y5.setCell ⟨w.heap.size + 1 + 1,3,none⟩ (.slice a4 (xs 4).cls.length d4)) (w.heap.size + 1 + 1) 31 #[.string (xs 0).txt,.string (xs 1).txt,.slice a3 m3 d3,.slice a4 (xs 4).cls.length d4,.slice none 0 0,.slice none 0 0,.slice none 0 0,.slice none 0 0,.bool (xs 2).ye]:=ip.set 3 (.slice a4 (xs 4).cls.length d4)
 have ib2:=ib.setOther (a:=⟨w.heap.size + 1 + 1,3,none⟩) (.slice a4 (xs 4).cls.length d4) (by show w.heap.size ≠ w.heap.size + 1 + 1; omega)
 have ir2:=ir.setOther (a:=⟨w.heap.size + 1 + 1,3,none⟩) (.slice a4 (xs 4).cls.length d4) (by show w.heap.size + 1 ≠ w.heap.size + 1 + 1; omega)
 have hb2:=hb.setCell (p:=⟨w.heap.size + 1 + 1,3,none⟩) (by show w.heap.size ≤ w.heap.size + 1 + 1; omega) (.slice a4 (xs 4).cls.length d4)
 have hz2:w.heap.size + 3 ≤ (y5.setCell ⟨w.heap.size + 1 + 1,3,none⟩ (.slice a4 (xs 4).cls.length d4)).heap.size:=by rw [show (y5.setCell ⟨w.heap.size + 1 + 1,3,none⟩ (.slice a4 (xs 4).cls.length d4)).heap.size = y5.heap.size by simp]; exact hz
 have hch:Blk.Chg (fun q=>q < w.heap.size + 3) y5 (y5.setCell ⟨w.heap.size + 1 + 1,3,none⟩ (.slice a4 (xs 4).cls.length d4)):=(Blk.Chg.refl _ _).setAt (by show w.heap.size + 1 + 1 < w.heap.size + 3; omega)
 have hh3:=(HH3.out.below k).on hch
 have hh4:=(hq4.mono HSZ4.out).on hch
 obtain ⟨W5,hW5⟩:∃ W',y5.setCell ⟨w.heap.size + 1 + 1,3,none⟩ (.slice a4 (xs 4).cls.length d4) = W':=⟨_,rfl⟩
 rw [hW5] at ip2 ib2 ir2 hb2 hz2 hh3 hh4
 have hu:=hW5
 have IB5:=Lib.hid ib2
 have IR5:=Lib.hid ir2
 have IP5:=Lib.hid ip2
 have HB5:=Lib.hid hb2
 have HSZ5:=Lib.hid hz2
 have HH3:=Lib.hid hh3
 have HH4:=Lib.hid hh4
 have c0:=ib2.at HV5.out
 clear ib ir ip hb hz ip2 ib2 ir2 hb2 hz2 hch k hW5 hq4 hh3 hh4 IB4 IR4 IP4 HB4 HSZ4
 generalize hg4:(xs 4).cls.length = m4 at *
 have ca:=Va.clauses_x (HA5.out.below HB5.out) (HS.out 5 (by omega))
 go_wp2_with fail
 refine ca.mono ?_
 rintro e y6 ⟨u5,rfl,hq5,k⟩
 obtain ⟨a5,d5,rfl⟩:=hq5.here.shape
 clear ca hu c0
 have ib:=Rl.is_on IB5.out k
 have ir:=Rl.is_on IR5.out k
 have ip:=Rl.is_on IP5.out k
 have hb:=HB5.out.trans (k.mono HB5.out.size)
 have hz:w.heap.size + 3 ≤ y6.heap.size:=Nat.le_trans HSZ5.out k.size
 have o1:=ip.at (i:=4) rfl
 have o2:=ip.free 4
 have ip2:Blk.Is (y6.setCell ⟨w.heap.size + 1 + 1,4,none⟩ (.slice a5 (xs 5).cls.length d5)) (w.heap.size + 1 + 1) 31 #[.string (xs 0).txt,.string (xs 1).txt,.slice a3 m3 d3,.slice a4 m4 d4,.slice a5 (xs 5).cls.length d5,.slice none 0 0,.slice none 0 0,.slice none 0 0,.bool (xs 2).ye]:=ip.set 4 (.slice a5 (xs 5).cls.length d5)
 have ib2:=ib.setOther (a:=⟨w.heap.size + 1 + 1,4,none⟩) (.slice a5 (xs 5).cls.length d5) (by show w.heap.size ≠ w.heap.size + 1 + 1; omega)
 have ir2:=ir.setOther (a:=⟨w.heap.size + 1 + 1,4,none⟩) (.slice a5 (xs 5).cls.length d5) (by show w.heap.size + 1 ≠ w.heap.size + 1 + 1; omega)
 have hb2:=hb.setCell (p:=⟨w.heap.size + 1 + 1,4,none⟩) (by show w.heap.size ≤ w.heap.size + 1 + 1; omega) (.slice a5 (xs 5).cls.length d5)
 have hz2:w.heap.size + 3 ≤ (y6.setCell ⟨w.heap.size + 1 + 1,4,none⟩ (.slice a5 (xs 5).cls.length d5)).heap.size:=by rw [show (y6.setCell ⟨w.heap.size + 1 + 1,4,none⟩ (.slice a5 (xs 5).cls.length d5)).heap.size = y6.heap.size by simp]; exact hz
 have hch:Blk.Chg (fun q=>q < w.heap.size + 3) y6 (y6.setCell ⟨w.heap.size + 1 + 1,4,none⟩ (.slice a5 (xs 5).cls.length d5)):=(Blk.Chg.refl _ _).setAt (by show w.heap.size + 1 + 1 < w.heap.size + 3; omega)
 have hh3:=(HH3.out.below k).on hch
 have hh4:=(HH4.out.below k).on hch
 have hh5:=(hq5.mono HSZ5.out).on hch
 obtain ⟨W6,hW6⟩:∃ W',y6.setCell ⟨w.heap.size + 1 + 1,4,none⟩ (.slice a5 (xs 5).cls.length d5) = W':=⟨_,rfl⟩
 rw [hW6] at ip2 ib2 ir2 hb2 hz2 hh3 hh4 hh5
 have hu:=hW6
 have IB6:=Lib.hid ib2
 have IR6:=Lib.hid ir2
 have IP6:=Lib.hid ip2
 have HB6:=Lib.hid hb2
 have HSZ6:=Lib.hid hz2
 have HH3:=Lib.hid hh3
 have HH4:=Lib.hid hh4
 have HH5:=Lib.hid hh5
 have c0:=ib2.at HV6.out
 clear ib ir ip hb hz ip2 ib2 ir2 hb2 hz2 hch k hW6 hq5 hh3 hh4 hh5 IB5 IR5 IP5 HB5 HSZ5
 generalize hg5:(xs 5).cls.length = m5 at *
 have ca:=Va.atoms_x (HA6.out.below HB6.out) (HS.out 6 (by omega))
 go_wp2_with fail
 refine ca.mono ?_
 rintro e y7 ⟨u6,rfl,hq6,k⟩
 obtain ⟨a6,d6,rfl⟩:=hq6.here.shape
 clear ca hu c0
 have ib:=Rl.is_on IB6.out k
 have ir:=Rl.is_on IR6.out k
 have ip:=Rl.is_on IP6.out k
 have hb:=HB6.out.trans (k.mono HB6.out.size)
 have hz:w.heap.size + 3 ≤ y7.heap.size:=Nat.le_trans HSZ6.out k.size
 have o1:=ip.at (i:=5) rfl
 have o2:=ip.free 5
 have ip2:Blk.Is (y7.setCell ⟨w.heap.size + 1 + 1,5,none⟩ (.slice a6 (xs 6).ats.length d6)) (w.heap.size + 1 + 1) 31 #[.string (xs 0).txt,.string (xs 1).txt,.slice a3 m3 d3,.slice a4 m4 d4,.slice a5 m5 d5,.slice a6 (xs 6).ats.length d6,.slice none 0 0,.slice none 0 0,.bool (xs 2).ye]:=ip.set 5 (.slice a6 (xs 6).ats.length d6)
 have ib2:=ib.setOther (a:=⟨w.heap.size + 1 + 1,5,none⟩) (.slice a6 (xs 6).ats.length d6) (by show w.heap.size ≠ w.heap.size + 1 + 1; omega)
 have ir2:=ir.setOther (a:=⟨w.heap.size + 1 + 1,5,none⟩) (.slice a6 (xs 6).ats.length d6) (by show w.heap.size + 1 ≠ w.heap.size + 1 + 1; omega)
 have hb2:=hb.setCell (p:=⟨w.heap.size + 1 + 1,5,none⟩) (by show w.heap.size ≤ w.heap.size + 1 + 1; omega) (.slice a6 (xs 6).ats.length d6)
 have hz2:w.heap.size + 3 ≤ (y7.setCell ⟨w.heap.size + 1 + 1,5,none⟩ (.slice a6 (xs 6).ats.length d6)).heap.size:=by rw [show (y7.setCell ⟨w.heap.size + 1 + 1,5,none⟩ (.slice a6 (xs 6).ats.length d6)).heap.size = y7.heap.size by simp]; exact hz
 have hch:Blk.Chg (fun q=>q < w.heap.size + 3) y7 (y7.setCell ⟨w.heap.size + 1 + 1,5,none⟩ (.slice a6 (xs 6).ats.length d6)):=(Blk.Chg.refl _ _).setAt (by show w.heap.size + 1 + 1 < w.heap.size + 3; omega)
 have hh3:=(HH3.out.below k).on hch
 have hh4:=(HH4.out.below k).on hch
 have hh5:=(HH5.out.below k).on hch
 have hh6:=(hq6.mono HSZ6.out).on hch
 obtain ⟨W7,hW7⟩:∃ W',y7.setCell ⟨w.heap.size + 1 + 1,5,none⟩ (.slice a6 (xs 6).ats.length d6) = W':=⟨_,rfl⟩
 rw [hW7] at ip2 ib2 ir2 hb2 hz2 hh3 hh4 hh5 hh6
 have hu:=hW7
 have IB7:=Lib.hid ib2
 have IR7:=Lib.hid ir2
 have IP7:=Lib.hid ip2
 have HB7:=Lib.hid hb2
 have HSZ7:=Lib.hid hz2
 have HH3:=Lib.hid hh3
 have HH4:=Lib.hid hh4
 have HH5:=Lib.hid hh5
 have HH6:=Lib.hid hh6
 have c0:=ib2.at HV7.out
 clear ib ir ip hb hz ip2 ib2 ir2 hb2 hz2 hch k hW7 hq6 hh3 hh4 hh5 hh6 IB6 IR6 IP6 HB6 HSZ6
 generalize hg6:(xs 6).ats.length = m6 at *
 have ca:=Va.atoms_x (HA7.out.below HB7.out) (HS.out 7 (by omega))
 go_wp2_with fail
 refine ca.mono ?_
 rintro e y8 ⟨u7,rfl,hq7,k⟩
 obtain ⟨a7,d7,rfl⟩:=hq7.here.shape
 clear ca hu c0
 have ib:=Rl.is_on IB7.out k
 have ir:=Rl.is_on IR7.out k
 have ip:=Rl.is_on IP7.out k
 have hb:=HB7.out.trans (k.mono HB7.out.size)
 have hz:w.heap.size + 3 ≤ y8.heap.size:=Nat.le_trans HSZ7.out k.size
 have o1:=ip.at (i:=6) rfl
 have o2:=ip.free 6
 have ip2:Blk.Is (y8.setCell ⟨w.heap.size + 1 + 1,6,none⟩ (.slice a7 (xs 7).ats.length d7)) (w.heap.size + 1 + 1) 31 #[.string (xs 0).txt,.string (xs 1).txt,.slice a3 m3 d3,.slice a4 m4 d4,.slice a5 m5 d5,.slice a6 m6 d6,.slice a7 (xs 7).ats.length d7,.slice none 0 0,.bool (xs 2).ye]:=ip.set 6 (.slice a7 (xs 7).ats.length d7)
 have ib2:=ib.setOther (a:=⟨w.heap.size + 1 + 1,6,none⟩) (.slice a7 (xs 7).ats.length d7) (by show w.heap.size ≠ w.heap.size + 1 + 1; omega)
 have ir2:=ir.setOther (a:=⟨w.heap.size + 1 + 1,6,none⟩) (.slice a7 (xs 7).ats.length d7) (by show w.heap.size + 1 ≠ w.heap.size + 1 + 1; omega)
 have hb2:=hb.setCell (p:=⟨w.heap.size + 1 + 1,6,none⟩) (by show w.heap.size ≤ w.heap.size + 1 + 1; omega) (.slice a7 (xs 7).ats.length d7)
 have hz2:w.heap.size + 3 ≤ (y8.setCell ⟨w.heap.size + 1 + 1,6,none⟩ (.slice a7 (xs 7).ats.length d7)).heap.size:=by rw [show (y8.setCell ⟨w.heap.size + 1 + 1,6,none⟩ (.slice a7 (xs 7).ats.length d7)).heap.size = y8.heap.size by simp]; exact hz
 have hch:Blk.Chg (fun q=>q < w.heap.size + 3) y8 (y8.setCell ⟨w.heap.size + 1 + 1,6,none⟩ (.slice a7 (xs 7).ats.length d7)):=(Blk.Chg.refl _ _).setAt (by show w.heap.size + 1 + 1 < w.heap.size + 3; omega)
 have hh3:=(HH3.out.below k).on hch
 have hh4:=(HH4.out.below k).on hch
 have hh5:=(HH5.out.below k).on hch
 have hh6:=(HH6.out.below k).on hch
 have hh7:=(hq7.mono HSZ7.out).on hch
 obtain ⟨W8,hW8⟩:∃ W',y8.setCell ⟨w.heap.size + 1 + 1,6,none⟩ (.slice a7 (xs 7).ats.length d7) = W':=⟨_,rfl⟩
 rw [hW8] at ip2 ib2 ir2 hb2 hz2 hh3 hh4 hh5 hh6 hh7
 have hu:=hW8
 have IB8:=Lib.hid ib2
 have IR8:=Lib.hid ir2
 have IP8:=Lib.hid ip2
 have HB8:=Lib.hid hb2
 have HSZ8:=Lib.hid hz2
 have HH3:=Lib.hid hh3
 have HH4:=Lib.hid hh4
 have HH5:=Lib.hid hh5
 have HH6:=Lib.hid hh6
 have HH7:=Lib.hid hh7
 have c0:=ib2.at HV8.out
 clear ib ir ip hb hz ip2 ib2 ir2 hb2 hz2 hch k hW8 hq7 hh3 hh4 hh5 hh6 hh7 IB7 IR7 IP7 HB7 HSZ7
 generalize hg7:(xs 7).ats.length = m7 at *
 have ca:=Va.provs_x (HA8.out.below HB8.out) (HS.out 8 (by omega))
 go_wp2_with fail
 refine ca.mono ?_
 rintro e y9 ⟨u8,rfl,hq8,k⟩
 obtain ⟨a8,d8,rfl⟩:=hq8.here.shape
 clear ca hu c0
 have ib:=Rl.is_on IB8.out k
 have ir:=Rl.is_on IR8.out k
 have ip:=Rl.is_on IP8.out k
 have hb:=HB8.out.trans (k.mono HB8.out.size)
 have hz:w.heap.size + 3 ≤ y9.heap.size:=Nat.le_trans HSZ8.out k.size
 have o1:=ip.at (i:=7) rfl
 have o2:=ip.free 7
 have ip2:Blk.Is (y9.setCell ⟨w.heap.size + 1 + 1,7,none⟩ (.slice a8 (xs 8).pvs.length d8)) (w.heap.size + 1 + 1) 31 #[.string (xs 0).txt,.string (xs 1).txt,.slice a3 m3 d3,.slice a4 m4 d4,.slice a5 m5 d5,.slice a6 m6 d6,.slice a7 m7 d7,.slice a8 (xs 8).pvs.length d8,.bool (xs 2).ye]:=ip.set 7 (.slice a8 (xs 8).pvs.length d8)
 have ib2:=ib.setOther (a:=⟨w.heap.size + 1 + 1,7,none⟩) (.slice a8 (xs 8).pvs.length d8) (by show w.heap.size ≠ w.heap.size + 1 + 1; omega)
 have ir2:=ir.setOther (a:=⟨w.heap.size + 1 + 1,7,none⟩) (.slice a8 (xs 8).pvs.length d8) (by show w.heap.size + 1 ≠ w.heap.size + 1 + 1; omega)
 have hb2:=hb.setCell (p:=⟨w.heap.size + 1 + 1,7,none⟩) (by show w.heap.size ≤ w.heap.size + 1 + 1; omega) (.slice a8 (xs 8).pvs.length d8)
 have hz2:w.heap.size + 3 ≤ (y9.setCell ⟨w.heap.size + 1 + 1,7,none⟩ (.slice a8 (xs 8).pvs.length d8)).heap.size:=by rw [show (y9.setCell ⟨w.heap.size + 1 + 1,7,none⟩ (.slice a8 (xs 8).pvs.length d8)).heap.size = y9.heap.size by simp]; exact hz
 have hch:Blk.Chg (fun q=>q < w.heap.size + 3) y9 (y9.setCell ⟨w.heap.size + 1 + 1,7,none⟩ (.slice a8 (xs 8).pvs.length d8)):=(Blk.Chg.refl _ _).setAt (by show w.heap.size + 1 + 1 < w.heap.size + 3; omega)
 have hh3:=(HH3.out.below k).on hch
 have hh4:=(HH4.out.below k).on hch
 have hh5:=(HH5.out.below k).on hch
 have hh6:=(HH6.out.below k).on hch
 have hh7:=(HH7.out.below k).on hch
 have hh8:=(hq8.mono HSZ8.out).on hch
 obtain ⟨W9,hW9⟩:∃ W',y9.setCell ⟨w.heap.size + 1 + 1,7,none⟩ (.slice a8 (xs 8).pvs.length d8) = W':=⟨_,rfl⟩
 rw [hW9] at ip2 ib2 ir2 hb2 hz2 hh3 hh4 hh5 hh6 hh7 hh8
 have hu:=hW9
 have IB9:=Lib.hid ib2
 have IR9:=Lib.hid ir2
 have IP9:=Lib.hid ip2
 have HB9:=Lib.hid hb2
 have HSZ9:=Lib.hid hz2
 have HH3:=Lib.hid hh3
 have HH4:=Lib.hid hh4
 have HH5:=Lib.hid hh5
 have HH6:=Lib.hid hh6
 have HH7:=Lib.hid hh7
 have HH8:=Lib.hid hh8
 skip
 clear ib ir ip hb hz ip2 ib2 ir2 hb2 hz2 hch k hW9 hq8 hh3 hh4 hh5 hh6 hh7 hh8 IB8 IR8 IP8 HB8 HSZ8
 generalize hg8:(xs 8).pvs.length = m8 at *
 have hi9:(Tryz.prog.info? 31).map (·.size) = some 9:=by kernel_rfl
 have RP:=Lib.hid (range_vals IP9.out)
 go_wp2_with (first | (refine wpList_load_mid rfl 31 (.tmp 3) rfl (w.heap.size + 1 + 1) 0 rfl _ _ RP.out Tryz.underlying31 rfl hi9 ?_) | (refine wpList_store_row rfl 31 (.tmp 2) (.tmp 67) rfl (w.heap.size + 1) #[.string (xs 0).txt,.string (xs 1).txt,.slice a3 m3 d3,.slice a4 m4 d4,.slice a5 m5 d5,.slice a6 m6 d6,.slice a7 m7 d7,.slice a8 m8 d8,.bool (xs 2).ye] rfl rfl 31 #[.string ⟨#[]⟩,.string ⟨#[]⟩,.slice none 0 0,.slice none 0 0,.slice none 0 0,.slice none 0 0,.slice none 0 0,.slice none 0 0,.bool false] IR9.out hi9 (by rfl) (by simp [Value.oneCell']) ?_))
 have hr:=IR9.out.row #[.string (xs 0).txt,.string (xs 1).txt,.slice a3 m3 d3,.slice a4 m4 d4,.slice a5 m5 d5,.slice a6 m6 d6,.slice a7 m7 d7,.slice a8 m8 d8,.bool (xs 2).ye]
 have hb3:=Va.below_row HB9.out (by show w.heap.size ≤ w.heap.size + 1; omega) #[.string (xs 0).txt,.string (xs 1).txt,.slice a3 m3 d3,.slice a4 m4 d4,.slice a5 m5 d5,.slice a6 m6 d6,.slice a7 m7 d7,.slice a8 m8 d8,.bool (xs 2).ye]
 have hch:Blk.Chg (fun q=>q < w.heap.size + 3) W9 (W9.setRow (w.heap.size + 1) #[.string (xs 0).txt,.string (xs 1).txt,.slice a3 m3 d3,.slice a4 m4 d4,.slice a5 m5 d5,.slice a6 m6 d6,.slice a7 m7 d7,.slice a8 m8 d8,.bool (xs 2).ye]):=(Blk.Chg.refl _ W9).setRow (by show w.heap.size + 1 < w.heap.size + 3; omega) _
 have hres:HasH w.heap.size (W9.setRow (w.heap.size + 1) #[.string (xs 0).txt,.string (xs 1).txt,.slice a3 m3 d3,.slice a4 m4 d4,.slice a5 m5 d5,.slice a6 m6 d6,.slice a7 m7 d7,.slice a8 m8 d8,.bool (xs 2).ye]) (pkOf xs) (.slice a3 m3 d3) (.slice a4 m4 d4) (.slice a5 m5 d5) (.slice a6 m6 d6) (.slice a7 m7 d7) (.slice a8 m8 d8) :=
  HasH.of ((HH3.out.on hch).mono (by omega)) ((HH4.out.on hch).mono (by omega)) ((HH5.out.on hch).mono (by omega)) ((HH6.out.on hch).mono (by omega)) ((HH7.out.on hch).mono (by omega)) ((HH8.out.on hch).mono (by omega))
 generalize W9.setRow (w.heap.size + 1) #[.string (xs 0).txt,.string (xs 1).txt,.slice a3 m3 d3,.slice a4 m4 d4,.slice a5 m5 d5,.slice a6 m6 d6,.slice a7 m7 d7,.slice a8 m8 d8,.bool (xs 2).ye] = W at *
 have r0:=hr.at (i:=0) rfl
 have r1:=hr.at (i:=1) rfl
 have r2:=hr.at (i:=2) rfl
 have r3:=hr.at (i:=3) rfl
 have r4:=hr.at (i:=4) rfl
 have r5:=hr.at (i:=5) rfl
 have r6:=hr.at (i:=6) rfl
 have r7:=hr.at (i:=7) rfl
 have r8:=hr.at (i:=8) rfl
 clear hch hr hu
 refine bodyPost_ret (v:=.agg #[.string (xs 0).txt,.string (xs 1).txt,.slice a3 m3 d3,.slice a4 m4 d4,.slice a5 m5 d5,.slice a6 m6 d6,.slice a7 m7 d7,.slice a8 m8 d8,.bool (xs 2).ye]) ?_ rfl ?_
 ·simp [results,Tryz.results66,go_sem,r0,r1,r2,r3,r4,r5,r6,r7,r8]
 ·exact ⟨_,_,_,_,_,_,rfl,hres,hb3⟩
end Rc
end Go.Proofs.YthmpepnikmdjpaaGreatDoor

/-
The package, and the entry, that the values of fields are. How great the pieces are of what is read; what is read may be printed but for its length. The reference's Fold: the same as Fold. At which lines stanzas begin; a line that many lines further; the Fold of a field's lines is no longer than texts may be.
-/
import Derived.Test.YthmpepnikmdjpaaGreatDoorARecFld
import Derived.Test.YthmpepnikmdjpaaGreatDoorAValSort
import Derived.Test.YthmpepnikmdjpaaGreatDoorAValBackM
import Derived.Test.YthmpepnikmdjpaaGreatDoorAStzParse
namespace Go.Proofs.YthmpepnikmdjpaaGreatDoor
open Go.RowKit
set_option linter.unusedSimpArgs false
set_option linter.unusedVariables false
namespace Rc
open Ver (Bs li li_len S S_self S_size S_li)
open Rl (At Pv Ats Pvs Clss Slc LimA LimP LimC Vars)
open Va (Hi Vl VAt wrT)
def HasH (B:Nat) (w:World) (p:Pk) (u1 u2 u3 u4 u5 u6:Value):Prop:=Hi B w fun z=>Has z p u1 u2 u3 u4 u5 u6
theorem HasH.of {B:Nat} {w:World} {p:Pk} {u1 u2 u3 u4 u5 u6:Value} (h1:Hi B w fun z=>Clss z u1 p.pre) (h2:Hi B w fun z=>Clss z u2 p.dep) (h3:Hi B w fun z=>Clss z u3 p.rcm) (h4:Hi B w fun z=>Ats z u4 p.con) (h5:Hi B w fun z=>Ats z u5 p.brk) (h6:Hi B w fun z=>Pvs z u6 p.prv):HasH B w p u1 u2 u3 u4 u5 u6 :=
 fun u hu=>⟨h1 u hu,h2 u hu,h3 u hu,h4 u hu,h5 u hu,h6 u hu⟩
def SmallV (xs:Vls):Prop:=∀ i,i < 11 → (xs i).Small
set_option maxRecDepth 100000 in
set_option maxHeartbeats 16000000 in
theorem pkg_any (cs:Array Value) (xs:Vls) (B:Nat) (w:World) (hV:Vs B w cs xs) (hs:SmallV xs) :
  Calls Tryz.prog 66 #[.agg cs] w fun e w'=>∃ u1 u2 u3 u4 u5 u6,e = .returned (.agg #[.string (xs 0).txt,.string (xs 1).txt,u1,u2,u3,u4,u5,u6,.bool (xs 2).ye]) ∧ HasH w.heap.size w' (pkOf xs) u1 u2 u3 u4 u5 u6 ∧ Below w.heap.size w w':=by
 obtain ⟨v0,hv0,ha0⟩:=hV.at_ 0 (by omega)
 have HA0:=Lib.hid ha0
 have HV0:=Lib.hid hv0
 obtain ⟨v1,hv1,ha1⟩:=hV.at_ 1 (by omega)
 have HA1:=Lib.hid ha1
 have HV1:=Lib.hid hv1
 obtain ⟨v2,hv2,ha2⟩:=hV.at_ 2 (by omega)
 have HA2:=Lib.hid ha2
 have HV2:=Lib.hid hv2
 obtain ⟨v3,hv3,ha3⟩:=hV.at_ 3 (by omega)
 have HA3:=Lib.hid ha3
 have HV3:=Lib.hid hv3
 obtain ⟨v4,hv4,ha4⟩:=hV.at_ 4 (by omega)
 have HA4:=Lib.hid ha4
 have HV4:=Lib.hid hv4
 obtain ⟨v5,hv5,ha5⟩:=hV.at_ 5 (by omega)
 have HA5:=Lib.hid ha5
 have HV5:=Lib.hid hv5
 obtain ⟨v6,hv6,ha6⟩:=hV.at_ 6 (by omega)
 have HA6:=Lib.hid ha6
 have HV6:=Lib.hid hv6
 obtain ⟨v7,hv7,ha7⟩:=hV.at_ 7 (by omega)
 have HA7:=Lib.hid ha7
 have HV7:=Lib.hid hv7
 obtain ⟨v8,hv8,ha8⟩:=hV.at_ 8 (by omega)
 have HA8:=Lib.hid ha8
 have HV8:=Lib.hid hv8
 have HS:=Lib.hid hs
 clear hv0 ha0 hv1 ha1 hv2 ha2 hv3 ha3 hv4 ha4 hv5 ha5 hv6 ha6 hv7 ha7 hv8 ha8 hV hs
 obtain ⟨W0,hW,hB,hsz,hA,hR,hP⟩:=Va.three_new w 99 31 31 cs #[.string ⟨#[]⟩,.string ⟨#[]⟩,.slice none 0 0,.slice none 0 0,.slice none 0 0,.slice none 0 0,.slice none 0 0,.slice none 0 0,.bool false] #[.string ⟨#[]⟩,.string ⟨#[]⟩,.slice none 0 0,.slice none 0 0,.slice none 0 0,.slice none 0 0,.slice none 0 0,.slice none 0 0,.bool false]
 have h1:w.heap.size + 1 < w.heap.size + 3:=by omega
 have HB0:=Lib.hid hB
 have HSZ0:=Lib.hid (show w.heap.size + 3 ≤ W0.heap.size by omega)
 have IB0:=Lib.hid hA
 have IR0:=Lib.hid hR
 have IP0:=Lib.hid hP
 have hu:=hW
 clear hB hsz hR hP hW h1
 have c0:=hA.at HV0.out
 clear hA
 go_enter Tryz.func66,Tryz.ntmps66
 have ca:=Va.text_x (HA0.out.below HB0.out)
 go_wp2_with fail
 refine ca.mono ?_
 rintro e y1 ⟨rfl,k⟩
 clear ca hu c0
 have ib:=Rl.is_on IB0.out k
 have ir:=Rl.is_on IR0.out k
 have ip:=Rl.is_on IP0.out k
 have hb:=HB0.out.trans (k.mono HB0.out.size)
 have hz:w.heap.size + 3 ≤ y1.heap.size:=Nat.le_trans HSZ0.out k.size
 have o1:=ip.at (i:=0) rfl
 have o2:=ip.free 0
 have ip2:Blk.Is (y1.setCell ⟨w.heap.size + 1 + 1,0,none⟩ (.string (xs 0).txt)) (w.heap.size + 1 + 1) 31 #[.string (xs 0).txt,.string ⟨#[]⟩,.slice none 0 0,.slice none 0 0,.slice none 0 0,.slice none 0 0,.slice none 0 0,.slice none 0 0,.bool false]:=ip.set 0 (.string (xs 0).txt)
 have ib2:=ib.setOther (a:=⟨w.heap.size + 1 + 1,0,none⟩) (.string (xs 0).txt) (by show w.heap.size ≠ w.heap.size + 1 + 1; omega)
 have ir2:=ir.setOther (a:=⟨w.heap.size + 1 + 1,0,none⟩) (.string (xs 0).txt) (by show w.heap.size + 1 ≠ w.heap.size + 1 + 1; omega)
 have hb2:=hb.setCell (p:=⟨w.heap.size + 1 + 1,0,none⟩) (by show w.heap.size ≤ w.heap.size + 1 + 1; omega) (.string (xs 0).txt)
 have hz2:w.heap.size + 3 ≤ (y1.setCell ⟨w.heap.size + 1 + 1,0,none⟩ (.string (xs 0).txt)).heap.size:=by rw [show (y1.setCell ⟨w.heap.size + 1 + 1,0,none⟩ (.string (xs 0).txt)).heap.size = y1.heap.size by simp]; exact hz
 have hch:Blk.Chg (fun q=>q < w.heap.size + 3) y1 (y1.setCell ⟨w.heap.size + 1 + 1,0,none⟩ (.string (xs 0).txt)):=(Blk.Chg.refl _ _).setAt (by show w.heap.size + 1 + 1 < w.heap.size + 3; omega)
 obtain ⟨W1,hW1⟩:∃ W',y1.setCell ⟨w.heap.size + 1 + 1,0,none⟩ (.string (xs 0).txt) = W':=⟨_,rfl⟩
 rw [hW1] at ip2 ib2 ir2 hb2 hz2
 have hu:=hW1
 have IB1:=Lib.hid ib2
 have IR1:=Lib.hid ir2
 have IP1:=Lib.hid ip2
 have HB1:=Lib.hid hb2
 have HSZ1:=Lib.hid hz2
 have c0:=ib2.at HV1.out
 clear ib ir ip hb hz ip2 ib2 ir2 hb2 hz2 hch k hW1 IB0 IR0 IP0 HB0 HSZ0
 have ca:=Va.text_x (HA1.out.below HB1.out)
 go_wp2_with fail
 refine ca.mono ?_
 rintro e y2 ⟨rfl,k⟩
 clear ca hu c0
 have ib:=Rl.is_on IB1.out k
 have ir:=Rl.is_on IR1.out k
 have ip:=Rl.is_on IP1.out k
 have hb:=HB1.out.trans (k.mono HB1.out.size)
 have hz:w.heap.size + 3 ≤ y2.heap.size:=Nat.le_trans HSZ1.out k.size
 have o1:=ip.at (i:=1) rfl
 have o2:=ip.free 1
 have ip2:Blk.Is (y2.setCell ⟨w.heap.size + 1 + 1,1,none⟩ (.string (xs 1).txt)) (w.heap.size + 1 + 1) 31 #[.string (xs 0).txt,.string (xs 1).txt,.slice none 0 0,.slice none 0 0,.slice none 0 0,.slice none 0 0,.slice none 0 0,.slice none 0 0,.bool false]:=ip.set 1 (.string (xs 1).txt)
 have ib2:=ib.setOther (a:=⟨w.heap.size + 1 + 1,1,none⟩) (.string (xs 1).txt) (by show w.heap.size ≠ w.heap.size + 1 + 1; omega)
 have ir2:=ir.setOther (a:=⟨w.heap.size + 1 + 1,1,none⟩) (.string (xs 1).txt) (by show w.heap.size + 1 ≠ w.heap.size + 1 + 1; omega)
 have hb2:=hb.setCell (p:=⟨w.heap.size + 1 + 1,1,none⟩) (by show w.heap.size ≤ w.heap.size + 1 + 1; omega) (.string (xs 1).txt)
 have hz2:w.heap.size + 3 ≤ (y2.setCell ⟨w.heap.size + 1 + 1,1,none⟩ (.string (xs 1).txt)).heap.size:=by rw [show (y2.setCell ⟨w.heap.size + 1 + 1,1,none⟩ (.string (xs 1).txt)).heap.size = y2.heap.size by simp]; exact hz
 have hch:Blk.Chg (fun q=>q < w.heap.size + 3) y2 (y2.setCell ⟨w.heap.size + 1 + 1,1,none⟩ (.string (xs 1).txt)):=(Blk.Chg.refl _ _).setAt (by show w.heap.size + 1 + 1 < w.heap.size + 3; omega)
 obtain ⟨W2,hW2⟩:∃ W',y2.setCell ⟨w.heap.size + 1 + 1,1,none⟩ (.string (xs 1).txt) = W':=⟨_,rfl⟩
 rw [hW2] at ip2 ib2 ir2 hb2 hz2
 have hu:=hW2
 have IB2:=Lib.hid ib2
 have IR2:=Lib.hid ir2
 have IP2:=Lib.hid ip2
 have HB2:=Lib.hid hb2
 have HSZ2:=Lib.hid hz2
 have c0:=ib2.at HV2.out
 clear ib ir ip hb hz ip2 ib2 ir2 hb2 hz2 hch k hW2 IB1 IR1 IP1 HB1 HSZ1
 have ca:=Va.yes_x (HA2.out.below HB2.out)
 go_wp2_with fail
 refine ca.mono ?_
 rintro e y3 ⟨rfl,k⟩
 clear ca hu c0
 have ib:=Rl.is_on IB2.out k
 have ir:=Rl.is_on IR2.out k
 have ip:=Rl.is_on IP2.out k
 have hb:=HB2.out.trans (k.mono HB2.out.size)
 have hz:w.heap.size + 3 ≤ y3.heap.size:=Nat.le_trans HSZ2.out k.size
 have o1:=ip.at (i:=8) rfl
 have o2:=ip.free 8
 have ip2:Blk.Is (y3.setCell ⟨w.heap.size + 1 + 1,8,none⟩ (.bool (xs 2).ye)) (w.heap.size + 1 + 1) 31 #[.string (xs 0).txt,.string (xs 1).txt,.slice none 0 0,.slice none 0 0,.slice none 0 0,.slice none 0 0,.slice none 0 0,.slice none 0 0,.bool (xs 2).ye]:=ip.set 8 (.bool (xs 2).ye)
 have ib2:=ib.setOther (a:=⟨w.heap.size + 1 + 1,8,none⟩) (.bool (xs 2).ye) (by show w.heap.size ≠ w.heap.size + 1 + 1; omega)
 have ir2:=ir.setOther (a:=⟨w.heap.size + 1 + 1,8,none⟩) (.bool (xs 2).ye) (by show w.heap.size + 1 ≠ w.heap.size + 1 + 1; omega)
 have hb2:=hb.setCell (p:=⟨w.heap.size + 1 + 1,8,none⟩) (by show w.heap.size ≤ w.heap.size + 1 + 1; omega) (.bool (xs 2).ye)
 have hz2:w.heap.size + 3 ≤ (y3.setCell ⟨w.heap.size + 1 + 1,8,none⟩ (.bool (xs 2).ye)).heap.size:=by rw [show (y3.setCell ⟨w.heap.size + 1 + 1,8,none⟩ (.bool (xs 2).ye)).heap.size = y3.heap.size by simp]; exact hz
 have hch:Blk.Chg (fun q=>q < w.heap.size + 3) y3 (y3.setCell ⟨w.heap.size + 1 + 1,8,none⟩ (.bool (xs 2).ye)):=(Blk.Chg.refl _ _).setAt (by show w.heap.size + 1 + 1 < w.heap.size + 3; omega)
 obtain ⟨W3,hW3⟩:∃ W',y3.setCell ⟨w.heap.size + 1 + 1,8,none⟩ (.bool (xs 2).ye) = W':=⟨_,rfl⟩
 rw [hW3] at ip2 ib2 ir2 hb2 hz2
 have hu:=hW3
 have IB3:=Lib.hid ib2
 have IR3:=Lib.hid ir2
 have IP3:=Lib.hid ip2
 have HB3:=Lib.hid hb2
 have HSZ3:=Lib.hid hz2
 have c0:=ib2.at HV3.out
 clear ib ir ip hb hz ip2 ib2 ir2 hb2 hz2 hch k hW3 IB2 IR2 IP2 HB2 HSZ2
 have ca:=Va.clauses_x (HA3.out.below HB3.out) (HS.out 3 (by omega))
 go_wp2_with fail
 refine ca.mono ?_
 rintro e y4 ⟨u3,rfl,hq3,k⟩
 obtain ⟨a3,d3,rfl⟩:=hq3.here.shape
 clear ca hu c0
 have ib:=Rl.is_on IB3.out k
 have ir:=Rl.is_on IR3.out k
 have ip:=Rl.is_on IP3.out k
 have hb:=HB3.out.trans (k.mono HB3.out.size)
 have hz:w.heap.size + 3 ≤ y4.heap.size:=Nat.le_trans HSZ3.out k.size
 have o1:=ip.at (i:=2) rfl
 have o2:=ip.free 2
 have ip2:Blk.Is (y4.setCell ⟨w.heap.size + 1 + 1,2,none⟩ (.slice a3 (xs 3).cls.length d3)) (w.heap.size + 1 + 1) 31 #[.string (xs 0).txt,.string (xs 1).txt,.slice a3 (xs 3).cls.length d3,.slice none 0 0,.slice none 0 0,.slice none 0 0,.slice none 0 0,.slice none 0 0,.bool (xs 2).ye]:=ip.set 2 (.slice a3 (xs 3).cls.length d3)
 have ib2:=ib.setOther (a:=⟨w.heap.size + 1 + 1,2,none⟩) (.slice a3 (xs 3).cls.length d3) (by show w.heap.size ≠ w.heap.size + 1 + 1; omega)
 have ir2:=ir.setOther (a:=⟨w.heap.size + 1 + 1,2,none⟩) (.slice a3 (xs 3).cls.length d3) (by show w.heap.size + 1 ≠ w.heap.size + 1 + 1; omega)
 have hb2:=hb.setCell (p:=⟨w.heap.size + 1 + 1,2,none⟩) (by show w.heap.size ≤ w.heap.size + 1 + 1; omega) (.slice a3 (xs 3).cls.length d3)
 have hz2:w.heap.size + 3 ≤ (y4.setCell ⟨w.heap.size + 1 + 1,2,none⟩ (.slice a3 (xs 3).cls.length d3)).heap.size:=by rw [show (y4.setCell ⟨w.heap.size + 1 + 1,2,none⟩ (.slice a3 (xs 3).cls.length d3)).heap.size = y4.heap.size by simp]; exact hz
 have hch:Blk.Chg (fun q=>q < w.heap.size + 3) y4 (y4.setCell ⟨w.heap.size + 1 + 1,2,none⟩ (.slice a3 (xs 3).cls.length d3)):=(Blk.Chg.refl _ _).setAt (by show w.heap.size + 1 + 1 < w.heap.size + 3; omega)
 have hh3:=(hq3.mono HSZ3.out).on hch
 obtain ⟨W4,hW4⟩:∃ W',y4.setCell ⟨w.heap.size + 1 + 1,2,none⟩ (.slice a3 (xs 3).cls.length d3) = W':=⟨_,rfl⟩
 rw [hW4] at ip2 ib2 ir2 hb2 hz2 hh3
 have hu:=hW4
 have IB4:=Lib.hid ib2
 have IR4:=Lib.hid ir2
 have IP4:=Lib.hid ip2
 have HB4:=Lib.hid hb2
 have HSZ4:=Lib.hid hz2
 have HH3:=Lib.hid hh3
 have c0:=ib2.at HV4.out
 clear ib ir ip hb hz ip2 ib2 ir2 hb2 hz2 hch k hW4 hq3 hh3 IB3 IR3 IP3 HB3 HSZ3
 generalize hg3:(xs 3).cls.length = m3 at *
 have ca:=Va.clauses_x (HA4.out.below HB4.out) (HS.out 4 (by omega))
 go_wp2_with fail
 refine ca.mono ?_
 rintro e y5 ⟨u4,rfl,hq4,k⟩
 obtain ⟨a4,d4,rfl⟩:=hq4.here.shape
 clear ca hu c0
 have ib:=Rl.is_on IB4.out k
 have ir:=Rl.is_on IR4.out k
 have ip:=Rl.is_on IP4.out k
 have hb:=HB4.out.trans (k.mono HB4.out.size)
 have hz:w.heap.size + 3 ≤ y5.heap.size:=Nat.le_trans HSZ4.out k.size
 have o1:=ip.at (i:=3) rfl
 have o2:=ip.free 3
 have ip2:Blk.Is (y5.setCell ⟨w.heap.size + 1 + 1,3,none⟩ (.slice a4 (xs 4).cls.length d4)) (w.heap.size + 1 + 1) 31 #[.string (xs 0).txt,.string (xs 1).txt,.slice a3 m3 d3,.slice a4 (xs 4).cls.length d4,.slice none 0 0,.slice none 0 0,.slice none 0 0,.slice none 0 0,.bool (xs 2).ye]:=ip.set 3 (.slice a4 (xs 4).cls.length d4)
 have ib2:=ib.setOther (a:=⟨w.heap.size + 1 + 1,3,none⟩) (.slice a4 (xs 4).cls.length d4) (by show w.heap.size ≠ w.heap.size + 1 + 1; omega)
 have ir2:=ir.setOther (a:=⟨w.heap.size + 1 + 1,3,none⟩) (.slice a4 (xs 4).cls.length d4) (by show w.heap.size + 1 ≠ w.heap.size + 1 + 1; omega)
 have hb2:=hb.setCell (p:=⟨w.heap.size + 1 + 1,3,none⟩) (by show w.heap.size ≤ w.heap.size + 1 + 1; omega) (.slice a4 (xs 4).cls.length d4)
 have hz2:w.heap.size + 3 ≤ (y5.setCell ⟨w.heap.size + 1 + 1,3,none⟩ (.slice a4 (xs 4).cls.length d4)).heap.size:=by rw [show (y5.setCell ⟨w.heap.size + 1 + 1,3,none⟩ (.slice a4 (xs 4).cls.length d4)).heap.size = y5.heap.size by simp]; exact hz
 have hch:Blk.Chg (fun q=>q < w.heap.size + 3) y5 (y5.setCell ⟨w.heap.size + 1 + 1,3,none⟩ (.slice a4 (xs 4).cls.length d4)):=(Blk.Chg.refl _ _).setAt (by show w.heap.size + 1 + 1 < w.heap.size + 3; omega)
 have hh3:=(HH3.out.below k).on hch
 have hh4:=(hq4.mono HSZ4.out).on hch
 obtain ⟨W5,hW5⟩:∃ W',y5.setCell ⟨w.heap.size + 1 + 1,3,none⟩ (.slice a4 (xs 4).cls.length d4) = W':=⟨_,rfl⟩
 rw [hW5] at ip2 ib2 ir2 hb2 hz2 hh3 hh4
 have hu:=hW5
 have IB5:=Lib.hid ib2
 have IR5:=Lib.hid ir2
 have IP5:=Lib.hid ip2
 have HB5:=Lib.hid hb2
 have HSZ5:=Lib.hid hz2
 have HH3:=Lib.hid hh3
 have HH4:=Lib.hid hh4
 have c0:=ib2.at HV5.out
 clear ib ir ip hb hz ip2 ib2 ir2 hb2 hz2 hch k hW5 hq4 hh3 hh4 IB4 IR4 IP4 HB4 HSZ4
 generalize hg4:(xs 4).cls.length = m4 at *
 have ca:=Va.clauses_x (HA5.out.below HB5.out) (HS.out 5 (by omega))
 go_wp2_with fail
 refine ca.mono ?_
 rintro e y6 ⟨u5,rfl,hq5,k⟩
 obtain ⟨a5,d5,rfl⟩:=hq5.here.shape
 clear ca hu c0
 have ib:=Rl.is_on IB5.out k
 have ir:=Rl.is_on IR5.out k
 have ip:=Rl.is_on IP5.out k
 have hb:=HB5.out.trans (k.mono HB5.out.size)
 have hz:w.heap.size + 3 ≤ y6.heap.size:=Nat.le_trans HSZ5.out k.size
 have o1:=ip.at (i:=4) rfl
 have o2:=ip.free 4
 have ip2:Blk.Is (y6.setCell ⟨w.heap.size + 1 + 1,4,none⟩ (.slice a5 (xs 5).cls.length d5)) (w.heap.size + 1 + 1) 31 #[.string (xs 0).txt,.string (xs 1).txt,.slice a3 m3 d3,.slice a4 m4 d4,.slice a5 (xs 5).cls.length d5,.slice none 0 0,.slice none 0 0,.slice none 0 0,.bool (xs 2).ye]:=ip.set 4 (.slice a5 (xs 5).cls.length d5)
 have ib2:=ib.setOther (a:=⟨w.heap.size + 1 + 1,4,none⟩) (.slice a5 (xs 5).cls.length d5) (by show w.heap.size ≠ w.heap.size + 1 + 1; omega)
 have ir2:=ir.setOther (a:=⟨w.heap.size + 1 + 1,4,none⟩) (.slice a5 (xs 5).cls.length d5) (by show w.heap.size + 1 ≠ w.heap.size + 1 + 1; omega)
 have hb2:=hb.setCell (p:=⟨w.heap.size + 1 + 1,4,none⟩) (by show w.heap.size ≤ w.heap.size + 1 + 1; omega) (.slice a5 (xs 5).cls.length d5)
 have hz2:w.heap.size + 3 ≤ (y6.setCell ⟨w.heap.size + 1 + 1,4,none⟩ (.slice a5 (xs 5).cls.length d5)).heap.size:=by rw [show (y6.setCell ⟨w.heap.size + 1 + 1,4,none⟩ (.slice a5 (xs 5).cls.length d5)).heap.size = y6.heap.size by simp]; exact hz
 have hch:Blk.Chg (fun q=>q < w.heap.size + 3) y6 (y6.setCell ⟨w.heap.size + 1 + 1,4,none⟩ (.slice a5 (xs 5).cls.length d5)):=(Blk.Chg.refl _ _).setAt (by show w.heap.size + 1 + 1 < w.heap.size + 3; omega)
 have hh3:=(HH3.out.below k).on hch
 have hh4:=(HH4.out.below k).on hch
 have hh5:=(hq5.mono HSZ5.out).on hch
 obtain ⟨W6,hW6⟩:∃ W',y6.setCell ⟨w.heap.size + 1 + 1,4,none⟩ (.slice a5 (xs 5).cls.length d5) = W':=⟨_,rfl⟩
 rw [hW6] at ip2 ib2 ir2 hb2 hz2 hh3 hh4 hh5
 have hu:=hW6
 have IB6:=Lib.hid ib2
 have IR6:=Lib.hid ir2
 have IP6:=Lib.hid ip2
 have HB6:=Lib.hid hb2
 have HSZ6:=Lib.hid hz2
 have HH3:=Lib.hid hh3
 have HH4:=Lib.hid hh4
 have HH5:=Lib.hid hh5
 have c0:=ib2.at HV6.out
 clear ib ir ip hb hz ip2 ib2 ir2 hb2 hz2 hch k hW6 hq5 hh3 hh4 hh5 IB5 IR5 IP5 HB5 HSZ5
 generalize hg5:(xs 5).cls.length = m5 at *
 have ca:=Va.atoms_x (HA6.out.below HB6.out) (HS.out 6 (by omega))
 go_wp2_with fail
 refine ca.mono ?_
 rintro e y7 ⟨u6,rfl,hq6,k⟩
 obtain ⟨a6,d6,rfl⟩:=hq6.here.shape
 clear ca hu c0
 have ib:=Rl.is_on IB6.out k
 have ir:=Rl.is_on IR6.out k
 have ip:=Rl.is_on IP6.out k
 have hb:=HB6.out.trans (k.mono HB6.out.size)
 have hz:w.heap.size + 3 ≤ y7.heap.size:=Nat.le_trans HSZ6.out k.size
 have o1:=ip.at (i:=5) rfl
 have o2:=ip.free 5
 have ip2:Blk.Is (y7.setCell ⟨w.heap.size + 1 + 1,5,none⟩ (.slice a6 (xs 6).ats.length d6)) (w.heap.size + 1 + 1) 31 #[.string (xs 0).txt,.string (xs 1).txt,.slice a3 m3 d3,.slice a4 m4 d4,.slice a5 m5 d5,.slice a6 (xs 6).ats.length d6,.slice none 0 0,.slice none 0 0,.bool (xs 2).ye]:=ip.set 5 (.slice a6 (xs 6).ats.length d6)
 have ib2:=ib.setOther (a:=⟨w.heap.size + 1 + 1,5,none⟩) (.slice a6 (xs 6).ats.length d6) (by show w.heap.size ≠ w.heap.size + 1 + 1; omega)
 have ir2:=ir.setOther (a:=⟨w.heap.size + 1 + 1,5,none⟩) (.slice a6 (xs 6).ats.length d6) (by show w.heap.size + 1 ≠ w.heap.size + 1 + 1; omega)
 have hb2:=hb.setCell (p:=⟨w.heap.size + 1 + 1,5,none⟩) (by show w.heap.size ≤ w.heap.size + 1 + 1; omega) (.slice a6 (xs 6).ats.length d6)
 have hz2:w.heap.size + 3 ≤ (y7.setCell ⟨w.heap.size + 1 + 1,5,none⟩ (.slice a6 (xs 6).ats.length d6)).heap.size:=by rw [show (y7.setCell ⟨w.heap.size + 1 + 1,5,none⟩ (.slice a6 (xs 6).ats.length d6)).heap.size = y7.heap.size by simp]; exact hz
 have hch:Blk.Chg (fun q=>q < w.heap.size + 3) y7 (y7.setCell ⟨w.heap.size + 1 + 1,5,none⟩ (.slice a6 (xs 6).ats.length d6)):=(Blk.Chg.refl _ _).setAt (by show w.heap.size + 1 + 1 < w.heap.size + 3; omega)
 have hh3:=(HH3.out.below k).on hch
 have hh4:=(HH4.out.below k).on hch
 have hh5:=(HH5.out.below k).on hch
 have hh6:=(hq6.mono HSZ6.out).on hch
 obtain ⟨W7,hW7⟩:∃ W',y7.setCell ⟨w.heap.size + 1 + 1,5,none⟩ (.slice a6 (xs 6).ats.length d6) = W':=⟨_,rfl⟩
 rw [hW7] at ip2 ib2 ir2 hb2 hz2 hh3 hh4 hh5 hh6
 have hu:=hW7
 have IB7:=Lib.hid ib2
 have IR7:=Lib.hid ir2
 have IP7:=Lib.hid ip2
 have HB7:=Lib.hid hb2
 have HSZ7:=Lib.hid hz2
 have HH3:=Lib.hid hh3
 have HH4:=Lib.hid hh4
 have HH5:=Lib.hid hh5
 have HH6:=Lib.hid hh6
 have c0:=ib2.at HV7.out
 clear ib ir ip hb hz ip2 ib2 ir2 hb2 hz2 hch k hW7 hq6 hh3 hh4 hh5 hh6 IB6 IR6 IP6 HB6 HSZ6
 generalize hg6:(xs 6).ats.length = m6 at *
 have ca:=Va.atoms_x (HA7.out.below HB7.out) (HS.out 7 (by omega))
 go_wp2_with fail
 refine ca.mono ?_
 rintro e y8 ⟨u7,rfl,hq7,k⟩
 obtain ⟨a7,d7,rfl⟩:=hq7.here.shape
 clear ca hu c0
 have ib:=Rl.is_on IB7.out k
 have ir:=Rl.is_on IR7.out k
 have ip:=Rl.is_on IP7.out k
 have hb:=HB7.out.trans (k.mono HB7.out.size)
 have hz:w.heap.size + 3 ≤ y8.heap.size:=Nat.le_trans HSZ7.out k.size
 have o1:=ip.at (i:=6) rfl
 have o2:=ip.free 6
 have ip2:Blk.Is (y8.setCell ⟨w.heap.size + 1 + 1,6,none⟩ (.slice a7 (xs 7).ats.length d7)) (w.heap.size + 1 + 1) 31 #[.string (xs 0).txt,.string (xs 1).txt,.slice a3 m3 d3,.slice a4 m4 d4,.slice a5 m5 d5,.slice a6 m6 d6,.slice a7 (xs 7).ats.length d7,.slice none 0 0,.bool (xs 2).ye]:=ip.set 6 (.slice a7 (xs 7).ats.length d7)
 have ib2:=ib.setOther (a:=⟨w.heap.size + 1 + 1,6,none⟩) (.slice a7 (xs 7).ats.length d7) (by show w.heap.size ≠ w.heap.size + 1 + 1; omega)
 have ir2:=ir.setOther (a:=⟨w.heap.size + 1 + 1,6,none⟩) (.slice a7 (xs 7).ats.length d7) (by show w.heap.size + 1 ≠ w.heap.size + 1 + 1; omega)
 have hb2:=hb.setCell (p:=⟨w.heap.size + 1 + 1,6,none⟩) (by show w.heap.size ≤ w.heap.size + 1 + 1; omega) (.slice a7 (xs 7).ats.length d7)
 have hz2:w.heap.size + 3 ≤ (y8.setCell ⟨w.heap.size + 1 + 1,6,none⟩ (.slice a7 (xs 7).ats.length d7)).heap.size:=by rw [show (y8.setCell ⟨w.heap.size + 1 + 1,6,none⟩ (.slice a7 (xs 7).ats.length d7)).heap.size = y8.heap.size by simp]; exact hz
 have hch:Blk.Chg (fun q=>q < w.heap.size + 3) y8 (y8.setCell ⟨w.heap.size + 1 + 1,6,none⟩ (.slice a7 (xs 7).ats.length d7)):=(Blk.Chg.refl _ _).setAt (by show w.heap.size + 1 + 1 < w.heap.size + 3; omega)
 have hh3:=(HH3.out.below k).on hch
 have hh4:=(HH4.out.below k).on hch
 have hh5:=(HH5.out.below k).on hch
 have hh6:=(HH6.out.below k).on hch
 have hh7:=(hq7.mono HSZ7.out).on hch
 obtain ⟨W8,hW8⟩:∃ W',y8.setCell ⟨w.heap.size + 1 + 1,6,none⟩ (.slice a7 (xs 7).ats.length d7) = W':=⟨_,rfl⟩
 rw [hW8] at ip2 ib2 ir2 hb2 hz2 hh3 hh4 hh5 hh6 hh7
 have hu:=hW8
 have IB8:=Lib.hid ib2
 have IR8:=Lib.hid ir2
 have IP8:=Lib.hid ip2
 have HB8:=Lib.hid hb2
 have HSZ8:=Lib.hid hz2
 have HH3:=Lib.hid hh3
 have HH4:=Lib.hid hh4
 have HH5:=Lib.hid hh5
 have HH6:=Lib.hid hh6
 have HH7:=Lib.hid hh7
 have c0:=ib2.at HV8.out
 clear ib ir ip hb hz ip2 ib2 ir2 hb2 hz2 hch k hW8 hq7 hh3 hh4 hh5 hh6 hh7 IB7 IR7 IP7 HB7 HSZ7
 generalize hg7:(xs 7).ats.length = m7 at *
 have ca:=Va.provs_x (HA8.out.below HB8.out) (HS.out 8 (by omega))
 go_wp2_with fail
 refine ca.mono ?_
 rintro e y9 ⟨u8,rfl,hq8,k⟩
 obtain ⟨a8,d8,rfl⟩:=hq8.here.shape
 clear ca hu c0
 have ib:=Rl.is_on IB8.out k
 have ir:=Rl.is_on IR8.out k
 have ip:=Rl.is_on IP8.out k
 have hb:=HB8.out.trans (k.mono HB8.out.size)
 have hz:w.heap.size + 3 ≤ y9.heap.size:=Nat.le_trans HSZ8.out k.size
 have o1:=ip.at (i:=7) rfl
 have o2:=ip.free 7
 have ip2:Blk.Is (y9.setCell ⟨w.heap.size + 1 + 1,7,none⟩ (.slice a8 (xs 8).pvs.length d8)) (w.heap.size + 1 + 1) 31 #[.string (xs 0).txt,.string (xs 1).txt,.slice a3 m3 d3,.slice a4 m4 d4,.slice a5 m5 d5,.slice a6 m6 d6,.slice a7 m7 d7,.slice a8 (xs 8).pvs.length d8,.bool (xs 2).ye]:=ip.set 7 (.slice a8 (xs 8).pvs.length d8)
 have ib2:=ib.setOther (a:=⟨w.heap.size + 1 + 1,7,none⟩) (.slice a8 (xs 8).pvs.length d8) (by show w.heap.size ≠ w.heap.size + 1 + 1; omega)
 have ir2:=ir.setOther (a:=⟨w.heap.size + 1 + 1,7,none⟩) (.slice a8 (xs 8).pvs.length d8) (by show w.heap.size + 1 ≠ w.heap.size + 1 + 1; omega)
 have hb2:=hb.setCell (p:=⟨w.heap.size + 1 + 1,7,none⟩) (by show w.heap.size ≤ w.heap.size + 1 + 1; omega) (.slice a8 (xs 8).pvs.length d8)
 have hz2:w.heap.size + 3 ≤ (y9.setCell ⟨w.heap.size + 1 + 1,7,none⟩ (.slice a8 (xs 8).pvs.length d8)).heap.size:=by rw [show (y9.setCell ⟨w.heap.size + 1 + 1,7,none⟩ (.slice a8 (xs 8).pvs.length d8)).heap.size = y9.heap.size by simp]; exact hz
 have hch:Blk.Chg (fun q=>q < w.heap.size + 3) y9 (y9.setCell ⟨w.heap.size + 1 + 1,7,none⟩ (.slice a8 (xs 8).pvs.length d8)):=(Blk.Chg.refl _ _).setAt (by show w.heap.size + 1 + 1 < w.heap.size + 3; omega)
 have hh3:=(HH3.out.below k).on hch
 have hh4:=(HH4.out.below k).on hch
 have hh5:=(HH5.out.below k).on hch
 have hh6:=(HH6.out.below k).on hch
 have hh7:=(HH7.out.below k).on hch
 have hh8:=(hq8.mono HSZ8.out).on hch
 obtain ⟨W9,hW9⟩:∃ W',y9.setCell ⟨w.heap.size + 1 + 1,7,none⟩ (.slice a8 (xs 8).pvs.length d8) = W':=⟨_,rfl⟩
 rw [hW9] at ip2 ib2 ir2 hb2 hz2 hh3 hh4 hh5 hh6 hh7 hh8
 have hu:=hW9
 have IB9:=Lib.hid ib2
 have IR9:=Lib.hid ir2
 have IP9:=Lib.hid ip2
 have HB9:=Lib.hid hb2
 have HSZ9:=Lib.hid hz2
 have HH3:=Lib.hid hh3
 have HH4:=Lib.hid hh4
 have HH5:=Lib.hid hh5
 have HH6:=Lib.hid hh6
 have HH7:=Lib.hid hh7
 have HH8:=Lib.hid hh8
 skip
 clear ib ir ip hb hz ip2 ib2 ir2 hb2 hz2 hch k hW9 hq8 hh3 hh4 hh5 hh6 hh7 hh8 IB8 IR8 IP8 HB8 HSZ8
 generalize hg8:(xs 8).pvs.length = m8 at *
 have hi9:(Tryz.prog.info? 31).map (·.size) = some 9:=by kernel_rfl
 have RP:=Lib.hid (range_vals IP9.out)
 go_wp2_with (first | (refine wpList_load_mid rfl 31 (.tmp 3) rfl (w.heap.size + 1 + 1) 0 rfl _ _ RP.out Tryz.underlying31 rfl hi9 ?_) | (refine wpList_store_row rfl 31 (.tmp 2) (.tmp 67) rfl (w.heap.size + 1) #[.string (xs 0).txt,.string (xs 1).txt,.slice a3 m3 d3,.slice a4 m4 d4,.slice a5 m5 d5,.slice a6 m6 d6,.slice a7 m7 d7,.slice a8 m8 d8,.bool (xs 2).ye] rfl rfl 31 #[.string ⟨#[]⟩,.string ⟨#[]⟩,.slice none 0 0,.slice none 0 0,.slice none 0 0,.slice none 0 0,.slice none 0 0,.slice none 0 0,.bool false] IR9.out hi9 (by rfl) (by simp [Value.oneCell']) ?_))
 have hr:=IR9.out.row #[.string (xs 0).txt,.string (xs 1).txt,.slice a3 m3 d3,.slice a4 m4 d4,.slice a5 m5 d5,.slice a6 m6 d6,.slice a7 m7 d7,.slice a8 m8 d8,.bool (xs 2).ye]
 have hb3:=Va.below_row HB9.out (by show w.heap.size ≤ w.heap.size + 1; omega) #[.string (xs 0).txt,.string (xs 1).txt,.slice a3 m3 d3,.slice a4 m4 d4,.slice a5 m5 d5,.slice a6 m6 d6,.slice a7 m7 d7,.slice a8 m8 d8,.bool (xs 2).ye]
 have hch:Blk.Chg (fun q=>q < w.heap.size + 3) W9 (W9.setRow (w.heap.size + 1) #[.string (xs 0).txt,.string (xs 1).txt,.slice a3 m3 d3,.slice a4 m4 d4,.slice a5 m5 d5,.slice a6 m6 d6,.slice a7 m7 d7,.slice a8 m8 d8,.bool (xs 2).ye]):=(Blk.Chg.refl _ W9).setRow (by show w.heap.size + 1 < w.heap.size + 3; omega) _
 have hres:HasH w.heap.size (W9.setRow (w.heap.size + 1) #[.string (xs 0).txt,.string (xs 1).txt,.slice a3 m3 d3,.slice a4 m4 d4,.slice a5 m5 d5,.slice a6 m6 d6,.slice a7 m7 d7,.slice a8 m8 d8,.bool (xs 2).ye]) (pkOf xs) (.slice a3 m3 d3) (.slice a4 m4 d4) (.slice a5 m5 d5) (.slice a6 m6 d6) (.slice a7 m7 d7) (.slice a8 m8 d8) :=
  HasH.of ((HH3.out.on hch).mono (by omega)) ((HH4.out.on hch).mono (by omega)) ((HH5.out.on hch).mono (by omega)) ((HH6.out.on hch).mono (by omega)) ((HH7.out.on hch).mono (by omega)) ((HH8.out.on hch).mono (by omega))
 generalize W9.setRow (w.heap.size + 1) #[.string (xs 0).txt,.string (xs 1).txt,.slice a3 m3 d3,.slice a4 m4 d4,.slice a5 m5 d5,.slice a6 m6 d6,.slice a7 m7 d7,.slice a8 m8 d8,.bool (xs 2).ye] = W at *
 have r0:=hr.at (i:=0) rfl
 have r1:=hr.at (i:=1) rfl
 have r2:=hr.at (i:=2) rfl
 have r3:=hr.at (i:=3) rfl
 have r4:=hr.at (i:=4) rfl
 have r5:=hr.at (i:=5) rfl
 have r6:=hr.at (i:=6) rfl
 have r7:=hr.at (i:=7) rfl
 have r8:=hr.at (i:=8) rfl
 clear hch hr hu
 refine bodyPost_ret (v:=.agg #[.string (xs 0).txt,.string (xs 1).txt,.slice a3 m3 d3,.slice a4 m4 d4,.slice a5 m5 d5,.slice a6 m6 d6,.slice a7 m7 d7,.slice a8 m8 d8,.bool (xs 2).ye]) ?_ rfl ?_
 ·simp [results,Tryz.results66,go_sem,r0,r1,r2,r3,r4,r5,r6,r7,r8]
 ·exact ⟨_,_,_,_,_,_,rfl,hres,hb3⟩
end Rc
end Go.Proofs.YthmpepnikmdjpaaGreatDoor
namespace Go.Proofs.YthmpepnikmdjpaaGreatDoor
set_option linter.unusedSimpArgs false
set_option linter.unusedVariables false
namespace Stz
open Txt (trimL trimRight trimLeft)
def Slim (M:Nat) (f:Fld):Prop:=f.1.length ≤ M ∧ ∀ x ∈ f.2,x.length ≤ M
def ZSlim (M:Nat) (z:Zip):Prop:=(∀ s ∈ z.done,∀ f ∈ s.2,Slim M f) ∧ ∀ n fs f,z.cur = some (n,fs,f) → ∀ g ∈ fs ++ [f],Slim M g
theorem slim_start (M:Nat):ZSlim M start:=⟨(fun s hs=>by cases hs),(fun n fs f e=>by cases e)⟩
theorem slim_close {M:Nat} {z:Zip} (h:ZSlim M z):ZSlim M z.close:=by
 obtain ⟨d,q⟩:=z
 obtain ⟨h2,h3⟩:=h
 cases q with
 | none=>exact ⟨h2,h3⟩
 | some p =>
  obtain ⟨k,fs,f⟩:=p
  have k3:=h3 k fs f rfl
  refine ⟨fun s hs=>?_,fun _ _ _ e=>by cases e⟩
  rcases List.mem_append.1 (show s ∈ d ++ [(k,fs ++ [f])] from hs) with hs | hs
  ·exact h2 s hs
  ·rw [List.mem_singleton.1 hs]
   exact k3
theorem right_len (l:Bs):(trimRight l).length ≤ l.length:=by
 obtain ⟨x,_,h2,_⟩:=Txt.trimRight_eq l
 have:=congrArg List.length h2
 rw [List.length_append] at this
 omega
theorem trimL_le (l:Bs):(trimL l).length ≤ l.length:=by
 obtain ⟨x,_,h2,_⟩:=Txt.trimLeft_eq l
 have:=congrArg List.length h2
 rw [List.length_append] at this
 have:=right_len (trimLeft l)
 unfold trimL
 omega
theorem further_le (l:Bs):(further l).length ≤ l.length:=by
 unfold further
 split
 ·simp
 ·exact right_len l
theorem slim_take {M:Nat} {z z':Zip} {x:Bs} {n:Int} (h:ZSlim M z) (hx:x.length ≤ M) (ht:take z x n = .ok z'):ZSlim M z':=by
 unfold take at ht
 split at ht
 ·cases ht; exact h
 split at ht
 ·cases ht; exact slim_close h
 split at ht
 ·obtain ⟨d,q⟩:=z
  cases q with
  | none=>cases ht
  | some p =>
   obtain ⟨k,fs,nm,ls⟩:=p
   cases ht
   have k3:=h.2 k fs (nm,ls) rfl
   refine ⟨h.1,fun k' fs' f' e=>?_⟩
   simp only [Option.some.injEq,Prod.mk.injEq] at e
   obtain ⟨rfl,rfl,rfl⟩:=e
   intro g hg
   rcases List.mem_append.1 hg with hg | hg
   ·exact k3 g (List.mem_append.2 (.inl hg))
   ·rw [List.mem_singleton.1 hg]
    have:=k3 (nm,ls) (by simp)
    refine ⟨this.1,fun y hy=>?_⟩
    rcases List.mem_append.1 hy with hy | hy
    ·exact this.2 y hy
    ·rw [List.mem_singleton.1 hy]
     have h1:=further_le x.tail
     have h2:x.tail.length ≤ x.length:=by simp
     omega
 ·unfold field at ht
  cases hc:cutL x with
  | none=>rw [hc] at ht; cases ht
  | some p =>
   obtain ⟨nm,r⟩:=p
   rw [hc] at ht
   have hlen:=congrArg List.length (cut_eq hc).1
   rw [List.length_append,List.length_cons] at hlen
   have hnew:Slim M (nm,[trimL r]):=⟨by show nm.length ≤ M; omega,fun y hy=>by
    rw [List.mem_singleton.1 hy]
    have:=trimL_le r
    omega⟩
   simp only at ht
   split at ht
   ·unfold begin at ht
    obtain ⟨d,q⟩:=z
    cases q with
    | none =>
     simp only at ht
     split at ht
     ·cases ht
     ·cases ht
      refine ⟨h.1,fun k' fs' f' e=>?_⟩
      simp only [Option.some.injEq,Prod.mk.injEq] at e
      obtain ⟨rfl,rfl,rfl⟩:=e
      intro g hg
      rw [List.mem_singleton.1 hg]
      exact hnew
    | some p =>
     obtain ⟨k,fs,f⟩:=p
     simp only at ht
     split at ht
     ·cases ht
     ·split at ht
      ·cases ht
      ·cases ht
       have k3:=h.2 k fs f rfl
       refine ⟨h.1,fun k' fs' f' e=>?_⟩
       simp only [Option.some.injEq,Prod.mk.injEq] at e
       obtain ⟨rfl,rfl,rfl⟩:=e
       intro g hg
       rcases List.mem_append.1 hg with hg | hg
       ·exact k3 g hg
       ·rw [List.mem_singleton.1 hg]
        exact hnew
   ·cases ht
theorem slim_run {M:Nat}:∀ (ls:List Bs) {z z':Zip} (n:Nat),ZSlim M z → (∀ x ∈ ls,x.length ≤ M) → run z n ls = .ok z' → ZSlim M z'
 | [],z,z',n,h,_,hr=>by cases hr; exact h
 | x :: r,z,z',n,h,hg,hr=>by
  rw [run_cons] at hr
  cases ht:take z x n with
  | error e=>rw [ht] at hr; cases hr
  | ok z1 =>
   rw [ht] at hr
   exact slim_run r (n + 1) (slim_take h (hg x (.head _)) ht) (fun y hy=>hg y (.tail _ hy)) hr
theorem parse_slim {M:Nat} {ls:List Bs} (hg:∀ x ∈ ls,x.length ≤ M) {l:List Sz} {e n:Nat} (h:parse ls = (l,e,n)):∀ s ∈ l,∀ f ∈ s.2,Slim M f:=by
 unfold parse at h
 cases hr:run start 1 ls with
 | error e =>
  rw [hr] at h
  simp only [Prod.mk.injEq] at h
  rw [← h.1]
  intro s hs; cases hs
 | ok z =>
  rw [hr] at h
  simp only [Prod.mk.injEq] at h
  rw [← h.1]
  exact (slim_close (slim_run ls 1 (slim_start M) hg hr)).1
theorem E_ok {x:ByteArray} (h:Txt.E x = 0):LineOK x.data.toList:=by
 unfold Txt.E at h
 split at h
 ·cases h
 split at h
 ·cases h
 ·next h1 h2 =>
  refine ⟨?_,by rw [Txt.len_list]; omega⟩
  unfold goodL
  rw [show (⟨x.data.toList.toArray⟩:ByteArray) = x from S_self x]
  have:=Txt.good_ge x
  omega
theorem pr_ok {s:ByteArray} {l:List Sz} {n:Nat} (h:PR s l 0 n):∃ ls,(∀ x ∈ ls,LineOK x) ∧ parse ls = (l,0,n) ∧ ls = Txt.linesL s.data.toList:=by
 obtain ⟨ls,e0,n0,h1,h2⟩:=h
 rcases h2 with ⟨h2,_,h3,_⟩ | ⟨rfl,h2⟩
 ·exact absurd h3.symm h2
 unfold Txt.LR at h1
 split at h1
 ·have:=h1.2.1; cases this
 rcases h1 with ⟨_,rfl,h3,h4⟩ | ⟨_,h5,_⟩
 ·refine ⟨bytes ls,fun x hx=>?_,h2,h3⟩
  obtain ⟨t,ht,rfl⟩:=List.mem_map.1 hx
  obtain ⟨i,hi,rfl⟩:=List.mem_iff_getElem.1 ht
  refine E_ok ?_
  have:=h4 i hi
  rwa [show ls.getD i ByteArray.empty = ls[i] by simp [List.getD,hi]] at this
 ·exact absurd rfl h5
end Stz
end Go.Proofs.YthmpepnikmdjpaaGreatDoor
namespace Go.Proofs.YthmpepnikmdjpaaGreatDoor
open Go.RowKit
set_option linter.unusedSimpArgs false
set_option linter.unusedVariables false
namespace Stz
open Txt (trimL)
theorem join_snoc (ps:List Bs) (p:Bs):Lib.join (ps ++ [p]) [32] = if ps = [] then p else Lib.join ps [32] ++ 32 :: p:=by
 cases ps with
 | nil=>rw [List.nil_append,Lib.join_one,if_pos rfl]
 | cons x r =>
  rw [if_neg (by simp),List.cons_append,Lib.join_cons,Lib.join_cons]
  unfold Lib.joinTail
  simp
theorem fold_nil_iff (ls:List Bs):foldL ls = [] ↔ partsL ls = []:=by
 unfold foldL
 cases h:partsL ls with
 | nil=>simp [Lib.join_nil]
 | cons y r =>
  have hy:y ∈ partsL ls:=by rw [h]; exact .head _
  unfold partsL at hy
  have:=(List.mem_filter.1 hy).2
  rw [Lib.join_cons]
  cases y with
  | nil=>simp at this
  | cons c y=>simp
theorem fold_snoc (ls:List Bs) (x:Bs):foldL (ls ++ [x]) = if trimL x = [] then foldL ls else if foldL ls = [] then trimL x else foldL ls ++ 32 :: trimL x:=by
 by_cases h:trimL x = []
 ·rw [if_pos h]
  unfold foldL
  rw [parts_snoc,if_pos h]
 ·rw [if_neg h]
  have e:foldL (ls ++ [x]) = Lib.join (partsL ls ++ [trimL x]) [32]:=by
   unfold foldL
   rw [parts_snoc,if_neg h]
  rw [e,join_snoc]
  by_cases h2:partsL ls = []
  ·rw [if_pos h2,if_pos ((fold_nil_iff ls).2 h2)]
  ·rw [if_neg h2,if_neg (fun e=>h2 ((fold_nil_iff ls).1 e))]
   rfl
theorem fold_len {M:Nat} (ls:List Bs) (h:∀ x ∈ ls,x.length ≤ M):∀ k,k ≤ ls.length → (foldL (ls.take k)).length ≤ (M + 1) * k
 | 0,_=>by simp [foldL,partsL,Lib.join_nil]
 | k + 1,hk=>by
  have ih:=fold_len ls h k (by omega)
  rw [take_one (show k < ls.length by omega),fold_snoc]
  have hx:(trimL (ls.getD k [])).length ≤ M:=Nat.le_trans (trimL_le _) (h _ (by simp [List.getD,List.getElem?_eq_getElem (show k < ls.length by omega)]))
  rw [Nat.mul_add,Nat.mul_one]
  split
  ·omega
  ·split
   ·omega
   ·rw [List.length_append,List.length_cons]; omega
end Stz
end Go.Proofs.YthmpepnikmdjpaaGreatDoor
namespace Go.Proofs.YthmpepnikmdjpaaGreatDoor
open Go.RowKit
set_option linter.unusedSimpArgs false
set_option linter.unusedVariables false
namespace Stz
def ZL (M:Nat) (z:Zip):Prop:=(∀ s ∈ z.done,0 ≤ s.1 ∧ s.1 ≤ (M:Int)) ∧ ∀ n fs f,z.cur = some (n,fs,f) → 0 ≤ n ∧ n ≤ (M:Int)
theorem zl_close {M:Nat} {z:Zip} (h:ZL M z):ZL M z.close:=by
 obtain ⟨d,q⟩:=z
 obtain ⟨h2,h3⟩:=h
 cases q with
 | none=>exact ⟨h2,h3⟩
 | some p =>
  obtain ⟨k,fs,f⟩:=p
  have k3:=h3 k fs f rfl
  refine ⟨fun s hs=>?_,fun _ _ _ e=>by cases e⟩
  rcases List.mem_append.1 (show s ∈ d ++ [(k,fs ++ [f])] from hs) with hs | hs
  ·exact h2 s hs
  ·rw [List.mem_singleton.1 hs]
   exact k3
theorem zl_take {M:Nat} {z z':Zip} {x:Bs} {n:Nat} (h:ZL M z) (hn:n ≤ M) (ht:take z x n = .ok z'):ZL M z':=by
 unfold take at ht
 split at ht
 ·cases ht; exact h
 split at ht
 ·cases ht; exact zl_close h
 split at ht
 ·obtain ⟨d,q⟩:=z
  cases q with
  | none=>cases ht
  | some p =>
   obtain ⟨k,fs,nm,ls⟩:=p
   cases ht
   have k3:=h.2 k fs (nm,ls) rfl
   refine ⟨h.1,fun k' fs' f' e=>?_⟩
   simp only [Option.some.injEq,Prod.mk.injEq] at e
   obtain ⟨rfl,rfl,rfl⟩:=e
   exact k3
 ·unfold field at ht
  cases hc:cutL x with
  | none=>rw [hc] at ht; cases ht
  | some p =>
   obtain ⟨nm,r⟩:=p
   rw [hc] at ht
   simp only at ht
   split at ht
   ·unfold begin at ht
    obtain ⟨d,q⟩:=z
    cases q with
    | none =>
     simp only at ht
     split at ht
     ·cases ht
     ·cases ht
      refine ⟨h.1,fun k' fs' f' e=>?_⟩
      simp only [Option.some.injEq,Prod.mk.injEq] at e
      obtain ⟨rfl,rfl,rfl⟩:=e
      omega
    | some p =>
     obtain ⟨k,fs,f⟩:=p
     simp only at ht
     split at ht
     ·cases ht
     ·split at ht
      ·cases ht
      ·cases ht
       have k3:=h.2 k fs f rfl
       refine ⟨h.1,fun k' fs' f' e=>?_⟩
       simp only [Option.some.injEq,Prod.mk.injEq] at e
       obtain ⟨rfl,rfl,rfl⟩:=e
       exact k3
   ·cases ht
theorem zl_run {M:Nat}:∀ (ls:List Bs) {z z':Zip} (n:Nat),ZL M z → n + ls.length ≤ M + 1 → run z n ls = .ok z' → ZL M z'
 | [],z,z',n,h,_,hr=>by cases hr; exact h
 | x :: r,z,z',n,h,hl,hr=>by
  rw [run_cons] at hr
  rw [List.length_cons] at hl
  cases ht:take z x n with
  | error e=>rw [ht] at hr; cases hr
  | ok z1 =>
   rw [ht] at hr
   exact zl_run r (n + 1) (zl_take h (by omega) ht) (by omega) hr
theorem spl_count:∀ l:Bs,(Txt.spl l).length ≤ l.length + 1
 | []=>by simp [Txt.spl]
 | c :: l=>by
  have ih:=spl_count l
  show (if c = 10 then [] :: Txt.spl l else Txt.put c (Txt.spl l)).length ≤ _
  split
  ·simp only [List.length_cons]; omega
  ·have hne:=Txt.spl_ne l
   cases hq:Txt.spl l with
   | nil=>exact absurd hq hne
   | cons y r =>
    rw [hq] at ih
    simp only [Txt.put,List.length_cons] at ih ⊢
    omega
theorem dl_count:∀ l:List Bs,(Txt.dl l).length ≤ l.length
 | []=>by simp [Txt.dl]
 | [x]=>by unfold Txt.dl; split <;> simp
 | x :: y :: r=>by
  have:=dl_count (y :: r)
  show (x :: Txt.dl (y :: r)).length ≤ _
  simp only [List.length_cons] at this ⊢
  omega
theorem pr_small {s:ByteArray} {l:List Sz} {n:Nat} (h:PR s l 0 n):s.size ≤ 65536:=by
 obtain ⟨ls,e0,n0,h1,h2⟩:=h
 rcases h2 with ⟨h2,_,h3,_⟩ | ⟨rfl,h2⟩
 ·exact absurd h3.symm h2
 unfold Txt.LR at h1
 split at h1
 ·have:=h1.2.1; cases this
 ·omega
theorem pr_line {s:ByteArray} {l:List Sz} {n:Nat} (h:PR s l 0 n):∀ z ∈ l,0 ≤ z.1 ∧ z.1 ≤ 70000:=by
 have h0:=pr_small h
 obtain ⟨ls,_,h2,h3⟩:=pr_ok h
 have hl:ls.length ≤ 65537:=by
  rw [h3]
  have a:=dl_count (Txt.spl s.data.toList)
  have b:=spl_count s.data.toList
  have c:s.data.toList.length = s.size:=sz_list s
  unfold Txt.linesL
  omega
 unfold parse at h2
 cases hr:run start 1 ls with
 | error e =>
  rw [hr] at h2
  simp only [Prod.mk.injEq] at h2
  rw [← h2.1]
  intro z hz; cases hz
 | ok z =>
  rw [hr] at h2
  simp only [Prod.mk.injEq] at h2
  rw [← h2.1]
  have:=(zl_close (zl_run (M:=70000) ls 1 ⟨fun s hs=>(by cases hs),fun _ _ _ e=>(by cases e)⟩ (by omega) hr)).1
  exact this
end Stz
namespace Rc
open Ver (Bs li li_len S S_self S_size S_li)
open Stz (Fld Sz sameB sameS foldL PR)
def LineOK (n:Int):Prop:=-9223372036854775808 ≤ n ∧ n ≤ 9223372036854775807
theorem furth_ok {line:Int} (h:LineOK line) (n:Nat):LineOK (furth line n):=by
 unfold furth LineOK most at *
 split <;> omega
set_option maxRecDepth 100000 in
theorem furth_any (line:Int) (n:Nat) (w:World) (h:LineOK line) (hn:n ≤ 1152921504606846976) :
  Calls Tryz.prog 102 #[.int .i64 line,.int .i64 n] w fun e w'=>e = .returned (.int .i64 (furth line n)) ∧ w' = w:=by
 unfold furth most
 obtain ⟨h1,h2⟩:=h
 by_cases hc:(9223372036854775807:Int) - n < line
 ·rw [if_pos hc]
  go_enter Tryz.func102,Tryz.ntmps102
  go_wp2_with fail
  go_ret
  exact ⟨rfl,rfl⟩
 ·rw [if_neg hc]
  go_enter Tryz.func102,Tryz.ntmps102
  go_wp2_with fail
  go_ret
  exact ⟨rfl,rfl⟩
structure FOk (f:Fld):Prop where
 nm:f.1.length ≤ 140737488351232
 cnt:f.2.length ≤ 100000
 len:∀ x ∈ f.2,x.length ≤ 140737488351232
 fold:(foldL f.2).length ≤ 140737488355328
structure FSmall (f:Fld):Prop where
 nm:f.1.length ≤ 140737488351232
 cnt:f.2.length ≤ 100000
 len:∀ x ∈ f.2,x.length ≤ 1048576
theorem FSmall.ok {f:Fld} (h:FSmall f):FOk f:=by
 refine ⟨h.nm,h.cnt,fun x hx=>by have:=h.len x hx; omega,?_⟩
 have h1:=Stz.fold_len f.2 h.len f.2.length (Nat.le_refl _)
 rw [List.take_of_length_le (Nat.le_refl _)] at h1
 have h2:(1048576 + 1) * f.2.length ≤ 1048577 * 100000:=Nat.mul_le_mul_left _ h.cnt
 omega
theorem pr_fsmall {s:ByteArray} {l:List Sz} {n:Nat} (h:PR s l 0 n) (hs:Stz.Small l):∀ z ∈ l,∀ f ∈ z.2,FSmall f:=by
 intro z hz f hf
 obtain ⟨ls,h1,h2,_⟩:=Stz.pr_ok h
 have h3:=Stz.parse_slim (M:=1000) (fun x hx=>(h1 x hx).2) h2 z hz f hf
 exact ⟨by have:=h3.1; omega,by have:=((hs.2 z hz).2 f hf).2; omega,fun x hx=>by have:=h3.2 x hx; omega⟩
end Rc
end Go.Proofs.YthmpepnikmdjpaaGreatDoor

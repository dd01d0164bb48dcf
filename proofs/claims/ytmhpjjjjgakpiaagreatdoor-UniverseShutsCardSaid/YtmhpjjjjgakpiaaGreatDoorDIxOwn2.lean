/-
ownPackage, ownPackages: packages with lists of their own.
-/
import Derived.Test.YtmhpjjjjgakpiaaGreatDoorDIxOwn
import Derived.Deep.WholeRow
namespace Go.Proofs.YtmhpjjjjgakpiaaGreatDoor
open Go.RowKit
set_option linter.unusedSimpArgs false
set_option linter.unusedVariables false
namespace Ix
open Ver (S)
open Rl (At Pv Ats Pvs Clss Cls acells pcells own_shape own_lt)
open Rc (Pk PkV Has)
def Hx (B:Nat) (w:World) (Q:World → Prop):Prop:=∀ u,Blk.Chg (fun k=>k < B) w u → Q u
theorem Hx.on {B:Nat} {w w':World} {Q:World → Prop} (h:Hx B w Q) (hc:Blk.Chg (fun k=>k < B) w w'):Hx B w' Q:=fun u hu=>h u (hc.trans hu)
theorem Hx.below {B:Nat} {w w':World} {Q:World → Prop} (h:Hx B w Q) (hb:Below w.heap.size w w'):Hx B w' Q:=h.on (Blk.Chg.ofBelow' hb)
theorem Hx.mono {B B':Nat} {w:World} {Q:World → Prop} (h:Hx B w Q) (hB:B' ≤ B):Hx B' w Q:=fun u hu=>h u (hu.mono fun k _ hk=>Nat.lt_of_lt_of_le hk hB)
theorem hx_ats {B:Nat} {w:World} {v:Value} {l:List At} (h:w.ownsRow B 54 3 v l.length (acells l)) (hl:l.length ≤ 60000):Hx B w fun z=>Ats z v l:=fun u hu =>
 Rl.own_ats (hu.owns h fun k hk hs=>by have:=(own_lt h hk).1; omega) (by omega)
theorem hx_pvs {B:Nat} {w:World} {v:Value} {l:List Pv} (h:w.ownsRow B 101 2 v l.length (pcells l)) (hl:l.length ≤ 60000):Hx B w fun z=>Pvs z v l:=fun u hu =>
 Rl.own_pvs (hu.owns h fun k hk hs=>by have:=(own_lt h hk).1; omega) (by omega)
theorem hx_clss {B:Nat} {w:World} {v:Value} {vs:List Value} {l:List (List At)} (h:w.ownsRow B 47 1 v l.length vs) (hc:Cls w B vs l) (hl:l.length ≤ 60000) (hl2:∀ c ∈ l,c.length ≤ 60000):Hx B w fun z=>Clss z v l:=fun u hu =>
 Rl.own_clss (hu.owns h fun k hk hs=>by have:=(own_lt h hk).1; omega) (hc.chg hu fun _ _ _ ho k hk hs=>by have:=(own_lt ho hk).1; omega) (by omega) (fun c hc=>by have:=hl2 c hc; omega)
theorem is_other {w:World} {b:Nat} {T:TypeId} {cs:Array Value} (h:Blk.Is w b T cs) {g i:Nat} (v:Value) (hne:b ≠ g):Blk.Is (w.setCell ⟨g,i,none⟩ v) b T cs:=(heap_setCell_other w ⟨g,i,none⟩ b v hne).trans h
theorem below_setRow {B g:Nat} {w0 w:World} (hb:Below B w0 w) (hg:B ≤ g) (cs:Array Value):Below B w0 (w.setRow g cs) :=
 hb.trans ⟨rfl,rfl,rfl,by simp [World.setRow],fun k hk=>setRow_other w g k cs (by omega)⟩
structure Few (p:Pk):Prop where
 pre:p.pre.length ≤ 60000 ∧ ∀ c ∈ p.pre,c.length ≤ 60000
 dep:p.dep.length ≤ 60000 ∧ ∀ c ∈ p.dep,c.length ≤ 60000
 rcm:p.rcm.length ≤ 60000 ∧ ∀ c ∈ p.rcm,c.length ≤ 60000
 con:p.con.length ≤ 60000
 brk:p.brk.length ≤ 60000
 prv:p.prv.length ≤ 60000
set_option maxRecDepth 100000 in
set_option maxHeartbeats 16000000 in
theorem ownPackage_any (v:Value) (p:Pk) (w:World) (h:PkV w v p) (hF:Few p) :
  Calls Tryz.prog 72 #[v] w fun e w'=>∃ u1 u2 u3 u4 u5 u6,e = .returned (.agg #[.string (S p.nm),.string (S p.vs),u1,u2,u3,u4,u5,u6,.bool p.ess]) ∧ Hx w.heap.size w' (fun z=>Has z p u1 u2 u3 u4 u5 u6) ∧ Below w.heap.size w w':=by
 obtain ⟨u1,u2,u3,u4,u5,u6,rfl,hh⟩:=h
 obtain ⟨s1,t1,e1⟩:=hh.pre.shape
 obtain ⟨s2,t2,e2⟩:=hh.dep.shape
 obtain ⟨s3,t3,e3⟩:=hh.rcm.shape
 obtain ⟨s4,t4,e4⟩:=hh.con.shape
 obtain ⟨s5,t5,e5⟩:=hh.brk.shape
 obtain ⟨s6,t6,e6⟩:=hh.prv.shape
 have HH:=Lib.hid hh
 obtain ⟨n1,hn1⟩:∃ n,p.pre.length = n:=⟨_,rfl⟩
 rw [hn1] at e1
 have HN1:=Lib.hid hn1
 obtain ⟨n2,hn2⟩:∃ n,p.dep.length = n:=⟨_,rfl⟩
 rw [hn2] at e2
 have HN2:=Lib.hid hn2
 obtain ⟨n3,hn3⟩:∃ n,p.rcm.length = n:=⟨_,rfl⟩
 rw [hn3] at e3
 have HN3:=Lib.hid hn3
 obtain ⟨n4,hn4⟩:∃ n,p.con.length = n:=⟨_,rfl⟩
 rw [hn4] at e4
 have HN4:=Lib.hid hn4
 obtain ⟨n5,hn5⟩:∃ n,p.brk.length = n:=⟨_,rfl⟩
 rw [hn5] at e5
 have HN5:=Lib.hid hn5
 obtain ⟨n6,hn6⟩:∃ n,p.prv.length = n:=⟨_,rfl⟩
 rw [hn6] at e6
 have HN6:=Lib.hid hn6
 subst e1 e2 e3 e4 e5 e6
 have hb1:=(Below.refl w.heap.size w).alloc (Nat.le_refl _) (.cells #[.string (S p.nm),.string (S p.vs),.slice s1 n1 t1,.slice s2 n2 t2,.slice s3 n3 t3,.slice s4 n4 t4,.slice s5 n5 t5,.slice s6 n6 t6,.bool p.ess] 40)
 have i1:=Blk.Is.new w 40 #[.string (S p.nm),.string (S p.vs),.slice s1 n1 t1,.slice s2 n2 t2,.slice s3 n3 t3,.slice s4 n4 t4,.slice s5 n5 t5,.slice s6 n6 t6,.bool p.ess]
 have hb2:=hb1.alloc hb1.size (.cells #[.string ⟨#[]⟩,.string ⟨#[]⟩,.slice none 0 0,.slice none 0 0,.slice none 0 0,.slice none 0 0,.slice none 0 0,.slice none 0 0,.bool false] 40)
 have i2:=Blk.Is.new (w.alloc (.cells #[.string (S p.nm),.string (S p.vs),.slice s1 n1 t1,.slice s2 n2 t2,.slice s3 n3 t3,.slice s4 n4 t4,.slice s5 n5 t5,.slice s6 n6 t6,.bool p.ess] 40)) 40 #[.string ⟨#[]⟩,.string ⟨#[]⟩,.slice none 0 0,.slice none 0 0,.slice none 0 0,.slice none 0 0,.slice none 0 0,.slice none 0 0,.bool false]
 have i1':=i1.alloc (.cells #[.string ⟨#[]⟩,.string ⟨#[]⟩,.slice none 0 0,.slice none 0 0,.slice none 0 0,.slice none 0 0,.slice none 0 0,.slice none 0 0,.bool false] 40)
 have hsz:(w.alloc (.cells #[.string (S p.nm),.string (S p.vs),.slice s1 n1 t1,.slice s2 n2 t2,.slice s3 n3 t3,.slice s4 n4 t4,.slice s5 n5 t5,.slice s6 n6 t6,.bool p.ess] 40)).heap.size = w.heap.size + 1:=by simp
 rw [hsz] at i2
 have hz:w.heap.size + 2 ≤ ((w.alloc (.cells #[.string (S p.nm),.string (S p.vs),.slice s1 n1 t1,.slice s2 n2 t2,.slice s3 n3 t3,.slice s4 n4 t4,.slice s5 n5 t5,.slice s6 n6 t6,.bool p.ess] 40)).alloc (.cells #[.string ⟨#[]⟩,.string ⟨#[]⟩,.slice none 0 0,.slice none 0 0,.slice none 0 0,.slice none 0 0,.slice none 0 0,.slice none 0 0,.bool false] 40)).heap.size:=by simp
 obtain ⟨W0,hW0⟩:∃ W,(w.alloc (.cells #[.string (S p.nm),.string (S p.vs),.slice s1 n1 t1,.slice s2 n2 t2,.slice s3 n3 t3,.slice s4 n4 t4,.slice s5 n5 t5,.slice s6 n6 t6,.bool p.ess] 40)).alloc (.cells #[.string ⟨#[]⟩,.string ⟨#[]⟩,.slice none 0 0,.slice none 0 0,.slice none 0 0,.slice none 0 0,.slice none 0 0,.slice none 0 0,.bool false] 40) = W:=⟨_,rfl⟩
 rw [hW0] at hb2 i1' i2 hz
 have hu:=hW0
 have IB0:=Lib.hid i1'
 have IR0:=Lib.hid i2
 have HB0:=Lib.hid hb2
 have HZ0:=Lib.hid hz
 clear hb1 i1 hb2 i1' i2 hsz hz hW0 hh
 have c1:=ownClauses_any _ p.pre W0 ((HH.out.pre).below HB0.out) hF.pre.1 hF.pre.2
 rw [HN1.out] at c1
 have q1:=IB0.out.at (i:=2) rfl
 go_enter Tryz.func72,Tryz.ntmps72
 go_wp2_with fail
 refine c1.mono ?_
 rintro e y1 ⟨v,vs,rfl,ho,hc,k⟩
 obtain ⟨a1,d1,rfl,_⟩:=own_shape ho
 rw [← HN1.out] at ho
 have hq:=hx_clss ho hc hF.pre.1 hF.pre.2
 rw [HN1.out] at hq
 have ib:=Rl.is_on IB0.out k
 have ir:=Rl.is_on IR0.out k
 have hb:=HB0.out.trans (k.mono HB0.out.size)
 have hz:=Nat.le_trans HZ0.out k.size
 have o1:=ib.at (i:=2) rfl
 have o2:=ib.free 2
 have ib2:Blk.Is (y1.setCell ⟨w.heap.size,2,none⟩ (.slice a1 n1 d1)) w.heap.size 40 #[.string (S p.nm),.string (S p.vs),.slice a1 n1 d1,.slice s2 n2 t2,.slice s3 n3 t3,.slice s4 n4 t4,.slice s5 n5 t5,.slice s6 n6 t6,.bool p.ess]:=ib.set 2 (.slice a1 n1 d1)
 have ir2:=is_other ir (g:=w.heap.size) (i:=2) (.slice a1 n1 d1) (by omega)
 have hb2:=hb.setCell (p:=⟨w.heap.size,2,none⟩) (Nat.le_refl _) (.slice a1 n1 d1)
 have hz2:w.heap.size + 2 ≤ (y1.setCell ⟨w.heap.size,2,none⟩ (.slice a1 n1 d1)).heap.size:=by rw [show (y1.setCell ⟨w.heap.size,2,none⟩ (.slice a1 n1 d1)).heap.size = y1.heap.size by simp]; exact hz
 have hch:Blk.Chg (fun q=>q < w.heap.size + 2) y1 (y1.setCell ⟨w.heap.size,2,none⟩ (.slice a1 n1 d1)):=(Blk.Chg.refl _ _).setAt (by show w.heap.size < w.heap.size + 2; omega)
 have hh1:=(hq.mono HZ0.out).on hch
 obtain ⟨W1,hW⟩:∃ W',y1.setCell ⟨w.heap.size,2,none⟩ (.slice a1 n1 d1) = W':=⟨_,rfl⟩
 rw [hW] at ib2 ir2 hb2 hz2 hh1
 clear hu
 have hu:=hW
 have IB1:=Lib.hid ib2
 have IR1:=Lib.hid ir2
 have HB1:=Lib.hid hb2
 have HZ1:=Lib.hid hz2
 have HL1:=Lib.hid hh1
 clear ib ir hb hz ib2 ir2 hb2 hz2 hch k hW hq ho c1 q1 hh1 IB0 IR0 HB0 HZ0 hc
 have c2:=ownClauses_any _ p.dep W1 ((HH.out.dep).below HB1.out) hF.dep.1 hF.dep.2
 rw [HN2.out] at c2
 have q2:=IB1.out.at (i:=3) rfl
 go_wp2_with fail
 refine c2.mono ?_
 rintro e y2 ⟨v,vs,rfl,ho,hc,k⟩
 obtain ⟨a2,d2,rfl,_⟩:=own_shape ho
 rw [← HN2.out] at ho
 have hq:=hx_clss ho hc hF.dep.1 hF.dep.2
 rw [HN2.out] at hq
 have ib:=Rl.is_on IB1.out k
 have ir:=Rl.is_on IR1.out k
 have hb:=HB1.out.trans (k.mono HB1.out.size)
 have hz:=Nat.le_trans HZ1.out k.size
 have o1:=ib.at (i:=3) rfl
 have o2:=ib.free 3
 have ib2:Blk.Is (y2.setCell ⟨w.heap.size,3,none⟩ (.slice a2 n2 d2)) w.heap.size 40 #[.string (S p.nm),.string (S p.vs),.slice a1 n1 d1,.slice a2 n2 d2,.slice s3 n3 t3,.slice s4 n4 t4,.slice s5 n5 t5,.slice s6 n6 t6,.bool p.ess]:=ib.set 3 (.slice a2 n2 d2)
 have ir2:=is_other ir (g:=w.heap.size) (i:=3) (.slice a2 n2 d2) (by omega)
 have hb2:=hb.setCell (p:=⟨w.heap.size,3,none⟩) (Nat.le_refl _) (.slice a2 n2 d2)
 have hz2:w.heap.size + 2 ≤ (y2.setCell ⟨w.heap.size,3,none⟩ (.slice a2 n2 d2)).heap.size:=by rw [show (y2.setCell ⟨w.heap.size,3,none⟩ (.slice a2 n2 d2)).heap.size = y2.heap.size by simp]; exact hz
 have hch:Blk.Chg (fun q=>q < w.heap.size + 2) y2 (y2.setCell ⟨w.heap.size,3,none⟩ (.slice a2 n2 d2)):=(Blk.Chg.refl _ _).setAt (by show w.heap.size < w.heap.size + 2; omega)
 have hh1:=(HL1.out.below k).on hch
 have hh2:=(hq.mono HZ1.out).on hch
 obtain ⟨W2,hW⟩:∃ W',y2.setCell ⟨w.heap.size,3,none⟩ (.slice a2 n2 d2) = W':=⟨_,rfl⟩
 rw [hW] at ib2 ir2 hb2 hz2 hh1 hh2
 clear hu
 have hu:=hW
 have IB2:=Lib.hid ib2
 have IR2:=Lib.hid ir2
 have HB2:=Lib.hid hb2
 have HZ2:=Lib.hid hz2
 clear HL1
 have HL1:=Lib.hid hh1
 have HL2:=Lib.hid hh2
 clear ib ir hb hz ib2 ir2 hb2 hz2 hch k hW hq ho c2 q2 hh1 hh2 IB1 IR1 HB1 HZ1 hc
 have c3:=ownClauses_any _ p.rcm W2 ((HH.out.rcm).below HB2.out) hF.rcm.1 hF.rcm.2
 rw [HN3.out] at c3
 have q3:=IB2.out.at (i:=4) rfl
 go_wp2_with fail
 refine c3.mono ?_
 rintro e y3 ⟨v,vs,rfl,ho,hc,k⟩
 obtain ⟨a3,d3,rfl,_⟩:=own_shape ho
 rw [← HN3.out] at ho
 have hq:=hx_clss ho hc hF.rcm.1 hF.rcm.2
 rw [HN3.out] at hq
 have ib:=Rl.is_on IB2.out k
 have ir:=Rl.is_on IR2.out k
 have hb:=HB2.out.trans (k.mono HB2.out.size)
 have hz:=Nat.le_trans HZ2.out k.size
 have o1:=ib.at (i:=4) rfl
 have o2:=ib.free 4
 have ib2:Blk.Is (y3.setCell ⟨w.heap.size,4,none⟩ (.slice a3 n3 d3)) w.heap.size 40 #[.string (S p.nm),.string (S p.vs),.slice a1 n1 d1,.slice a2 n2 d2,.slice a3 n3 d3,.slice s4 n4 t4,.slice s5 n5 t5,.slice s6 n6 t6,.bool p.ess]:=ib.set 4 (.slice a3 n3 d3)
 have ir2:=is_other ir (g:=w.heap.size) (i:=4) (.slice a3 n3 d3) (by omega)
 have hb2:=hb.setCell (p:=⟨w.heap.size,4,none⟩) (Nat.le_refl _) (.slice a3 n3 d3)
 have hz2:w.heap.size + 2 ≤ (y3.setCell ⟨w.heap.size,4,none⟩ (.slice a3 n3 d3)).heap.size:=by rw [show (y3.setCell ⟨w.heap.size,4,none⟩ (.slice a3 n3 d3)).heap.size = y3.heap.size by simp]; exact hz
 have hch:Blk.Chg (fun q=>q < w.heap.size + 2) y3 (y3.setCell ⟨w.heap.size,4,none⟩ (.slice a3 n3 d3)):=(Blk.Chg.refl _ _).setAt (by show w.heap.size < w.heap.size + 2; omega)
 have hh1:=(HL1.out.below k).on hch
 have hh2:=(HL2.out.below k).on hch
 have hh3:=(hq.mono HZ2.out).on hch
 obtain ⟨W3,hW⟩:∃ W',y3.setCell ⟨w.heap.size,4,none⟩ (.slice a3 n3 d3) = W':=⟨_,rfl⟩
 rw [hW] at ib2 ir2 hb2 hz2 hh1 hh2 hh3
 clear hu
 have hu:=hW
 have IB3:=Lib.hid ib2
 have IR3:=Lib.hid ir2
 have HB3:=Lib.hid hb2
 have HZ3:=Lib.hid hz2
 clear HL1 HL2
 have HL1:=Lib.hid hh1
 have HL2:=Lib.hid hh2
 have HL3:=Lib.hid hh3
 clear ib ir hb hz ib2 ir2 hb2 hz2 hch k hW hq ho c3 q3 hh1 hh2 hh3 IB2 IR2 HB2 HZ2 hc
 have c4:=Va.cloneAtoms_any _ p.con W3 ((HH.out.con).below HB3.out) hF.con
 rw [HN4.out] at c4
 have q4:=IB3.out.at (i:=5) rfl
 go_wp2_with fail
 refine c4.mono ?_
 rintro e y4 ⟨v,rfl,ho,k⟩
 obtain ⟨a4,d4,rfl,_⟩:=own_shape ho
 rw [← HN4.out] at ho
 have hq:=hx_ats ho hF.con
 rw [HN4.out] at hq
 have ib:=Rl.is_on IB3.out k
 have ir:=Rl.is_on IR3.out k
 have hb:=HB3.out.trans (k.mono HB3.out.size)
 have hz:=Nat.le_trans HZ3.out k.size
 have o1:=ib.at (i:=5) rfl
 have o2:=ib.free 5
 have ib2:Blk.Is (y4.setCell ⟨w.heap.size,5,none⟩ (.slice a4 n4 d4)) w.heap.size 40 #[.string (S p.nm),.string (S p.vs),.slice a1 n1 d1,.slice a2 n2 d2,.slice a3 n3 d3,.slice a4 n4 d4,.slice s5 n5 t5,.slice s6 n6 t6,.bool p.ess]:=ib.set 5 (.slice a4 n4 d4)
 have ir2:=is_other ir (g:=w.heap.size) (i:=5) (.slice a4 n4 d4) (by omega)
 have hb2:=hb.setCell (p:=⟨w.heap.size,5,none⟩) (Nat.le_refl _) (.slice a4 n4 d4)
 have hz2:w.heap.size + 2 ≤ (y4.setCell ⟨w.heap.size,5,none⟩ (.slice a4 n4 d4)).heap.size:=by rw [show (y4.setCell ⟨w.heap.size,5,none⟩ (.slice a4 n4 d4)).heap.size = y4.heap.size by simp]; exact hz
 have hch:Blk.Chg (fun q=>q < w.heap.size + 2) y4 (y4.setCell ⟨w.heap.size,5,none⟩ (.slice a4 n4 d4)):=(Blk.Chg.refl _ _).setAt (by show w.heap.size < w.heap.size + 2; omega)
 have hh1:=(HL1.out.below k).on hch
 have hh2:=(HL2.out.below k).on hch
 have hh3:=(HL3.out.below k).on hch
 have hh4:=(hq.mono HZ3.out).on hch
 obtain ⟨W4,hW⟩:∃ W',y4.setCell ⟨w.heap.size,5,none⟩ (.slice a4 n4 d4) = W':=⟨_,rfl⟩
 rw [hW] at ib2 ir2 hb2 hz2 hh1 hh2 hh3 hh4
 clear hu
 have hu:=hW
 have IB4:=Lib.hid ib2
 have IR4:=Lib.hid ir2
 have HB4:=Lib.hid hb2
 have HZ4:=Lib.hid hz2
 clear HL1 HL2 HL3
 have HL1:=Lib.hid hh1
 have HL2:=Lib.hid hh2
 have HL3:=Lib.hid hh3
 have HL4:=Lib.hid hh4
 clear ib ir hb hz ib2 ir2 hb2 hz2 hch k hW hq ho c4 q4 hh1 hh2 hh3 hh4 IB3 IR3 HB3 HZ3
 have c5:=Va.cloneAtoms_any _ p.brk W4 ((HH.out.brk).below HB4.out) hF.brk
 rw [HN5.out] at c5
 have q5:=IB4.out.at (i:=6) rfl
 go_wp2_with fail
 refine c5.mono ?_
 rintro e y5 ⟨v,rfl,ho,k⟩
 obtain ⟨a5,d5,rfl,_⟩:=own_shape ho
 rw [← HN5.out] at ho
 have hq:=hx_ats ho hF.brk
 rw [HN5.out] at hq
 have ib:=Rl.is_on IB4.out k
 have ir:=Rl.is_on IR4.out k
 have hb:=HB4.out.trans (k.mono HB4.out.size)
 have hz:=Nat.le_trans HZ4.out k.size
 have o1:=ib.at (i:=6) rfl
 have o2:=ib.free 6
 have ib2:Blk.Is (y5.setCell ⟨w.heap.size,6,none⟩ (.slice a5 n5 d5)) w.heap.size 40 #[.string (S p.nm),.string (S p.vs),.slice a1 n1 d1,.slice a2 n2 d2,.slice a3 n3 d3,.slice a4 n4 d4,.slice a5 n5 d5,.slice s6 n6 t6,.bool p.ess]:=ib.set 6 (.slice a5 n5 d5)
 have ir2:=is_other ir (g:=w.heap.size) (i:=6) (.slice a5 n5 d5) (by omega)
 have hb2:=hb.setCell (p:=⟨w.heap.size,6,none⟩) (Nat.le_refl _) (.slice a5 n5 d5)
 have hz2:w.heap.size + 2 ≤ (y5.setCell ⟨w.heap.size,6,none⟩ (.slice a5 n5 d5)).heap.size:=by rw [show (y5.setCell ⟨w.heap.size,6,none⟩ (.slice a5 n5 d5)).heap.size = y5.heap.size by simp]; exact hz
 have hch:Blk.Chg (fun q=>q < w.heap.size + 2) y5 (y5.setCell ⟨w.heap.size,6,none⟩ (.slice a5 n5 d5)):=(Blk.Chg.refl _ _).setAt (by show w.heap.size < w.heap.size + 2; omega)
 have hh1:=(HL1.out.below k).on hch
 have hh2:=(HL2.out.below k).on hch
 have hh3:=(HL3.out.below k).on hch
 have hh4:=(HL4.out.below k).on hch
 have hh5:=(hq.mono HZ4.out).on hch
 obtain ⟨W5,hW⟩:∃ W',y5.setCell ⟨w.heap.size,6,none⟩ (.slice a5 n5 d5) = W':=⟨_,rfl⟩
 rw [hW] at ib2 ir2 hb2 hz2 hh1 hh2 hh3 hh4 hh5
 clear hu
 have hu:=hW
 have IB5:=Lib.hid ib2
 have IR5:=Lib.hid ir2
 have HB5:=Lib.hid hb2
 have HZ5:=Lib.hid hz2
 clear HL1 HL2 HL3 HL4
 have HL1:=Lib.hid hh1
 have HL2:=Lib.hid hh2
 have HL3:=Lib.hid hh3
 have HL4:=Lib.hid hh4
 have HL5:=Lib.hid hh5
 clear ib ir hb hz ib2 ir2 hb2 hz2 hch k hW hq ho c5 q5 hh1 hh2 hh3 hh4 hh5 IB4 IR4 HB4 HZ4
 have c6:=Va.cloneProvides_any _ p.prv W5 ((HH.out.prv).below HB5.out) hF.prv
 rw [HN6.out] at c6
 have q6:=IB5.out.at (i:=7) rfl
 go_wp2_with fail
 refine c6.mono ?_
 rintro e y6 ⟨v,rfl,ho,k⟩
 obtain ⟨a6,d6,rfl,_⟩:=own_shape ho
 rw [← HN6.out] at ho
 have hq:=hx_pvs ho hF.prv
 rw [HN6.out] at hq
 have ib:=Rl.is_on IB5.out k
 have ir:=Rl.is_on IR5.out k
 have hb:=HB5.out.trans (k.mono HB5.out.size)
 have hz:=Nat.le_trans HZ5.out k.size
 have o1:=ib.at (i:=7) rfl
 have o2:=ib.free 7
 have ib2:Blk.Is (y6.setCell ⟨w.heap.size,7,none⟩ (.slice a6 n6 d6)) w.heap.size 40 #[.string (S p.nm),.string (S p.vs),.slice a1 n1 d1,.slice a2 n2 d2,.slice a3 n3 d3,.slice a4 n4 d4,.slice a5 n5 d5,.slice a6 n6 d6,.bool p.ess]:=ib.set 7 (.slice a6 n6 d6)
 have ir2:=is_other ir (g:=w.heap.size) (i:=7) (.slice a6 n6 d6) (by omega)
 have hb2:=hb.setCell (p:=⟨w.heap.size,7,none⟩) (Nat.le_refl _) (.slice a6 n6 d6)
 have hz2:w.heap.size + 2 ≤ (y6.setCell ⟨w.heap.size,7,none⟩ (.slice a6 n6 d6)).heap.size:=by rw [show (y6.setCell ⟨w.heap.size,7,none⟩ (.slice a6 n6 d6)).heap.size = y6.heap.size by simp]; exact hz
 have hch:Blk.Chg (fun q=>q < w.heap.size + 2) y6 (y6.setCell ⟨w.heap.size,7,none⟩ (.slice a6 n6 d6)):=(Blk.Chg.refl _ _).setAt (by show w.heap.size < w.heap.size + 2; omega)
 have hh1:=(HL1.out.below k).on hch
 have hh2:=(HL2.out.below k).on hch
 have hh3:=(HL3.out.below k).on hch
 have hh4:=(HL4.out.below k).on hch
 have hh5:=(HL5.out.below k).on hch
 have hh6:=(hq.mono HZ5.out).on hch
 obtain ⟨W6,hW⟩:∃ W',y6.setCell ⟨w.heap.size,7,none⟩ (.slice a6 n6 d6) = W':=⟨_,rfl⟩
 rw [hW] at ib2 ir2 hb2 hz2 hh1 hh2 hh3 hh4 hh5 hh6
 clear hu
 have hu:=hW
 have IB6:=Lib.hid ib2
 have IR6:=Lib.hid ir2
 have HB6:=Lib.hid hb2
 have HZ6:=Lib.hid hz2
 clear HL1 HL2 HL3 HL4 HL5
 have HL1:=Lib.hid hh1
 have HL2:=Lib.hid hh2
 have HL3:=Lib.hid hh3
 have HL4:=Lib.hid hh4
 have HL5:=Lib.hid hh5
 have HL6:=Lib.hid hh6
 clear ib ir hb hz ib2 ir2 hb2 hz2 hch k hW hq ho c6 q6 hh1 hh2 hh3 hh4 hh5 hh6 IB5 IR5 HB5 HZ5
 have hi9:(Tryz.prog.info? 40).map (·.size) = some 9:=by kernel_rfl
 have RP:=Lib.hid (show W6.rangeAt w.heap.size 0 [.string (S p.nm),.string (S p.vs),.slice a1 n1 d1,.slice a2 n2 d2,.slice a3 n3 d3,.slice a4 n4 d4,.slice a5 n5 d5,.slice a6 n6 d6,.bool p.ess] from fun j u hj=>by rw [Nat.zero_add]; exact IB6.out.at (by rw [← hj]; exact (List.getElem?_toArray ..)))
 go_wp2_with (first | (refine wpList_load_mid rfl 40 (.tmp 1) rfl w.heap.size 0 rfl _ _ RP.out Tryz.underlying40 rfl hi9 ?_) | (refine wpList_store_row rfl 40 (.tmp 2) (.tmp 27) rfl (w.heap.size + 1) #[.string (S p.nm),.string (S p.vs),.slice a1 n1 d1,.slice a2 n2 d2,.slice a3 n3 d3,.slice a4 n4 d4,.slice a5 n5 d5,.slice a6 n6 d6,.bool p.ess] rfl rfl 40 #[.string ⟨#[]⟩,.string ⟨#[]⟩,.slice none 0 0,.slice none 0 0,.slice none 0 0,.slice none 0 0,.slice none 0 0,.slice none 0 0,.bool false] IR6.out hi9 (by rfl) (by simp [Value.oneCell']) ?_))
 have hr:=IR6.out.row #[.string (S p.nm),.string (S p.vs),.slice a1 n1 d1,.slice a2 n2 d2,.slice a3 n3 d3,.slice a4 n4 d4,.slice a5 n5 d5,.slice a6 n6 d6,.bool p.ess]
 have hb3:=below_setRow HB6.out (by show w.heap.size ≤ w.heap.size + 1; omega) #[.string (S p.nm),.string (S p.vs),.slice a1 n1 d1,.slice a2 n2 d2,.slice a3 n3 d3,.slice a4 n4 d4,.slice a5 n5 d5,.slice a6 n6 d6,.bool p.ess]
 have hch:Blk.Chg (fun q=>q < w.heap.size + 2) W6 (W6.setRow (w.heap.size + 1) #[.string (S p.nm),.string (S p.vs),.slice a1 n1 d1,.slice a2 n2 d2,.slice a3 n3 d3,.slice a4 n4 d4,.slice a5 n5 d5,.slice a6 n6 d6,.bool p.ess]):=(Blk.Chg.refl _ W6).setRow (by show w.heap.size + 1 < w.heap.size + 2; omega) _
 have hres:Hx w.heap.size (W6.setRow (w.heap.size + 1) #[.string (S p.nm),.string (S p.vs),.slice a1 n1 d1,.slice a2 n2 d2,.slice a3 n3 d3,.slice a4 n4 d4,.slice a5 n5 d5,.slice a6 n6 d6,.bool p.ess]) (fun z=>Has z p (.slice a1 n1 d1) (.slice a2 n2 d2) (.slice a3 n3 d3) (.slice a4 n4 d4) (.slice a5 n5 d5) (.slice a6 n6 d6)):=fun u hu=>by
  have hu2:Blk.Chg (fun q=>q < w.heap.size + 2) W6 u:=hch.trans (hu.mono fun k _ hk=>by omega)
  exact ⟨HL1.out u hu2,HL2.out u hu2,HL3.out u hu2,HL4.out u hu2,HL5.out u hu2,HL6.out u hu2⟩
 generalize W6.setRow (w.heap.size + 1) #[.string (S p.nm),.string (S p.vs),.slice a1 n1 d1,.slice a2 n2 d2,.slice a3 n3 d3,.slice a4 n4 d4,.slice a5 n5 d5,.slice a6 n6 d6,.bool p.ess] = W at *
 have r0:=hr.at (i:=0) rfl
 have r1:=hr.at (i:=1) rfl
 have r2:=hr.at (i:=2) rfl
 have r3:=hr.at (i:=3) rfl
 have r4:=hr.at (i:=4) rfl
 have r5:=hr.at (i:=5) rfl
 have r6:=hr.at (i:=6) rfl
 have r7:=hr.at (i:=7) rfl
 have r8:=hr.at (i:=8) rfl
 clear hch hr hu
 refine bodyPost_ret (v:=.agg #[.string (S p.nm),.string (S p.vs),.slice a1 n1 d1,.slice a2 n2 d2,.slice a3 n3 d3,.slice a4 n4 d4,.slice a5 n5 d5,.slice a6 n6 d6,.bool p.ess]) ?_ rfl ?_
 ·simp [results,Tryz.results72,go_sem,r0,r1,r2,r3,r4,r5,r6,r7,r8]
 ·exact ⟨_,_,_,_,_,_,rfl,hres,hb3⟩
end Ix
end Go.Proofs.YtmhpjjjjgakpiaaGreatDoor

/-
The texts that every program must know, as packages. What every program must know of packages: the law's awake. What is light: the law's measure of packages. Same: two packages: are they the same? and the reference's Same.
-/
import Derived.Test.YthmpepnikmdjpaaGreatDoorCStzAwake
import Derived.Test.YthmpepnikmdjpaaGreatDoorCRecParse
import Derived.Test.YthmpepnikmdjpaaGreatDoorCRecAll2
import Derived.Test.YthmpepnikmdjpaaGreatDoorCRecFld
import Derived.Test.YthmpepnikmdjpaaGreatDoorCRecVals
import Derived.Test.YthmpepnikmdjpaaGreatDoorCTextAwake
import Derived.BigQuiet
namespace Go.Proofs.YthmpepnikmdjpaaGreatDoor
open Go.RowKit
set_option linter.unusedSimpArgs false
set_option linter.unusedVariables false
namespace Rc
open Ver (Bs li S)
open Stz (Fld Sz PR)
def awA:List Int:=[80,97,99,107,97,103,101,58,32,97,97,10,86,101,114,115,105,111,110,58,32,49,10,68,101,112,101,110,100,115,58,32,98,98,10]
def awB:List Int:=[80,97,99,107,97,103,101,58,32,97,97,10]
def awLA:List Bs:=[[80,97,99,107,97,103,101,58,32,97,97],[86,101,114,115,105,111,110,58,32,49],[68,101,112,101,110,100,115,58,32,98,98]]
def awLB:List Bs:=[[80,97,99,107,97,103,101,58,32,97,97]]
def awSA:List Sz:=[(1,[(nmAt 0,[[97,97]]),(nmAt 1,[[49]]),(nmAt 4,[[98,98]])])]
def awSB:List Sz:=[(1,[(nmAt 0,[[97,97]])])]
def awP:Pk:=⟨[97,97],[49],[],[[([98,98],0,[])]],[],[],[],[],false⟩
theorem aw_pr {zs:List Int} {ls:List Bs} {l:List Sz} (h1:Stz.parse ls = (l,0,0)) (h2:ls = Txt.linesL (strOfNums zs).data.toList) (h3:∀ i,i < ls.length → Txt.E ((ls.map S).getD i ByteArray.empty) = 0) (h4:¬ 65536 < (strOfNums zs).size):PR (strOfNums zs) l 0 0:=by
 have hb:Stz.bytes (ls.map S) = ls:=Stz.bytes_S ls
 refine ⟨ls.map S,0,0,?_,.inr ⟨rfl,by rw [hb]; exact h1⟩⟩
 unfold Txt.LR
 rw [if_neg h4]
 refine .inl ⟨rfl,rfl,?_,fun i hi=>h3 i (by rwa [List.length_map] at hi)⟩
 unfold Txt.LinesOf
 rw [← h2]
 exact hb
theorem aw_prA:PR (strOfNums awA) awSA 0 0:=aw_pr (ls:=awLA) (by kernel_rfl) (by decide +kernel) (by decide +kernel) (by decide +kernel)
theorem aw_prB:PR (strOfNums awB) awSB 0 0:=aw_pr (ls:=awLB) (by kernel_rfl) (by decide +kernel) (by decide +kernel) (by decide +kernel)
theorem aw_A:whl ofS mayAll awSA = .ok [awP]:=by kernel_rfl
theorem aw_B:whl ofS mayAll awSB = .error (5,1):=by kernel_rfl
theorem told_A:Told ofS mayAll (strOfNums awA) (.ok [awP]):=⟨_,_,_,aw_prA,.inr ⟨rfl,aw_A.symm⟩⟩
theorem told_B:Told ofS mayAll (strOfNums awB) (.error (5,1)):=⟨_,_,_,aw_prB,.inr ⟨rfl,aw_B.symm⟩⟩
end Rc
end Go.Proofs.YthmpepnikmdjpaaGreatDoor
namespace Go.Proofs.YthmpepnikmdjpaaGreatDoor
open Go.RowKit
set_option linter.unusedSimpArgs false
set_option linter.unusedVariables false
namespace Rc
open Ver (Bs li li_len S S_self S_size S_li)
open Rl (At Pv Ats Pvs Clss Slc LimA LimP LimC Vars)
open Va (Hi)
theorem row_A (w:World):∃ W,w.alloc (.cells #[.int .u8 80,.int .u8 97,.int .u8 99,.int .u8 107,.int .u8 97,.int .u8 103,.int .u8 101,.int .u8 58,.int .u8 32,.int .u8 97,.int .u8 97,.int .u8 10,.int .u8 86,.int .u8 101,.int .u8 114,.int .u8 115,.int .u8 105,.int .u8 111,.int .u8 110,.int .u8 58,.int .u8 32,.int .u8 49,.int .u8 10,.int .u8 68,.int .u8 101,.int .u8 112,.int .u8 101,.int .u8 110,.int .u8 100,.int .u8 115,.int .u8 58,.int .u8 32,.int .u8 98,.int .u8 98,.int .u8 10] 5 (35,36)) = W ∧ Below w.heap.size w W ∧ W.heap.size = w.heap.size + 1 ∧ Row W (some ⟨w.heap.size,0,none⟩) 35 awA:=by
 refine ⟨_,rfl,(Below.refl _ _).alloc (Nat.le_refl _) _,by simp,rfl,by decide,by unfold Byte; decide,fun _=>⟨w.heap.size,0,rfl,by simp,fun j hj=>?_⟩⟩
 show (w.alloc (.cells ((awA.map (Value.int .u8)).toArray) 5 (35,36))).cell? _ = _
 refine (cell_of_row _ _ _ _ _ _ (heap_alloc_last w _)).trans ?_
 rw [Nat.zero_add]
 have:j < awA.length:=hj
 simp [this]
theorem row_B (w:World):∃ W,w.alloc (.cells #[.int .u8 80,.int .u8 97,.int .u8 99,.int .u8 107,.int .u8 97,.int .u8 103,.int .u8 101,.int .u8 58,.int .u8 32,.int .u8 97,.int .u8 97,.int .u8 10] 5 (12,13)) = W ∧ Below w.heap.size w W ∧ W.heap.size = w.heap.size + 1 ∧ Row W (some ⟨w.heap.size,0,none⟩) 12 awB:=by
 refine ⟨_,rfl,(Below.refl _ _).alloc (Nat.le_refl _) _,by simp,rfl,by decide,by unfold Byte; decide,fun _=>⟨w.heap.size,0,rfl,by simp,fun j hj=>?_⟩⟩
 show (w.alloc (.cells ((awB.map (Value.int .u8)).toArray) 5 (12,13))).cell? _ = _
 refine (cell_of_row _ _ _ _ _ _ (heap_alloc_last w _)).trans ?_
 rw [Nat.zero_add]
 have:j < awB.length:=hj
 simp [this]
set_option maxRecDepth 100000 in
set_option maxHeartbeats 4000000 in
theorem awake_any (w:World) (hG:Gl w) :
  Calls Tryz.prog 14 #[] w fun e w'=>e = .returned (.bool true) ∧ Below w.heap.size w w':=by
 obtain ⟨W,hW,hbW,hsW,hrA⟩:=row_A w
 have ca:=packages_any (some ⟨w.heap.size,0,none⟩) 35 35 awA W hrA (hG.on hbW)
 have HG:=Lib.hid hG
 have HBW:=Lib.hid hbW
 have CA:=Lib.hid ca
 have hi1:(Tryz.prog.info? 45).map (·.size) = some 2:=by kernel_rfl
 have kc:=fun (w:World) (C:Array Value) (n c:Nat)=>Lib.run_convert_bytes_const (P:=Tryz.prog) w 51 5 C n c Tryz.underlying51 Tryz.underlying5
 clear hbW hrA ca hG hsW
 go_enter Tryz.func14,Tryz.ntmps14
 go_wp2_with fail
 clear hW
 refine CA.out.mono ?_
 rintro e w1 ⟨o,v,er,ln,ht,rfl,k1,hm⟩
 have hto:o = .ok [awP]:=ht.uniq told_A
 subst hto
 obtain ⟨rfl,rfl,hp,_⟩:=hm
 have hp1:=hp.here
 have hb1:=HBW.out.trans (k1.mono HBW.out.size)
 have i2:=Blk.Is.new w1 45 #[.int .i64 0,.int .i64 0]
 have hb2:Below w1.heap.size w1 (w1.alloc (.cells #[.int .i64 0,.int .i64 0] 45)):=(Below.refl _ _).alloc (Nat.le_refl _) _
 obtain ⟨W2,hW2⟩:∃ W2,w1.alloc (.cells #[.int .i64 0,.int .i64 0] 45) = W2:=⟨_,rfl⟩
 rw [hW2] at i2 hb2
 have j2:=i2.row #[.int .i64 0,.int .i64 0]
 have hb3:=Va.below_row hb2 (Nat.le_refl _) #[.int .i64 0,.int .i64 0]
 have I2:=Lib.hid i2
 have hz2:w1.heap.size < (W2.setRow w1.heap.size #[.int .i64 0,.int .i64 0]).heap.size:=j2.lt
 obtain ⟨b1,hb1'⟩:∃ b1,w1.heap.size = b1:=⟨_,rfl⟩
 have hB3:=hb1.trans (hb3.mono hb1.size)
 have hp3:=hp.on (Va.chg_below hb3)
 rw [hb1'] at I2 j2 hB3 hp3 hz2
 obtain ⟨_,va,vc,rfl,_,_⟩:=id hp1
 clear ht hp hp1 k1 hb1 i2 hb2 hb3 CA HBW
 go_upto_region 2 with (refine wpList_store_row rfl 45 (.tmp 2) (.tmp 10) rfl b1 #[.int .i64 0,.int .i64 0] rfl rfl 45 #[.int .i64 0,.int .i64 0] I2.out hi1 (by rfl) (by simp [Value.oneCell']) ?_)
 try simp only [Act.put]
 clear I2
 generalize W2.setRow b1 #[.int .i64 0,.int .i64 0] = W3 at *
 obtain ⟨Wb,hWb,hbb,hsb,hrB⟩:=row_B W3
 have hbt:=hB3.trans (hbb.mono hB3.size)
 have cb:=packages_any (some ⟨W3.heap.size,0,none⟩) 12 12 awB Wb hrB (HG.out.on hbt)
 have CB:=Lib.hid cb
 have JB:=Lib.hid (Rl.is_on j2 hbb)
 have HPB:=Lib.hid (hp3.on (Va.chg_below hbb))
 have HBT:=Lib.hid hbt
 clear j2 hB3 hp3 hbb hsb hrB hbt cb hz2
 go_wp2_with fail
 clear kc hWb
 refine CB.out.mono ?_
 rintro e w4 ⟨o,v,er,ln,ht,rfl,k4,hm⟩
 have hto:o = .error (5,1):=ht.uniq told_B
 subst hto
 obtain ⟨rfl,rfl,_,rfl⟩:=hm
 have hb4:=HBT.out.trans (k4.mono HBT.out.size)
 have hp4:=HPB.out.on (Va.chg_below k4)
 have j4:=Rl.is_on JB.out k4
 have i5:=Blk.Is.new w4 45 #[.int .i64 0,.int .i64 0]
 have hb5:Below w4.heap.size w4 (w4.alloc (.cells #[.int .i64 0,.int .i64 0] 45)):=(Below.refl _ _).alloc (Nat.le_refl _) _
 obtain ⟨W5,hW5⟩:∃ W5,w4.alloc (.cells #[.int .i64 0,.int .i64 0] 45) = W5:=⟨_,rfl⟩
 rw [hW5] at i5 hb5
 have j5:=i5.row #[.int .i64 5,.int .i64 1]
 have hb6:=Va.below_row hb5 (Nat.le_refl _) #[.int .i64 5,.int .i64 1]
 have hB6:=hb4.trans (hb6.mono hb4.size)
 have hp6:=(hp4.on (Va.chg_below hb6)).here
 have jb6:=Rl.is_on j4 hb6
 obtain ⟨_,a',c',e1,_,hr⟩:=hp6
 simp only [Value.slice.injEq] at e1
 obtain ⟨rfl,_,rfl⟩:=e1
 obtain ⟨k,off,rfl,hat⟩:=hr (by decide)
 have hx:=hat 0 (by decide)
 rw [Nat.mul_zero,Nat.add_zero] at hx
 obtain ⟨a1,n1,c1,a2,n2,c2,a3,n3,c3,a4,n4,c4,a5,n5,c5,a6,n6,c6,⟨x0,_,_,x3,_⟩,hh⟩:=pk_read hx
 obtain ⟨_,_,e2⟩:=hh.dep.shape
 simp only [Value.slice.injEq] at e2
 obtain ⟨_,rfl,_⟩:=e2
 replace x0:(W5.setRow w4.heap.size #[.int .i64 5,.int .i64 1]).cell? ⟨k,off,none⟩ = some (.string (S [97,97])):=x0
 replace x3:(W5.setRow w4.heap.size #[.int .i64 5,.int .i64 1]).cell? ⟨k,off + 3,none⟩ = some (.slice a2 1 c2):=x3
 have hs2:(S [97,97]).toList = [97,97]:=by decide +kernel
 have y0:(W5.setRow w4.heap.size #[.int .i64 5,.int .i64 1]).cell? ⟨b1,0,none⟩ = some (.int .i64 0):=jb6.at (i:=0) rfl
 have z0:(W5.setRow w4.heap.size #[.int .i64 5,.int .i64 1]).cell? ⟨w4.heap.size,0,none⟩ = some (.int .i64 5):=j5.at (i:=0) rfl
 have z1:(W5.setRow w4.heap.size #[.int .i64 5,.int .i64 1]).cell? ⟨w4.heap.size,1,none⟩ = some (.int .i64 1):=j5.at (i:=1) rfl
 have I5:=Lib.hid i5
 have J5:=Lib.hid j5
 have hB:=Lib.hid hB6
 generalize S [97,97] = K at *
 clear ht hb4 hp4 j4 i5 hb5 j5 hb6 jb6 hr hat hx hh hB6 HBT HPB JB CB
 go_upto_region 3 with (refine wpList_store_row rfl 45 (.tmp 4) (.tmp 16) rfl w4.heap.size #[.int .i64 5,.int .i64 1] rfl rfl 45 #[.int .i64 0,.int .i64 0] I5.out hi1 (by rfl) (by simp [Value.oneCell']) ?_)
 try simp only [Act.put]
 clear I5
 generalize W5.setRow w4.heap.size #[.int .i64 5,.int .i64 1] = W6 at *
 go_wp2_with fail
 go_ret
 exact ⟨rfl,hB.out⟩
end Rc
end Go.Proofs.YthmpepnikmdjpaaGreatDoor
namespace Go.Proofs.YthmpepnikmdjpaaGreatDoor
open Go.RowKit
set_option linter.unusedSimpArgs false
set_option linter.unusedVariables false
namespace Rc
open Ver (Bs li li_len S S_self S_size S_li sameV)
open Rl (At Pv Ats Pvs Clss Slc LimA LimP LimC Vars nA nP mem_getD may nmB isV pvA aV pV tcells)
def lightL (l:List (List At)):Bool:=decide (l.length ≤ 30) && l.all fun c=>decide (c.length ≤ 30)
def three (p:Pk):List (List (List At)):=[p.pre,p.dep,p.rcm]
def lightP (p:Pk):Bool:=decide (p.con.length + p.brk.length + p.prv.length ≤ 60) && (three p).all lightL
def lightB (l:List Pk):Bool:=decide (l.length ≤ 40) && l.all lightP
theorem all_no {α:Type} {f:α → Bool} {l:List α} {z:α} {k:Nat} (hk:k < l.length) (h:f (l.getD k z) = false):l.all f = false:=by
 rw [Bool.eq_false_iff]
 intro ha
 have:=List.all_eq_true.1 ha _ (mem_getD (z:=z) hk)
 rw [h] at this
 cases this
theorem all_yes {α:Type} {f:α → Bool} {l:List α} {z:α} (h:∀ k,k < l.length → f (l.getD k z) = true):l.all f = true:=by
 refine List.all_eq_true.2 fun x hx=>?_
 obtain ⟨i,hi,rfl⟩:=List.mem_iff_getElem.1 hx
 have:=h i hi
 rwa [List.getD_eq_getElem?_getD,List.getElem?_eq_getElem hi] at this
theorem light_no {l:List Pk} {k:Nat} (hk:k < l.length) (h:lightP (l.getD k nPk) = false):lightB l = false:=by
 unfold lightB
 rw [all_no hk h,Bool.and_false]
theorem light_many {l:List Pk} (h:40 < l.length):lightB l = false:=by
 unfold lightB
 rw [decide_eq_false (by omega),Bool.false_and]
theorem light_yes {l:List Pk} (h:l.length ≤ 40) (ha:∀ k,k < l.length → lightP (l.getD k nPk) = true):lightB l = true:=by
 unfold lightB
 rw [decide_eq_true h,all_yes ha]; rfl
theorem three_no {p:Pk} {i:Nat} (hi:i < 3) (h:lightL ((three p).getD i []) = false):lightP p = false:=by
 unfold lightP
 rw [all_no (l:=three p) (z:=[]) (k:=i) hi h,Bool.and_false]
theorem sum_no {p:Pk} (h:60 < p.con.length + p.brk.length + p.prv.length):lightP p = false:=by
 unfold lightP
 rw [decide_eq_false (by omega),Bool.false_and]
theorem pk_yes {p:Pk} (h:p.con.length + p.brk.length + p.prv.length ≤ 60) (ha:∀ i,i < 3 → lightL ((three p).getD i []) = true):lightP p = true:=by
 unfold lightP
 rw [decide_eq_true h,all_yes (z:=[]) (fun k hk=>ha k hk)]; rfl
theorem list_long {l:List (List At)} (h:30 < l.length):lightL l = false:=by
 unfold lightL
 rw [decide_eq_false (by omega),Bool.false_and]
theorem list_no {l:List (List At)} {k:Nat} (hk:k < l.length) (h:30 < (l.getD k []).length):lightL l = false:=by
 unfold lightL
 rw [all_no (z:=[]) hk (decide_eq_false (by omega)),Bool.and_false]
theorem list_yes {l:List (List At)} (h:l.length ≤ 30) (ha:∀ k,k < l.length → (l.getD k []).length ≤ 30):lightL l = true:=by
 unfold lightL
 rw [decide_eq_true h,all_yes (z:=[]) (fun k hk=>decide_eq_true (ha k hk))]; rfl
theorem index_three (cs:Array Value) (j:Nat) (hj:j < 3) (v:Value) (hv:cs[j]? = some v) (w:World):(Instr.index 71 (.agg cs) (.int .i64 j)).run Tryz.prog w = .ok v w :=
 Held.run_index_one (e:=27) (n:=3) (by kernel_rfl) Tryz.underlying27 rfl (by kernel_rfl) hj hv w
set_option maxRecDepth 100000 in
set_option maxHeartbeats 8000000 in
theorem light_any (v:Value) (l:List Pk) (w:World) (h:Pks w v l) :
  Calls Tryz.prog 12 #[v] w fun e w'=>e = .returned (.bool (lightB l)) ∧ Below w.heap.size w w':=by
 obtain ⟨sa,cap,rfl⟩:=h.shape
 have H:=Lib.hid h
 have hn0:=h.1
 obtain ⟨n,hn⟩:∃ n,l.length = n:=⟨_,rfl⟩
 have HN:=Lib.hid hn
 rw [hn] at hn0 ⊢
 obtain ⟨G,hG⟩:∃ G,lightB l = G:=⟨_,rfl⟩
 have HG:=Lib.hid hG
 rw [hG]
 clear hn hG h
 go_enter Tryz.func12,Tryz.ntmps12
 go_wp2_with fail
 go_loopg [11] n (fun gf s1 wx=>∃ k:Nat,s1 = .int .i64 k ∧ Below w.heap.size w wx ∧ Hid (∀ j,j < k → lightP (l.getD j nPk) = true) ∧ k ≤ 40 ∧ k ≤ n ∧ n ≤ k + gf)
 case atStart=>exact ⟨0,rfl,Below.refl _ _,Lib.hid (fun j hj=>absurd hj (by omega)),by omega,by omega,by omega⟩
 case round =>
  obtain ⟨k,rfl,hbw,HP,hk40,hkn,hfu⟩:=hrel
  by_cases hlt:k < n
  ·obtain ⟨g',rfl⟩:∃ g',gk = g' + 1:=⟨gk - 1,by omega⟩
   have hlt':(k:Int) < (n:Int):=by omega
   have hk0:(0:Int) ≤ k:=by omega
   have hkl:k < l.length:=by rw [HN.out]; exact hlt
   obtain ⟨_,a',cap',e1,_,hcells⟩:=H.out.below hbw
   simp only [Value.slice.injEq,true_and] at e1
   obtain ⟨rfl,rfl⟩:=e1
   obtain ⟨kb,off,rfl,hcl2⟩:=hcells (by omega)
   obtain ⟨a1,n1,c1,a2,n2,c2,a3,n3,c3,a4,n4,c4,a5,n5,c5,a6,n6,c6,⟨x0,x1,x2,x3,x4,x5,x6,x7,x8⟩,hh⟩:=pk_read (hcl2 k hkl)
   rw [Nat.mul_comm 9 k] at x0 x1 x2 x3 x4 x5 x6 x7 x8
   have HKL:=Lib.hid hkl
   obtain ⟨_,_,e1⟩:=hh.pre.shape
   obtain ⟨_,_,e2⟩:=hh.dep.shape
   obtain ⟨_,_,e3⟩:=hh.rcm.shape
   obtain ⟨_,_,e4⟩:=hh.con.shape
   obtain ⟨_,_,e5⟩:=hh.brk.shape
   obtain ⟨_,_,e6⟩:=hh.prv.shape
   have l4:=hh.con.1
   have l5:=hh.brk.1
   have l6:=hh.prv.1
   simp only [Value.slice.injEq] at e1 e2 e3 e4 e5 e6
   rw [← e4.2.1] at l4
   rw [← e5.2.1] at l5
   rw [← e6.2.1] at l6
   generalize hx:l.getD k nPk = x at *
   have HX:=Lib.hid hx
   have HL:=Lib.hid (⟨e1.2.1,e2.2.1,e3.2.1,e4.2.1,e5.2.1,e6.2.1⟩:n1 = _ ∧ n2 = _ ∧ n3 = _ ∧ n4 = _ ∧ n5 = _ ∧ n6 = _)
   have hb2:=(Below.refl wr.heap.size wr).alloc (Nat.le_refl _) (.cells #[.string (S x.nm),.string (S x.vs),.slice a1 n1 c1,.slice a2 n2 c2,.slice a3 n3 c3,.slice a4 n4 c4,.slice a5 n5 c5,.slice a6 n6 c6,.bool x.ess] 31)
   have i2:=Blk.Is.new wr 31 #[.string (S x.nm),.string (S x.vs),.slice a1 n1 c1,.slice a2 n2 c2,.slice a3 n3 c3,.slice a4 n4 c4,.slice a5 n5 c5,.slice a6 n6 c6,.bool x.ess]
   have hh2:=hh.below hb2
   have HB2:=Lib.hid (hbw.trans (hb2.mono hbw.size))
   obtain ⟨bx,hbx⟩:∃ bx,wr.heap.size = bx:=⟨_,rfl⟩
   obtain ⟨W,hW⟩:∃ W,wr.alloc (.cells #[.string (S x.nm),.string (S x.vs),.slice a1 n1 c1,.slice a2 n2 c2,.slice a3 n3 c3,.slice a4 n4 c4,.slice a5 n5 c5,.slice a6 n6 c6,.bool x.ess] 31) = W:=⟨_,rfl⟩
   rw [hW] at hh2 i2 HB2
   rw [hbx] at i2
   have y2:W.cell? ⟨bx,2,none⟩ = some (.slice a1 n1 c1):=i2.at (i:=2) rfl
   have y3:W.cell? ⟨bx,3,none⟩ = some (.slice a2 n2 c2):=i2.at (i:=3) rfl
   have y4:W.cell? ⟨bx,4,none⟩ = some (.slice a3 n3 c3):=i2.at (i:=4) rfl
   have y5:W.cell? ⟨bx,5,none⟩ = some (.slice a4 n4 c4):=i2.at (i:=5) rfl
   have y6:W.cell? ⟨bx,6,none⟩ = some (.slice a5 n5 c5):=i2.at (i:=6) rfl
   have y7:W.cell? ⟨bx,7,none⟩ = some (.slice a6 n6 c6):=i2.at (i:=7) rfl
   have HH:=Lib.hid hh2
   clear hcells hcl2 hx hh hh2 hb2 i2 e1 e2 e3 e4 e5 e6 hbw hkl
   by_cases h40:40 ≤ k
   ·have h40':(40:Int) ≤ k:=by omega
    have hG:G = false:=by rw [← HG.out]; exact light_many (by rw [HN.out]; omega)
    subst hG
    clear HG
    go_wp2_with fail
    go_ret
    exact ⟨rfl,HB2.out⟩
   ·have h40':¬ (40:Int) ≤ k:=by omega
    by_cases h60:60 < n4 + n5 + n6
    ·have h60':(60:Int) < (n4:Int) + (n5:Int) + (n6:Int):=by omega
     have hG:G = false:=by
      rw [← HG.out]
      refine light_no HKL.out ?_
      rw [HX.out]
      have:=HL.out
      exact sum_no (by omega)
     subst hG
     clear HG
     go_wp2_with fail
     go_ret
     exact ⟨rfl,HB2.out⟩
    ·have h60':¬ (60:Int) < (n4:Int) + (n5:Int) + (n6:Int):=by omega
     go_wp2_with fail
     clear y5 y6 y7 l4 l5 l6
     go_loopg [39] 3 (fun gf s3 wx=>∃ i:Nat,s3 = .int .i64 i ∧ W = wx ∧ Hid (∀ j,j < i → lightL ((three x).getD j []) = true) ∧ i ≤ 3 ∧ 3 ≤ i + gf)
     case atStart=>exact ⟨0,rfl,rfl,Lib.hid (fun j hj=>absurd hj (by omega)),by omega,by omega⟩
     case round =>
      obtain ⟨i,rfl,rfl,HQ,hi3,hfu2⟩:=hrel
      by_cases hi:i < 3
      ·obtain ⟨g2,rfl⟩:∃ g2,gk = g2 + 1:=⟨gk - 1,by omega⟩
       have hi':(i:Int) < 3:=by omega
       obtain ⟨xa,xm,xc,hv,hcl⟩:∃ xa xm xc,(#[.slice a1 n1 c1,.slice a2 n2 c2,.slice a3 n3 c3]:Array Value)[i]? = some (.slice xa xm xc) ∧ Clss W (.slice xa xm xc) ((three x).getD i []):=by
        match i,hi with
        | 0,_=>exact ⟨_,_,_,rfl,HH.out.pre⟩
        | 1,_=>exact ⟨_,_,_,rfl,HH.out.dep⟩
        | 2,_=>exact ⟨_,_,_,rfl,HH.out.rcm⟩
       have hidx:=fun w=>index_three #[.slice a1 n1 c1,.slice a2 n2 c2,.slice a3 n3 c3] i hi _ hv w
       obtain ⟨cl,hcl0⟩:∃ cl,(three x).getD i [] = cl:=⟨_,rfl⟩
       rw [hcl0] at hcl
       have HCL:=Lib.hid hcl0
       obtain ⟨_,_,em⟩:=hcl.shape
       simp only [Value.slice.injEq] at em
       have hm0:=hcl.1
       rw [← em.2.1] at hm0
       have HM:=Lib.hid em.2.1
       have HC:=Lib.hid hcl
       clear hcl hcl0 em hv
       by_cases h30:30 < xm
       ·have h30':(30:Int) < (xm:Int):=by omega
        have hG:G = false:=by
         rw [← HG.out]
         refine light_no HKL.out ?_
         rw [HX.out]
         refine three_no hi ?_
         rw [HCL.out]
         exact list_long (by rw [← HM.out]; exact h30)
        subst hG
        clear HG
        go_wp2_with fail
        go_ret
        exact ⟨rfl,HB2.out⟩
       ·have h30':¬ (30:Int) < (xm:Int):=by omega
        go_wp2_with fail
        go_loopg [47] xm (fun gf s4 wx=>∃ q:Nat,s4 = .int .i64 q ∧ W = wx ∧ Hid (∀ j,j < q → (cl.getD j []).length ≤ 30) ∧ q ≤ xm ∧ xm ≤ q + gf)
        case atStart=>exact ⟨0,rfl,rfl,Lib.hid (fun j hj=>absurd hj (by omega)),by omega,by omega⟩
        case round =>
         obtain ⟨q,rfl,rfl,HR,hqm,hfu3⟩:=hrel
         by_cases hq:q < xm
         ·obtain ⟨g3,rfl⟩:∃ g3,gk = g3 + 1:=⟨gk - 1,by omega⟩
          have hq':(q:Int) < (xm:Int):=by omega
          have hq0:(0:Int) ≤ q:=by omega
          have hql:q < cl.length:=by rw [← HM.out]; exact hq
          obtain ⟨_,a',cap',e1,_,hcells⟩:=HC.out
          simp only [Value.slice.injEq] at e1
          obtain ⟨rfl,hz9,rfl⟩:=e1
          clear hz9
          obtain ⟨kb2,off2,rfl,hat⟩:=hcells (by omega)
          obtain ⟨u,z0,hA⟩:=hat q hql
          rw [Nat.one_mul] at z0
          obtain ⟨ua,uc,rfl⟩:=hA.shape
          have hu0:=hA.1
          obtain ⟨um,hum⟩:∃ um,(cl.getD q []).length = um:=⟨_,rfl⟩
          rw [hum] at z0 hu0
          have HUM:=Lib.hid hum
          have HQL:=Lib.hid hql
          clear hcells hat hA hum hql
          by_cases h31:30 < um
          ·have h31':(30:Int) < (um:Int):=by omega
           have hG:G = false:=by
            rw [← HG.out]
            refine light_no HKL.out ?_
            rw [HX.out]
            refine three_no hi ?_
            rw [HCL.out]
            exact list_no HQL.out (by rw [HUM.out]; exact h31)
           subst hG
           clear HG
           go_wp2_with fail
           go_ret
           exact ⟨rfl,HB2.out⟩
          ·have h31':¬ (30:Int) < (um:Int):=by omega
           have HR2:Hid (∀ j,j < q + 1 → (cl.getD j []).length ≤ 30):=Lib.hid fun j hj=>by
            by_cases e:j = q
            ·rw [e,HUM.out]; omega
            ·exact HR.out j (by omega)
           clear HR
           go_wp2_with fail
           go_roundg g3
           case measure=>omega
           case rel=>exact ⟨q + 1,by go_num,rfl,HR2,by omega,by omega⟩
         ·have hge:¬ (q:Int) < (xm:Int):=by omega
          obtain rfl:q = xm:=by omega
          have HQ2:Hid (∀ j,j < i + 1 → lightL ((three x).getD j []) = true):=Lib.hid fun j hj=>by
           by_cases e:j = i
           ·rw [e,HCL.out]
            exact list_yes (by rw [← HM.out]; omega) (fun t ht=>HR.out t (by rw [HM.out]; exact ht))
           ·exact HQ.out j (by omega)
          clear HR HQ
          go_wp2_with fail
          go_roundg g2
          case measure=>omega
          case rel=>exact ⟨i + 1,by go_num,rfl,HQ2,by omega,by omega⟩
      ·have hgi:¬ (i:Int) < 3:=by omega
       obtain rfl:i = 3:=by omega
       have HP2:Hid (∀ j,j < k + 1 → lightP (l.getD j nPk) = true):=Lib.hid fun j hj=>by
        by_cases e:j = k
        ·rw [e,HX.out]
         have:=HL.out
         exact pk_yes (by omega) (fun t ht=>HQ.out t ht)
        ·exact HP.out j (by omega)
       clear HP HQ
       go_wp2_with fail
       go_roundg g'
       case measure=>omega
       case rel=>exact ⟨k + 1,by go_num,HB2.out,HP2,by omega,by omega,by omega⟩
  ·have hge:¬ (k:Int) < (n:Int):=by omega
   obtain rfl:k = n:=by omega
   have hG:G = true:=by
    rw [← HG.out]
    exact light_yes (by rw [HN.out]; exact hk40) (fun j hj=>HP.out j (by rw [← HN.out]; exact hj))
   subst hG
   have HBW:=Lib.hid hbw
   clear HG hbw
   go_wp2_with fail
   go_ret
   exact ⟨rfl,HBW.out⟩
end Rc
end Go.Proofs.YthmpepnikmdjpaaGreatDoor
namespace Go.Proofs.YthmpepnikmdjpaaGreatDoor
open Go.RowKit
set_option linter.unusedSimpArgs false
set_option linter.unusedVariables false
namespace Rc
open Ver (Bs li li_len S S_self S_size S_li sameV)
open Rl (At Pv Ats Pvs Clss Slc LimA LimP LimC Vars nA nP mem_getD may nmB isV pvA aV pV tcells neA neP guardA guardP same_all drewn_below drewn_more)
open Va (below_drewN)
def eqP (p q:Pk):Bool:=decide (p.nm = q.nm) && (decide (p.vs = q.vs) && (decide (p.pre = q.pre) && (decide (p.dep = q.dep) && (decide (p.rcm = q.rcm) && (decide (p.con = q.con) && (decide (p.brk = q.brk) && (decide (p.prv = q.prv) && (p.ess == q.ess))))))))
theorem eqP_iff (p q:Pk):eqP p q = true ↔ p = q:=by
 unfold eqP
 obtain ⟨⟩:=p
 obtain ⟨⟩:=q
 simp [Pk.mk.injEq]
set_option maxRecDepth 100000 in
set_option maxHeartbeats 16000000 in
theorem ysame_any (v1 v2:Value) (p q:Pk) (w:World) (h1:PkV w v1 p) (h2:PkV w v2 q) :
  Calls Tryz.prog 18 #[v1,v2] w fun e w'=>e = .returned (.bool (eqP p q)) ∧ Below w.heap.size w w':=by
 obtain ⟨u1,u2,u3,u4,u5,u6,rfl,h1⟩:=h1
 obtain ⟨y1,y2,y3,y4,y5,y6,rfl,h2⟩:=h2
 have hb1:=(Below.refl w.heap.size w).alloc (Nat.le_refl _) (.cells #[.string (S p.nm),.string (S p.vs),u1,u2,u3,u4,u5,u6,.bool p.ess] 31)
 have i1:=Blk.Is.new w 31 #[.string (S p.nm),.string (S p.vs),u1,u2,u3,u4,u5,u6,.bool p.ess]
 have hb2:=hb1.alloc hb1.size (.cells #[.string (S q.nm),.string (S q.vs),y1,y2,y3,y4,y5,y6,.bool q.ess] 31)
 have i2:=Blk.Is.new (w.alloc (.cells #[.string (S p.nm),.string (S p.vs),u1,u2,u3,u4,u5,u6,.bool p.ess] 31)) 31 #[.string (S q.nm),.string (S q.vs),y1,y2,y3,y4,y5,y6,.bool q.ess]
 have i1':=i1.alloc (.cells #[.string (S q.nm),.string (S q.vs),y1,y2,y3,y4,y5,y6,.bool q.ess] 31)
 have hsz:(w.alloc (.cells #[.string (S p.nm),.string (S p.vs),u1,u2,u3,u4,u5,u6,.bool p.ess] 31)).heap.size = w.heap.size + 1:=by simp
 rw [hsz] at i2
 obtain ⟨W,hW⟩:∃ W,(w.alloc (.cells #[.string (S p.nm),.string (S p.vs),u1,u2,u3,u4,u5,u6,.bool p.ess] 31)).alloc (.cells #[.string (S q.nm),.string (S q.vs),y1,y2,y3,y4,y5,y6,.bool q.ess] 31) = W:=⟨_,rfl⟩
 rw [hW] at hb2 i1' i2
 have H1:=Lib.hid (h1.below hb2)
 have H2:=Lib.hid (h2.below hb2)
 have HB:=Lib.hid hb2
 have I1:=Lib.hid i1'
 have I2:=Lib.hid i2
 have c0:=i1'.at (i:=0) rfl
 have c1:=i1'.at (i:=1) rfl
 have d0:=i2.at (i:=0) rfl
 have d1:=i2.at (i:=1) rfl
 have c2:=i1'.at (i:=2) rfl
 have d2:=i2.at (i:=2) rfl
 have c3:=i1'.at (i:=3) rfl
 have d3:=i2.at (i:=3) rfl
 have c4:=i1'.at (i:=4) rfl
 have d4:=i2.at (i:=4) rfl
 have c5:=i1'.at (i:=5) rfl
 have d5:=i2.at (i:=5) rfl
 have c6:=i1'.at (i:=6) rfl
 have d6:=i2.at (i:=6) rfl
 have c7:=i1'.at (i:=7) rfl
 have d7:=i2.at (i:=7) rfl
 have c8:=i1'.at (i:=8) rfl
 have d8:=i2.at (i:=8) rfl
 have q0:((S p.nm).toList == (S q.nm).toList) = decide (p.nm = q.nm):=Rl.S_beq _ _
 have q1:((S p.vs).toList == (S q.vs).toList) = decide (p.vs = q.vs):=Rl.S_beq _ _
 unfold eqP
 clear hb1 i1 hb2 i1' i2 hsz h1 h2
 generalize S p.nm = A0 at *
 generalize S q.nm = B0 at *
 generalize S p.vs = A1 at *
 generalize S q.vs = B1 at *
 generalize p.ess = E at *
 generalize q.ess = F at *
 generalize decide (p.nm = q.nm) = G0 at *
 generalize decide (p.vs = q.vs) = G1 at *
 obtain ⟨G2,hG2⟩:∃ G,decide (p.pre = q.pre) = G:=⟨_,rfl⟩
 rw [hG2]
 have HG2:=Lib.hid hG2
 clear hG2
 obtain ⟨G3,hG3⟩:∃ G,decide (p.dep = q.dep) = G:=⟨_,rfl⟩
 rw [hG3]
 have HG3:=Lib.hid hG3
 clear hG3
 obtain ⟨G4,hG4⟩:∃ G,decide (p.rcm = q.rcm) = G:=⟨_,rfl⟩
 rw [hG4]
 have HG4:=Lib.hid hG4
 clear hG4
 obtain ⟨G5,hG5⟩:∃ G,decide (p.con = q.con) = G:=⟨_,rfl⟩
 rw [hG5]
 have HG5:=Lib.hid hG5
 clear hG5
 obtain ⟨G6,hG6⟩:∃ G,decide (p.brk = q.brk) = G:=⟨_,rfl⟩
 rw [hG6]
 have HG6:=Lib.hid hG6
 clear hG6
 obtain ⟨G7,hG7⟩:∃ G,decide (p.prv = q.prv) = G:=⟨_,rfl⟩
 rw [hG7]
 have HG7:=Lib.hid hG7
 clear hG7
 cases G0 with
 | false =>
  rw [Bool.false_and]
  clear c2 d2 c3 d3 c4 d4 c5 d5 c6 d6 c7 d7 H1 H2
  go_enter Tryz.func18,Tryz.ntmps18
  go_wp2_with fail
  go_ret
  exact ⟨rfl,HB.out⟩
 | true =>
  rw [Bool.true_and]
  cases G1 with
  | false =>
   rw [Bool.false_and]
   clear c2 d2 c3 d3 c4 d4 c5 d5 c6 d6 c7 d7 H1 H2
   go_enter Tryz.func18,Tryz.ntmps18
   go_wp2_with fail
   go_ret
   exact ⟨rfl,HB.out⟩
  | true =>
   rw [Bool.true_and]
   cases hE:(E == F) with
   | false =>
    simp only [Bool.and_false]
    clear c2 d2 c3 d3 c4 d4 c5 d5 c6 d6 c7 d7 H1 H2
    go_enter Tryz.func18,Tryz.ntmps18
    go_wp2_with fail
    go_ret
    exact ⟨rfl,HB.out⟩
   | true =>
    simp only [Bool.and_true]
    go_enter Tryz.func18,Tryz.ntmps18
    go_wp2_with fail
    have K:=Below.refl W.heap.size W
    have KB:=HB.out
    have ca:=Rl.sameClauses_any _ _ p.pre q.pre W (H1.out.pre.below K) (H2.out.pre.below K)
    rw [HG2.out] at ca
    refine ca.mono ?_
    rintro e w2 ⟨rfl,kq⟩
    have k1:=Rl.drewn_below kq
    have K2:=K.trans (k1.mono K.size)
    have KB2:=KB.trans (k1.mono KB.size)
    have c3':=Rl.cell_on c3 K2
    have d3':=Rl.cell_on d3 K2
    clear ca kq k1 K KB
    cases G2 with
    | false =>
     go_wp2_with fail
     go_ret
     exact ⟨rfl,KB2⟩
    | true =>
     go_wp2_with fail
     have K:=K2
     have KB:=KB2
     clear K2 KB2
     have ca:=Rl.sameClauses_any _ _ p.dep q.dep w2 (H1.out.dep.below K) (H2.out.dep.below K)
     rw [HG3.out] at ca
     refine ca.mono ?_
     rintro e w3 ⟨rfl,kq⟩
     have k1:=Rl.drewn_below kq
     have K2:=K.trans (k1.mono K.size)
     have KB2:=KB.trans (k1.mono KB.size)
     have c4':=Rl.cell_on c4 K2
     have d4':=Rl.cell_on d4 K2
     clear ca kq k1 K KB
     cases G3 with
     | false =>
      go_wp2_with fail
      go_ret
      exact ⟨rfl,KB2⟩
     | true =>
      go_wp2_with fail
      have K:=K2
      have KB:=KB2
      clear K2 KB2
      have ca:=Rl.sameClauses_any _ _ p.rcm q.rcm w3 (H1.out.rcm.below K) (H2.out.rcm.below K)
      rw [HG4.out] at ca
      refine ca.mono ?_
      rintro e w4 ⟨rfl,kq⟩
      have k1:=Rl.drewn_below kq
      have K2:=K.trans (k1.mono K.size)
      have KB2:=KB.trans (k1.mono KB.size)
      have c5':=Rl.cell_on c5 K2
      have d5':=Rl.cell_on d5 K2
      clear ca kq k1 K KB
      cases G4 with
      | false =>
       go_wp2_with fail
       go_ret
       exact ⟨rfl,KB2⟩
      | true =>
       go_wp2_with fail
       have K:=K2
       have KB:=KB2
       clear K2 KB2
       have ca:=Rl.sameAtoms_any _ _ p.con q.con w4 (H1.out.con.below K) (H2.out.con.below K)
       rw [HG5.out] at ca
       refine ca.mono ?_
       rintro e w5 ⟨rfl,kq⟩
       have k1:=Rl.drewn_below kq
       have K2:=K.trans (k1.mono K.size)
       have KB2:=KB.trans (k1.mono KB.size)
       have c6':=Rl.cell_on c6 K2
       have d6':=Rl.cell_on d6 K2
       clear ca kq k1 K KB
       cases G5 with
       | false =>
        go_wp2_with fail
        go_ret
        exact ⟨rfl,KB2⟩
       | true =>
        go_wp2_with fail
        have K:=K2
        have KB:=KB2
        clear K2 KB2
        have ca:=Rl.sameAtoms_any _ _ p.brk q.brk w5 (H1.out.brk.below K) (H2.out.brk.below K)
        rw [HG6.out] at ca
        refine ca.mono ?_
        rintro e w6 ⟨rfl,kq⟩
        have k1:=Rl.drewn_below kq
        have K2:=K.trans (k1.mono K.size)
        have KB2:=KB.trans (k1.mono KB.size)
        have c7':=Rl.cell_on c7 K2
        have d7':=Rl.cell_on d7 K2
        clear ca kq k1 K KB
        cases G6 with
        | false =>
         go_wp2_with fail
         go_ret
         exact ⟨rfl,KB2⟩
        | true =>
         go_wp2_with fail
         have K:=K2
         have KB:=KB2
         clear K2 KB2
         have ca:=Rl.sameProvides_any _ _ p.prv q.prv w6 (H1.out.prv.below K) (H2.out.prv.below K)
         rw [HG7.out] at ca
         refine ca.mono ?_
         rintro e w7 ⟨rfl,kq⟩
         have k1:=Rl.drewn_below kq
         have K2:=K.trans (k1.mono K.size)
         have KB2:=KB.trans (k1.mono KB.size)
         clear ca kq k1 K KB
         go_wp2_with fail
         go_ret
         exact ⟨rfl,KB2⟩
end Rc
end Go.Proofs.YthmpepnikmdjpaaGreatDoor

/-
Packages, entries as they are parsed.
-/
import Derived.Test.YthmpepnikmdjpaaGreatDoorCRecOut
import Derived.Test.YthmpepnikmdjpaaGreatDoorCRecAll2
namespace Go.Proofs.YthmpepnikmdjpaaGreatDoor
open Go.RowKit
set_option linter.unusedSimpArgs false
set_option linter.unusedVariables false
namespace Rc
open Ver (Bs li li_len S S_self S_size S_li)
open Rl (At Pv Ats Pvs Clss Slc LimA LimP LimC Vars)
open Va (Hi)
open Stz (Fld Sz sameB sameS foldL Flds FldAt)
theorem txmax {w:World} (h:Vars w):Txt.MaxLen w:=h.maxLen
def ParsedP {β:Type} (Sl:World → Value → List β → Prop) (of:Sz → Except (Int × Int) β) (my:List β → Int) (lm:β → Prop) (s:ByteArray) (w:World) (e:Ending) (w':World):Prop :=
 ∃ o v er ln,Told of my s o ∧ e = .returned (.tuple #[v,.agg #[.int .i64 er,.int .i64 ln]]) ∧ Below w.heap.size w w' ∧ match o with
  | .error p=>er = p.1 ∧ ln = p.2 ∧ er ≠ 0 ∧ v = .slice none 0 0
  | .ok xs=>er = 0 ∧ ln = 0 ∧ Hi w.heap.size w' (fun u=>Sl u v xs) ∧ ∀ x ∈ xs,lm x
set_option maxRecDepth 100000 in
set_option maxHeartbeats 16000000 in
theorem parseP_any (a:Option Addr) (len cap:Nat) (zs:List Int) (w:World) (hr:Row w a len zs) (hG:Gl w) :
  Calls Tryz.prog 75 #[.slice a len cap,.func (.func 23) #[] #[],.func (.func 19) #[] #[]] w fun e w'=>ParsedP Pks ofS mayAll (fun x=>x.Lim) (strOfNums zs) w e w':=by
 have eg1:=enters_of Tryz.func23 (by kernel_rfl) rfl
 have eg2:=enters_of Tryz.func19 (by kernel_rfl) rfl
 have cp:=fun W (hb:Below w.heap.size w W)=>Stz.parse_any a len cap zs W (by exact hr.below hb) (hG.on hb).u (txmax (hG.on hb).v)
 have hb0:Below w.heap.size w (w.alloc (.cells #[.int .i64 0,.int .i64 0] 45)):=(Below.refl _ _).alloc (Nat.le_refl _) _
 have i0:=Blk.Is.new w 45 #[.int .i64 0,.int .i64 0]
 have hs0:(w.alloc (.cells #[.int .i64 0,.int .i64 0] 45)).heap.size = w.heap.size + 1:=by simp
 have HG:=Lib.hid hG
 have CP:=Lib.hid cp
 obtain ⟨W,hW⟩:∃ W,w.alloc (.cells #[.int .i64 0,.int .i64 0] 45) = W:=⟨_,rfl⟩
 rw [hW] at hb0 i0 hs0
 have HB:=Lib.hid hb0
 have I0:=Lib.hid i0
 have S0:=Lib.hid hs0
 have hn0:(Tryz.prog.info? 31).map (·.size) = some 9:=by kernel_rfl
 have hi1:(Tryz.prog.info? 45).map (·.size) = some 2:=by kernel_rfl
 clear hr hG cp hb0 i0 hs0
 go_enter Tryz.func75,Tryz.ntmps75
 go_wp2_with fail
 refine (CP.out _ HB.out).mono ?_
 rintro e w1 ⟨v,l,er,ln,rfl,hpr,hsm,hst,k1⟩
 obtain ⟨ei,hei⟩:∃ ei:Int,((er:Nat):Int) = ei:=⟨_,rfl⟩
 obtain ⟨ni,hni⟩:∃ ni:Int,((ln:Nat):Int) = ni:=⟨_,rfl⟩
 rw [hei,hni]
 have HE:=Lib.hid (⟨hei,hni⟩:_ ∧ _)
 have j1:=Rl.is_on I0.out k1
 have hb1:=HB.out.trans (k1.mono HB.out.size)
 have hz1:w.heap.size + 1 ≤ w1.heap.size:=by rw [← S0.out]; exact k1.size
 have hb2:=(Below.refl w1.heap.size w1).alloc (Nat.le_refl _) (.cells #[.int .i64 0,.int .i64 0] 45)
 have x2:=(Blk.Is.new w1 45 #[.int .i64 0,.int .i64 0])
 obtain ⟨W2,hW2⟩:∃ W2,w1.alloc (.cells #[.int .i64 0,.int .i64 0] 45) = W2:=⟨_,rfl⟩
 have hs2:W2.heap.size = w1.heap.size + 1:=by rw [← hW2]; simp
 rw [hW2] at hb2 x2
 have B2:=Lib.hid (Va.below_row (hb1.trans (hb2.mono hb1.size)) (show w.heap.size ≤ w1.heap.size by omega) #[.int .i64 ei,.int .i64 ni])
 have J1:=Lib.hid ((Rl.is_on j1 hb2).rowOther (g:=w1.heap.size) #[.int .i64 ei,.int .i64 ni] (by omega))
 have X2:=Lib.hid x2
 have Y2:=Lib.hid (x2.row #[.int .i64 ei,.int .i64 ni])
 have HPR:=Lib.hid hpr
 have HSM:=Lib.hid hsm
 have hbr:Below w1.heap.size w1 (W2.setRow w1.heap.size #[.int .i64 ei,.int .i64 ni]):=Va.below_row hb2 (Nat.le_refl _) _
 have HST:=Lib.hid (hst.below hbr)
 have Z2:=Lib.hid (show w.heap.size + 1 ≤ w1.heap.size ∧ (W2.setRow w1.heap.size #[.int .i64 ei,.int .i64 ni]).heap.size = w1.heap.size + 1 by
  refine ⟨hz1,?_⟩
  rw [← hs2]; simp)
 have y0:(W2.setRow w1.heap.size #[.int .i64 ei,.int .i64 ni]).cell? ⟨w1.heap.size,0,none⟩ = some (.int .i64 ei):=Y2.out.at (i:=0) rfl
 obtain ⟨_,sa,sc,rfl,_,_⟩:=id hst
 obtain ⟨b9,hb9⟩:∃ b9,w1.heap.size = b9:=⟨_,rfl⟩
 rw [hb9] at X2 Y2 B2 J1 Z2 HST y0
 clear hei hni j1 hb1 hz1 hb2 x2 hs2 hpr hsm hst k1 hbr CP HB I0 S0
 have hz:=Z2.out
 obtain ⟨N,hN⟩:∃ N,l.length = N:=⟨_,rfl⟩
 rw [hN] at HST ⊢
 have HN:=Lib.hid hN
 clear hN
 by_cases her:ei = 0
 ·subst her
  go_wp2_with (first | (refine wpList_store_row rfl 45 (.tmp 9) (.tmp 20) rfl b9 #[.int .i64 0,.int .i64 ni] rfl rfl 45 #[.int .i64 0,.int .i64 0] X2.out hi1 (by rfl) (by simp [Value.oneCell']) ?_) | fail)
  clear X2 Y2 y0 hz
  generalize W2.setRow b9 #[.int .i64 0,.int .i64 ni] = w3 at *
  have hpr0:Stz.PR (strOfNums zs) l 0 ln:=by
   have h0:er = 0:=by have:=HE.out.1; omega
   have:=HPR.out
   rwa [h0] at this
  have hfs:=Rc.pr_fsmall hpr0 HSM.out
  have hlo:=Stz.pr_line hpr0
  have hN200:N ≤ 200:=by rw [← HN.out]; exact HSM.out.1
  have HFS:=Lib.hid hfs
  have HLO:=Lib.hid hlo
  have HP0:=Lib.hid hpr0
  clear hpr0 hfs hlo HPR HSM HE
  go_loopg [10,27] N (fun gf s10 s27 wx=>∃ (k:Nat) (ys:List Pk) (a10:Option Addr) (c10:Nat),s10 = .slice a10 k c10 ∧ s27 = .int .i64 k ∧ Hid (Acc PkC 9 31 w3.heap.size w3.heap.size wx (.slice a10 k c10) ys) ∧ Hid (each ofS (l.take k) = .ok ys ∧ ys.length = k ∧ ∀ x ∈ ys,x.Lim) ∧ Hid (Below w3.heap.size w3 wx) ∧ k ≤ N ∧ N ≤ k + gf)
  case atStart=>exact ⟨0,[],none,0,rfl,rfl,Lib.hid (Acc.nil _ _ _ _ _ _),Lib.hid ⟨rfl,rfl,fun x hx=>by cases hx⟩,Lib.hid (Below.refl _ _),by omega,by omega⟩
  case round =>
   obtain ⟨k,ys,a10,c10,rfl,rfl,HA,HY,HW,hkn,hfu⟩:=hrel
   by_cases hlt:k < N
   ·obtain ⟨g',rfl⟩:∃ g',gk = g' + 1:=⟨gk - 1,by omega⟩
    have hlt':(k:Int) < (N:Int):=by omega
    have hk0:(0:Int) ≤ k:=by omega
    have hkl:k < l.length:=by rw [HN.out]; exact hlt
    have hmem:=Rl.mem_getD (z:=((0,[]):Sz)) hkl
    obtain ⟨_,a',cap',e1,_,hr⟩:=HST.out.below HW.out
    rw [HN.out] at e1
    simp only [Value.slice.injEq,true_and] at e1
    obtain ⟨rfl,rfl⟩:=e1
    obtain ⟨kb,off,rfl,hat⟩:=hr (by omega)
    obtain ⟨x0,u,x1,xF⟩:=hat k hkl
    rw [Nat.mul_comm 2 k] at x0 x1
    have hfk:=HFS.out _ hmem
    have hlk:=HLO.out _ hmem
    have hd:l = l.take k ++ l.getD k (0,[]) :: l.drop (k + 1):=by
     rw [List.getD_eq_getElem?_getD,List.getElem?_eq_getElem hkl,Option.getD_some,← List.drop_eq_getElem_cons hkl,List.take_append_drop]
    have ht:l.take (k + 1) = l.take k ++ [l.getD k (0,[])]:=by
     rw [List.getD_eq_getElem?_getD,List.getElem?_eq_getElem hkl,Option.getD_some,List.take_append_getElem hkl]
    obtain ⟨sk,hsk⟩:∃ sk,l.getD k (0,[]) = sk:=⟨_,rfl⟩
    rw [hsk] at x0 xF hfk hlk hd ht
    have HD:=Lib.hid hd
    have HT:=Lib.hid ht
    obtain ⟨line,fs⟩:=sk
    simp only at x0 xF hfk hlk
    obtain ⟨_,fa,fc,rfl,_,_⟩:=id xF
    have hb2:=(Below.refl wr.heap.size wr).alloc (Nat.le_refl _) (.cells #[.int .i64 line,.slice fa fs.length fc] 40)
    have cof:=fun W (hb:Below wr.heap.size wr W)=>of_any line (.slice fa fs.length fc) fs W ((HG.out.on (B2.out.trans (HW.out.mono B2.out.size))).on hb) ⟨by omega,by omega⟩ (xF.below hb) (fun f hf=>(hfk f hf).ok)
    have COF:=Lib.hid cof
    have j4:=Blk.Is.new wr 40 #[.int .i64 line,.slice fa fs.length fc]
    have HFK:=Lib.hid hfk
    have hacc:=HA.out.on hb2
    have hb4:=HW.out.trans (hb2.mono HW.out.size)
    obtain ⟨W4,hW4⟩:∃ W4,wr.alloc (.cells #[.int .i64 line,.slice fa fs.length fc] 40) = W4:=⟨_,rfl⟩
    rw [hW4] at hb2 hacc hb4 j4
    have f0:W4.cell? ⟨wr.heap.size,0,none⟩ = some (.int .i64 line):=j4.at (i:=0) rfl
    have f1:W4.cell? ⟨wr.heap.size,1,none⟩ = some (.slice fa fs.length fc):=j4.at (i:=1) rfl
    have HB2:=Lib.hid hb2
    have HAC:=Lib.hid hacc
    have HB4:=Lib.hid hb4
    clear j4 hat hr hd ht hsk hfk hlk hmem xF cof hb2 hacc hb4 HA HW
    go_wp2_with fail
    refine (COF.out _ HB2.out).mono ?_
    rintro e w5 ⟨cs,x,ej,nj,rfl,hC,k5,hm⟩
    obtain ⟨u1,u2,u3,u4,u5,u6,e1,hh⟩:=hC.here
    obtain ⟨a1,d1,rfl⟩:=hh.pre.shape
    obtain ⟨a2,d2,rfl⟩:=hh.dep.shape
    obtain ⟨a3,d3,rfl⟩:=hh.rcm.shape
    obtain ⟨a4,d4,rfl⟩:=hh.con.shape
    obtain ⟨a5,d5,rfl⟩:=hh.brk.shape
    obtain ⟨a6,d6,rfl⟩:=hh.prv.shape
    obtain rfl:cs = #[.string (S x.nm),.string (S x.vs),.slice a1 x.pre.length d1,.slice a2 x.dep.length d2,.slice a3 x.rcm.length d3,.slice a4 x.con.length d4,.slice a5 x.brk.length d5,.slice a6 x.prv.length d6,.bool x.ess]:=by rw [← Array.toArray_toList (xs:=cs),e1]
    have hC5:=In.of hC
    have hown4:∀ g,Value.ownBlock (.slice a10 k c10) = some g → g < W4.heap.size ∨ w5.heap.size ≤ g:=fun g hg=>by
     obtain ⟨_,ho⟩:=HAC.out.own
     exact .inl (Rl.own_lt ho hg).2
    have hm5:W4.heap.size ≤ w5.heap.size:=k5.size
    have hB4:w3.heap.size ≤ W4.heap.size:=HB4.out.size
    have hb5:=HB4.out.trans (k5.mono HB4.out.size)
    have acc5:=HAC.out.on k5
    obtain ⟨W6,hW6,hB6,hs6,p6,q6⟩:=two_new w5 31 45 #[.string ⟨#[]⟩,.string ⟨#[]⟩,.slice none 0 0,.slice none 0 0,.slice none 0 0,.slice none 0 0,.slice none 0 0,.slice none 0 0,.bool false] #[.int .i64 0,.int .i64 0]
    have hz5:w3.heap.size ≤ w5.heap.size:=hb5.size
    have hk7:Below w5.heap.size w5 ((W6.setRow w5.heap.size #[.string (S x.nm),.string (S x.vs),.slice a1 x.pre.length d1,.slice a2 x.dep.length d2,.slice a3 x.rcm.length d3,.slice a4 x.con.length d4,.slice a5 x.brk.length d5,.slice a6 x.prv.length d6,.bool x.ess]).setRow (w5.heap.size + 1) #[.int .i64 ej,.int .i64 nj]):=Va.below_row (Va.below_row hB6 (Nat.le_refl _) _) (Nat.le_succ _) _
    have hb7:=hb5.trans (hk7.mono hz5)
    have acc7:=acc5.on hk7
    have hC7:=hC5.on (Blk.Chg.ofBelow' hk7)
    have p7:=(p6.row #[.string (S x.nm),.string (S x.vs),.slice a1 x.pre.length d1,.slice a2 x.dep.length d2,.slice a3 x.rcm.length d3,.slice a4 x.con.length d4,.slice a5 x.brk.length d5,.slice a6 x.prv.length d6,.bool x.ess]).rowOther (g:=w5.heap.size + 1) #[.int .i64 ej,.int .i64 nj] (by omega)
    have q6':=q6.rowOther (g:=w5.heap.size) #[.string (S x.nm),.string (S x.vs),.slice a1 x.pre.length d1,.slice a2 x.dep.length d2,.slice a3 x.rcm.length d3,.slice a4 x.con.length d4,.slice a5 x.brk.length d5,.slice a6 x.prv.length d6,.bool x.ess] (by omega)
    have q7:=q6'.row #[.int .i64 ej,.int .i64 nj]
    have hs7:((W6.setRow w5.heap.size #[.string (S x.nm),.string (S x.vs),.slice a1 x.pre.length d1,.slice a2 x.dep.length d2,.slice a3 x.rcm.length d3,.slice a4 x.con.length d4,.slice a5 x.brk.length d5,.slice a6 x.prv.length d6,.bool x.ess]).setRow (w5.heap.size + 1) #[.int .i64 ej,.int .i64 nj]).heap.size = w5.heap.size + 2:=by rw [← hs6]; simp
    obtain ⟨b5,hb5'⟩:∃ b5,w5.heap.size = b5:=⟨_,rfl⟩
    rw [hb5'] at acc7 hC7 p6 q6' p7 q7 hs7 hb7 hown4 hz5 hm5
    have y1:((W6.setRow b5 #[.string (S x.nm),.string (S x.vs),.slice a1 x.pre.length d1,.slice a2 x.dep.length d2,.slice a3 x.rcm.length d3,.slice a4 x.con.length d4,.slice a5 x.brk.length d5,.slice a6 x.prv.length d6,.bool x.ess]).setRow (b5 + 1) #[.int .i64 ej,.int .i64 nj]).cell? ⟨b5 + 1,0,none⟩ = some (.int .i64 ej):=q7.at (i:=0) rfl
    have P6:=Lib.hid p6
    have Q6:=Lib.hid q6'
    have P7:=Lib.hid p7
    have Q7:=Lib.hid q7
    have AC:=Lib.hid acc7
    have HC:=Lib.hid hC7
    have HB7:=Lib.hid hb7
    have HO:=Lib.hid hown4
    have S7:=Lib.hid (⟨hs7,hm5,hz5,hB4⟩:_ ∧ _ ∧ _ ∧ _)
    clear hB4 hC hC5 hown4 hm5 hb5 acc5 hB6 hs6 p6 q6 hz5 hk7 hb7 acc7 hC7 p7 q6' q7 hs7 e1 hh k5 HB4 HAC HB2 COF
    by_cases hej:ej = 0
    ·subst hej
     have hy:ofS (line,fs) = .ok x ∧ nj = 0:=by
      revert hm
      generalize ofS (line,fs) = R
      intro hm
      cases R with
      | error p=>exact absurd rfl hm.2.2
      | ok y=>exact ⟨by rw [hm.2.2],hm.2.1⟩
     obtain ⟨hy,rfl⟩:=hy
     have HYY:=Lib.hid hy
     clear hm hy
     have hk8:Below ((W6.setRow b5 #[.string (S x.nm),.string (S x.vs),.slice a1 x.pre.length d1,.slice a2 x.dep.length d2,.slice a3 x.rcm.length d3,.slice a4 x.con.length d4,.slice a5 x.brk.length d5,.slice a6 x.prv.length d6,.bool x.ess]).setRow (b5 + 1) #[.int .i64 0,.int .i64 0]).heap.size ((W6.setRow b5 #[.string (S x.nm),.string (S x.vs),.slice a1 x.pre.length d1,.slice a2 x.dep.length d2,.slice a3 x.rcm.length d3,.slice a4 x.con.length d4,.slice a5 x.brk.length d5,.slice a6 x.prv.length d6,.bool x.ess]).setRow (b5 + 1) #[.int .i64 0,.int .i64 0]) (((W6.setRow b5 #[.string (S x.nm),.string (S x.vs),.slice a1 x.pre.length d1,.slice a2 x.dep.length d2,.slice a3 x.rcm.length d3,.slice a4 x.con.length d4,.slice a5 x.brk.length d5,.slice a6 x.prv.length d6,.bool x.ess]).setRow (b5 + 1) #[.int .i64 0,.int .i64 0]).alloc (.cells #[.string (S x.nm),.string (S x.vs),.slice a1 x.pre.length d1,.slice a2 x.dep.length d2,.slice a3 x.rcm.length d3,.slice a4 x.con.length d4,.slice a5 x.brk.length d5,.slice a6 x.prv.length d6,.bool x.ess] 31)):=(Below.refl _ _).alloc (Nat.le_refl _) _
     have c8:=Blk.Is.new ((W6.setRow b5 #[.string (S x.nm),.string (S x.vs),.slice a1 x.pre.length d1,.slice a2 x.dep.length d2,.slice a3 x.rcm.length d3,.slice a4 x.con.length d4,.slice a5 x.brk.length d5,.slice a6 x.prv.length d6,.bool x.ess]).setRow (b5 + 1) #[.int .i64 0,.int .i64 0]) 31 #[.string (S x.nm),.string (S x.vs),.slice a1 x.pre.length d1,.slice a2 x.dep.length d2,.slice a3 x.rcm.length d3,.slice a4 x.con.length d4,.slice a5 x.brk.length d5,.slice a6 x.prv.length d6,.bool x.ess]
     have e8:((W6.setRow b5 #[.string (S x.nm),.string (S x.vs),.slice a1 x.pre.length d1,.slice a2 x.dep.length d2,.slice a3 x.rcm.length d3,.slice a4 x.con.length d4,.slice a5 x.brk.length d5,.slice a6 x.prv.length d6,.bool x.ess]).setRow (b5 + 1) #[.int .i64 0,.int .i64 0]).heap.size = W6.heap.size:=by simp
     have acc8:=AC.out.on hk8
     have hC8:=HC.out.on (Blk.Chg.ofBelow' hk8)
     have hb8:=HB7.out.trans (hk8.mono HB7.out.size)
     rw [e8] at c8
     obtain ⟨W8,hW8⟩:∃ W8,((W6.setRow b5 #[.string (S x.nm),.string (S x.vs),.slice a1 x.pre.length d1,.slice a2 x.dep.length d2,.slice a3 x.rcm.length d3,.slice a4 x.con.length d4,.slice a5 x.brk.length d5,.slice a6 x.prv.length d6,.bool x.ess]).setRow (b5 + 1) #[.int .i64 0,.int .i64 0]).alloc (.cells #[.string (S x.nm),.string (S x.vs),.slice a1 x.pre.length d1,.slice a2 x.dep.length d2,.slice a3 x.rcm.length d3,.slice a4 x.con.length d4,.slice a5 x.brk.length d5,.slice a6 x.prv.length d6,.bool x.ess] 31) = W8:=⟨_,rfl⟩
     rw [hW8] at c8 acc8 hC8 hb8 hk8
     have hb58:b5 ≤ W8.heap.size:=Nat.le_trans (by have:=S7.out.1; omega) hk8.size
     have HW8:=Lib.hid hW8
     have C8:=Lib.hid c8
     have AC8:=Lib.hid acc8
     have IC8:=Lib.hid hC8
     have B8:=Lib.hid hb8
     have B58:=Lib.hid hb58
     have hs8:w3.heap.size ≤ W8.heap.size:=hb8.size
     have hk7:k + 1 ≤ 70000:=by omega
     have hlx:=of_lim HFK.out HYY.out
     have hy9:each ofS (l.take (k + 1)) = .ok (ys ++ [x]) ∧ (ys ++ [x]).length = k + 1 ∧ ∀ z ∈ ys ++ [x],z.Lim:=by
      refine ⟨by rw [HT.out]; exact each_snoc _ _ _ _ HY.out.1 HYY.out,by rw [List.length_append,HY.out.2.1]; rfl,fun z hz=>?_⟩
      rcases List.mem_append.1 hz with h | h
      ·exact HY.out.2.2 z h
      ·rw [List.mem_singleton.1 h]; exact hlx
     have HY9:=Lib.hid hy9
     have own8:∃ xs,W8.ownsRow w3.heap.size 31 9 (.slice a10 k c10) k xs:=by
      have:=AC8.out.own
      rwa [HY.out.2.1] at this
     have OWN8:=Lib.hid own8
     clear hk8 c8 e8 acc8 hC8 hb8 hW8 hb58 hlx hy9 own8 AC HC HB7
     go_wp2_with (first | (at_builtin; rw [HW8.out]; refine append_at Tryz.underlying22 infoPk rfl (by decide) rfl (.tmp 41) (.tmp 43) rfl w3.heap.size (.slice a10 k c10) k rfl OWN8.out W6.heap.size 1 rfl [.string (S x.nm),.string (S x.vs),.slice a1 x.pre.length d1,.slice a2 x.dep.length d2,.slice a3 x.rcm.length d3,.slice a4 x.con.length d4,.slice a5 x.brk.length d5,.slice a6 x.prv.length d6,.bool x.ess] rfl (fun j u hj=>C8.out.at (by rw [← Array.getElem?_toList]; exact hj)) (fun u hu=>by simp only [List.mem_cons,List.not_mem_nil,or_false] at hu; rcases hu with rfl | rfl | rfl | rfl | rfl | rfl | rfl | rfl | rfl <;> rfl) hk7 hs8 ?_; intro v' w9 h2 h3 h4; have acc9:=AC8.out.more (cs:=[.string (S x.nm),.string (S x.vs),.slice a1 x.pre.length d1,.slice a2 x.dep.length d2,.slice a3 x.rcm.length d3,.slice a4 x.con.length d4,.slice a5 x.brk.length d5,.slice a6 x.prv.length d6,.bool x.ess]) rfl IC8.out B58.out HO.out S7.out.2.2.2 (by rw [HY.out.2.1]; exact h2) h3 h4; obtain ⟨a9,c9,e9⟩:=acc9.shape; rw [List.length_append,HY.out.2.1,List.length_singleton] at e9; subst e9; have hb9:=Own.below_grown B8.out (Classical.choose_spec OWN8.out) h3 hs8; have AC9:=Lib.hid acc9; have HB9:=Lib.hid hb9; clear acc9 hb9 h2 h3 h4 HW8 C8 AC8 IC8 B8 OWN8) | (refine wpList_store_row rfl 31 (.tmp 13) (.tmp 35) rfl b5 #[.string (S x.nm),.string (S x.vs),.slice a1 x.pre.length d1,.slice a2 x.dep.length d2,.slice a3 x.rcm.length d3,.slice a4 x.con.length d4,.slice a5 x.brk.length d5,.slice a6 x.prv.length d6,.bool x.ess] rfl rfl 31 #[.string ⟨#[]⟩,.string ⟨#[]⟩,.slice none 0 0,.slice none 0 0,.slice none 0 0,.slice none 0 0,.slice none 0 0,.slice none 0 0,.bool false] P6.out hn0 (by rfl) (by simp [Value.oneCell']) ?_) | (refine wpList_store_row rfl 45 (.tmp 14) (.tmp 36) rfl (b5 + 1) #[.int .i64 0,.int .i64 0] rfl rfl 45 #[.int .i64 0,.int .i64 0] Q6.out hi1 (by rfl) (by simp [Value.oneCell']) ?_) | (refine BigFrame.wpList_want rfl fun KK hKK=>wp_load_mid 31 (.tmp 13) rfl b5 0 rfl #[.string (S x.nm),.string (S x.vs),.slice a1 x.pre.length d1,.slice a2 x.dep.length d2,.slice a3 x.rcm.length d3,.slice a4 x.con.length d4,.slice a5 x.brk.length d5,.slice a6 x.prv.length d6,.bool x.ess].toList _ (range_vals P7.out) Tryz.underlying31 rfl hn0 (hKK _ _ ?_)))
     go_roundg g'
     case measure=>omega
     case rel=>exact ⟨k + 1,ys ++ [x],a9,c9,rfl,by go_num,AC9,HY9,HB9,by omega,by omega⟩
    ·have hej':(ej != 0) = true:=by simp [hej]
     have hy:ofS (line,fs) = .error (ej,nj):=by
      revert hm
      generalize ofS (line,fs) = R
      intro hm
      cases R with
      | error p=>obtain ⟨h1,h2,_⟩:=hm; rw [h1,h2]
      | ok y=>exact absurd hm.1 hej
     have hwl:Except.error (ej,nj) = whl ofS mayAll l:=by
      unfold whl
      rw [HD.out,each_fail _ _ _ _ _ HY.out.1 hy]
     have HWL:=Lib.hid hwl
     clear hwl hy hm HY HO HC AC
     go_upto_region 10 with (first | (refine wpList_store_row rfl 31 (.tmp 13) (.tmp 35) rfl b5 #[.string (S x.nm),.string (S x.vs),.slice a1 x.pre.length d1,.slice a2 x.dep.length d2,.slice a3 x.rcm.length d3,.slice a4 x.con.length d4,.slice a5 x.brk.length d5,.slice a6 x.prv.length d6,.bool x.ess] rfl rfl 31 #[.string ⟨#[]⟩,.string ⟨#[]⟩,.slice none 0 0,.slice none 0 0,.slice none 0 0,.slice none 0 0,.slice none 0 0,.slice none 0 0,.bool false] P6.out hn0 (by rfl) (by simp [Value.oneCell']) ?_) | (refine wpList_store_row rfl 45 (.tmp 14) (.tmp 36) rfl (b5 + 1) #[.int .i64 ej,.int .i64 nj] rfl rfl 45 #[.int .i64 0,.int .i64 0] Q6.out hi1 (by rfl) (by simp [Value.oneCell']) ?_))
     try simp only [Act.put]
     have hz2:=Z2.out.1
     have h77:=S7.out.2.2.1
     have hww:w.heap.size < w3.heap.size:=by have:=Z2.out.2; omega
     have hbw:=B2.out.trans (HB7.out.mono B2.out.size)
     have hS0:=Q7.out.drew
     have j2:=((Rl.is_on J1.out HB7.out)).drew
     have hbz:=Va.below_row hbw.drew (Nat.le_refl w.heap.size) #[.int .i64 ej,.int .i64 nj]
     have hr2:=j2.row #[.int .i64 ej,.int .i64 nj]
     have hS1:=hS0.rowOther (g:=w.heap.size) #[.int .i64 ej,.int .i64 nj] (by omega)
     refine wp_region_held (S:=fun u=>Blk.Is u (b5 + 1) 45 #[.int .i64 ej,.int .i64 nj]) (by kernel_rfl) ?_
     change wpAnyH _ _ _ _ _ 3 _ _ ((W6.setRow b5 #[.string (S x.nm),.string (S x.vs),.slice a1 x.pre.length d1,.slice a2 x.dep.length d2,.slice a3 x.rcm.length d3,.slice a4 x.con.length d4,.slice a5 x.brk.length d5,.slice a6 x.prv.length d6,.bool x.ess]).setRow (b5 + 1) #[.int .i64 ej,.int .i64 nj]).drew
     clear J1 HB7 B2 P6 Q6 P7 Q7 hbw y1 S7
     generalize ((W6.setRow b5 #[.string (S x.nm),.string (S x.vs),.slice a1 x.pre.length d1,.slice a2 x.dep.length d2,.slice a3 x.rcm.length d3,.slice a4 x.con.length d4,.slice a5 x.brk.length d5,.slice a6 x.prv.length d6,.bool x.ess]).setRow (b5 + 1) #[.int .i64 ej,.int .i64 nj]).drew = u0 at *
     refine wpAnyH_take (i:=0) (v:=.agg #[.int .i64 ej,.int .i64 nj]) rfl (by kernel_rfl) (by kernel_rfl) (by kernel_rfl) (fun _ _ _ h=>h) (yieldsIf_load_mid rfl 45 (.tmp 14) rfl (b5 + 1) 0 rfl [.int .i64 ej,.int .i64 nj] _ (fun w h=>range_vals h) Tryz.underlying45 rfl (by kernel_rfl)) hS0 ?_
     simp only [Act.put,List.getElem_toArray,List.getElem_cons_zero,List.getElem_cons_succ,List.setIfInBounds_toArray,List.set_cons_zero,List.set_cons_succ]
     refine wpAnyH_all (rs:=[1]) (by kernel_rfl) (by simp) ?_
     intro i hi
     obtain rfl:=List.mem_singleton.1 hi
     refine Reg.wpOp_list rfl ?_
     go_wp2_with fail
     change _ ∧ _
     refine ⟨hS0,?_⟩
     refine wpAnyH_all (rs:=[2]) (by kernel_rfl) (by simp) ?_
     intro i hi
     obtain rfl:=List.mem_singleton.1 hi
     refine Reg.wpOp_list rfl ?_
     refine wpList_store_row rfl 45 (.tmp 7) (.tmp 40) rfl w.heap.size #[.int .i64 ej,.int .i64 nj] rfl rfl 45 #[.int .i64 0,.int .i64 0] j2 hi1 (by rfl) (by simp [Value.oneCell']) ?_
     go_wp2_with fail
     change _ ∧ _
     refine ⟨hS1,?_⟩
     refine wpAnyH_done (by kernel_rfl) ?_ _
     generalize u0.setRow w.heap.size #[.int .i64 ej,.int .i64 nj] = wz at *
     have a0:=hr2.at (i:=0) rfl
     have a1:=hr2.at (i:=1) rfl
     clear hr2 hS0 hS1 j2
     go_wp2_with fail
     refine bodyPost_ret (v:=.tuple #[.slice none 0 0,.agg #[.int .i64 ej,.int .i64 nj]]) ?_ rfl ?_
     ·simp [results,Tryz.results75,go_sem,a0,a1]
     ·exact ⟨.error (ej,nj),_,_,_,⟨_,_,_,HP0.out,.inr ⟨rfl,HWL.out⟩⟩,rfl,hbz,rfl,rfl,hej,rfl⟩
   ·have hge:¬ (k:Int) < (N:Int):=by omega
    obtain rfl:k = N:=by omega
    have hall:each ofS l = .ok ys:=by
     have:=HY.out.1
     rwa [List.take_of_length_le (by rw [HN.out]; exact Nat.le_refl _)] at this
    have hyl:ys.length ≤ 200:=by rw [HY.out.2.1]; exact hN200
    have hsl:Pks wr (.slice a10 k c10) ys:=Acc.slc nPk HA.out (by omega)
    have hlz:=Z2.out
    have hbw:=B2.out.trans (HW.out.mono B2.out.size)
    have j2:=Rl.is_on J1.out HW.out
    have cm:=mayAll_any (.slice a10 k c10) ys wr hsl (fun x hx=>HY.out.2.2 x hx) (HG.out.on hbw).v
    obtain ⟨G,hG⟩:∃ G:Int,mayAll ys = G:=⟨_,rfl⟩
    rw [hG] at cm
    have HALL:=Lib.hid hall
    have HSL:=Lib.hid hsl
    have HBW:=Lib.hid hbw
    have J2:=Lib.hid j2
    have HGG:=Lib.hid hG
    have HLM:=Lib.hid HY.out.2.2
    clear hall hsl hbw j2 hG HW HST J1 Z2 B2 HFS HLO HY
    go_wp2_with fail
    refine cm.mono ?_
    rintro e w6 ⟨rfl,k6⟩
    have hbw:=HBW.out.trans (k6.mono HBW.out.size)
    have j2:=Rl.is_on J2.out k6
    have hsl:=HSL.out.below k6
    by_cases hg0:G = 0
    ·subst hg0
     have htold:Told ofS mayAll (strOfNums zs) (.ok ys):=⟨_,_,_,HP0.out,.inr ⟨rfl,by unfold whl; rw [HALL.out]; simp only [HGG.out]; rfl⟩⟩
     have hbz:=Va.below_row hbw (Nat.le_refl w.heap.size) #[.int .i64 0,.int .i64 0]
     have hr2:=j2.row #[.int .i64 0,.int .i64 0]
     have hslz:Hi w.heap.size (w6.setRow w.heap.size #[.int .i64 0,.int .i64 0]) fun u=>Pks u (.slice a10 k c10) ys:=fun u hu=>Acc.slc nPk (((HA.out.on k6).low (Nat.le_refl _) ((Blk.Chg.refl (fun j=>j < w3.heap.size) w6).setRow (g:=w.heap.size) (by show w.heap.size < w3.heap.size; omega) _)).low (Nat.le_refl _) (hu.mono fun j _ hj=>by show j < w3.heap.size; omega)) (by omega)
     have a0:=hr2.at (i:=0) rfl
     have a1:=hr2.at (i:=1) rfl
     have J6:=Lib.hid j2
     clear cm HBW J2 HSL HA hsl hbw j2 HALL HGG k6
     go_wp2_with (refine wpList_store_row rfl 45 (.tmp 7) (.tmp 54) rfl w.heap.size #[.int .i64 0,.int .i64 0] rfl rfl 45 #[.int .i64 0,.int .i64 0] J6.out hi1 (by rfl) (by simp [Value.oneCell']) ?_)
     refine bodyPost_ret (v:=.tuple #[.slice a10 k c10,.agg #[.int .i64 0,.int .i64 0]]) ?_ rfl ?_
     ·simp [results,Tryz.results75,go_sem,a0,a1]
     ·exact ⟨.ok ys,_,_,_,htold,rfl,hbz,rfl,rfl,hslz,HLM.out⟩
    ·have hg1:(G != 0) = true:=by simp [hg0]
     have htold:Told ofS mayAll (strOfNums zs) (.error (G,0)):=⟨_,_,_,HP0.out,.inr ⟨rfl,by unfold whl; rw [HALL.out]; simp only [HGG.out]; rw [if_pos hg0]⟩⟩
     have hbz:=Va.below_row hbw (Nat.le_refl w.heap.size) #[.int .i64 G,.int .i64 0]
     have hr2:=j2.row #[.int .i64 G,.int .i64 0]
     have J6:=Lib.hid j2
     have a0:=hr2.at (i:=0) rfl
     have a1:=hr2.at (i:=1) rfl
     clear cm HBW J2 HSL hsl hbw j2 HALL HGG k6
     go_wp2_with (refine wpList_store_row rfl 45 (.tmp 7) (.tmp 52) rfl w.heap.size #[.int .i64 G,.int .i64 0] rfl rfl 45 #[.int .i64 0,.int .i64 0] J6.out hi1 (by rfl) (by simp [Value.oneCell']) ?_)
     refine bodyPost_ret (v:=.tuple #[.slice none 0 0,.agg #[.int .i64 G,.int .i64 0]]) ?_ rfl ?_
     ·simp [results,Tryz.results75,go_sem,a0,a1]
     ·exact ⟨.error (G,0),_,_,_,htold,rfl,hbz,rfl,rfl,hg0,rfl⟩
 ·have her':(ei != 0) = true:=by simp [her]
  go_upto_region 3 with (first | (refine wpList_store_row rfl 45 (.tmp 9) (.tmp 20) rfl b9 #[.int .i64 ei,.int .i64 ni] rfl rfl 45 #[.int .i64 0,.int .i64 0] X2.out hi1 (by rfl) (by simp [Value.oneCell']) ?_) | fail)
  try simp only [Act.put]
  have hS0:=Y2.out.drew
  have j2:=J1.out.drew
  have hbz:=Va.below_row B2.out.drew (Nat.le_refl w.heap.size) #[.int .i64 ei,.int .i64 ni]
  have hr2:=j2.row #[.int .i64 ei,.int .i64 ni]
  have hS1:=hS0.rowOther (g:=w.heap.size) #[.int .i64 ei,.int .i64 ni] (by omega)
  refine wp_region_held (S:=fun u=>Blk.Is u (b9) 45 #[.int .i64 ei,.int .i64 ni]) (by kernel_rfl) ?_
  change wpAnyH _ _ _ _ _ 3 _ _ (W2.setRow b9 #[.int .i64 ei,.int .i64 ni]).drew
  clear J1 Y2 X2 B2
  generalize (W2.setRow b9 #[.int .i64 ei,.int .i64 ni]).drew = u0 at *
  refine wpAnyH_take (i:=0) (v:=.agg #[.int .i64 ei,.int .i64 ni]) rfl (by kernel_rfl) (by kernel_rfl) (by kernel_rfl) (fun _ _ _ h=>h) (yieldsIf_load_mid rfl 45 (.tmp 9) rfl (b9) 0 rfl [.int .i64 ei,.int .i64 ni] _ (fun w h=>range_vals h) Tryz.underlying45 rfl (by kernel_rfl)) hS0 ?_
  simp only [Act.put,List.getElem_toArray,List.getElem_cons_zero,List.getElem_cons_succ,List.setIfInBounds_toArray,List.set_cons_zero,List.set_cons_succ]
  refine wpAnyH_all (rs:=[1]) (by kernel_rfl) (by simp) ?_
  intro i hi
  obtain rfl:=List.mem_singleton.1 hi
  refine Reg.wpOp_list rfl ?_
  go_wp2_with fail
  change _ ∧ _
  refine ⟨hS0,?_⟩
  refine wpAnyH_all (rs:=[2]) (by kernel_rfl) (by simp) ?_
  intro i hi
  obtain rfl:=List.mem_singleton.1 hi
  refine Reg.wpOp_list rfl ?_
  refine wpList_store_row rfl 45 (.tmp 7) (.tmp 24) rfl w.heap.size #[.int .i64 ei,.int .i64 ni] rfl rfl 45 #[.int .i64 0,.int .i64 0] j2 hi1 (by rfl) (by simp [Value.oneCell']) ?_
  go_wp2_with fail
  change _ ∧ _
  refine ⟨hS1,?_⟩
  refine wpAnyH_done (by kernel_rfl) ?_ _
  generalize u0.setRow w.heap.size #[.int .i64 ei,.int .i64 ni] = wz at *
  have a0:=hr2.at (i:=0) rfl
  have a1:=hr2.at (i:=1) rfl
  clear hr2 hS0 hS1 j2
  go_wp2_with fail
  refine bodyPost_ret (v:=.tuple #[.slice none 0 0,.agg #[.int .i64 ei,.int .i64 ni]]) ?_ rfl ?_
  ·simp [results,Tryz.results75,go_sem,a0,a1]
  ·exact ⟨.error (ei,ni),_,_,_,⟨_,_,_,HPR.out,.inl ⟨fun h=>her (by rw [← HE.out.1,h]; rfl),by rw [HE.out.1,HE.out.2]⟩⟩,rfl,hbz,rfl,rfl,her,rfl⟩
set_option maxRecDepth 100000 in
set_option maxHeartbeats 4000000 in
theorem packages_any (a:Option Addr) (len cap:Nat) (zs:List Int) (w:World) (hr:Row w a len zs) (hG:Gl w) :
  Calls Tryz.prog 30 #[.slice a len cap] w fun e w'=>ParsedP Pks ofS mayAll (fun x=>x.Lim) (strOfNums zs) w e w':=by
 have hb0:Below w.heap.size w (w.alloc (.cells #[.int .i64 0,.int .i64 0] 45)):=(Below.refl _ _).alloc (Nat.le_refl _) _
 have i0:=Blk.Is.new w 45 #[.int .i64 0,.int .i64 0]
 have cp:=parseP_any a len cap zs _ (by exact hr.below hb0) (hG.on hb0)
 have hi1:(Tryz.prog.info? 45).map (·.size) = some 2:=by kernel_rfl
 have hs0:(w.alloc (.cells #[.int .i64 0,.int .i64 0] 45)).heap.size = w.heap.size + 1:=by simp
 have HB:=Lib.hid hb0
 have I0:=Lib.hid i0
 have S0:=Lib.hid hs0
 clear hr hG hb0 i0 hs0
 go_enter Tryz.func30,Tryz.ntmps30
 go_wp2_with fail
 refine cp.mono ?_
 rintro e w1 ⟨o,v,er,ln,ht,rfl,k1,hm⟩
 have j1:=Rl.is_on I0.out k1
 have hbz:=Va.below_row (HB.out.trans (k1.mono HB.out.size)) (Nat.le_refl w.heap.size) #[.int .i64 er,.int .i64 ln]
 have hr2:=j1.row #[.int .i64 er,.int .i64 ln]
 have hch:Blk.Chg (fun j=>j < w.heap.size + 1) w1 (w1.setRow w.heap.size #[.int .i64 er,.int .i64 ln]):=(Blk.Chg.refl _ w1).setRow (g:=w.heap.size) (by show w.heap.size < w.heap.size + 1; omega) _
 have a0:=hr2.at (i:=0) rfl
 have a1:=hr2.at (i:=1) rfl
 have J1:=Lib.hid j1
 have HCH:=Lib.hid hch
 clear cp j1 k1 hch
 go_wp2_with (refine wpList_store_row rfl 45 (.tmp 3) (.tmp 7) rfl w.heap.size #[.int .i64 er,.int .i64 ln] rfl rfl 45 #[.int .i64 0,.int .i64 0] J1.out hi1 (by rfl) (by simp [Value.oneCell']) ?_)
 refine bodyPost_ret (v:=.tuple #[v,.agg #[.int .i64 er,.int .i64 ln]]) ?_ rfl ?_
 ·simp [results,Tryz.results30,go_sem,a0,a1]
 ·refine ⟨o,v,er,ln,ht,rfl,hbz,?_⟩
  cases o with
  | error p=>exact hm
  | ok xs =>
   obtain ⟨h1,h2,h3,h4⟩:=hm
   rw [S0.out] at h3
   exact ⟨h1,h2,(h3.on HCH.out).mono (Nat.le_succ _),h4⟩
end Rc
end Go.Proofs.YthmpepnikmdjpaaGreatDoor

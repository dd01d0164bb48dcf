/-
The reference's Version: the first place of a version of a name. Same: two packages: are they the same? and the reference's Same.
-/
import Derived.Test.YtelofmeapplfpaaGreatDoorDIxFind
import Derived.Test.YtelofmeapplfpaaGreatDoorDRecMay3
import Derived.Test.YtelofmeapplfpaaGreatDoorDRelUni
import Derived.BigQuiet
namespace Go.Proofs.YtelofmeapplfpaaGreatDoor
open Go.RowKit
set_option linter.unusedSimpArgs false
set_option linter.unusedVariables false
namespace Ix
open Ver (Bs S S_li S_size sameV)
open Rl (At Pv Vars Slc mem_getD)
open Rc (Pk nPk Pks PkV Has)
def isAt (l:List Pk) (nm t:Bs) (k:Nat):Bool:=decide ((l.getD k nPk).nm = nm) && sameV (l.getD k nPk).vs t
def placeI:Option Nat → Int
 | some k=>k
 | none=>-1
theorem find_range {f:Nat → Bool} {n k:Nat} (hk:k < n) (hf:f k = true) (hn:∀ j,j < k → f j = false):(List.range n).find? f = some k :=
 find_at (k:=k) (by rw [List.getElem?_range hk]) hf fun j i' hj hi'=>by
  rw [List.getElem?_range (by omega)] at hi'
  obtain rfl:=Option.some.inj hi'
  exact hn _ hj
theorem find_range_no {f:Nat → Bool} {n:Nat} (hn:∀ j,j < n → f j = false):(List.range n).find? f = none:=by
 rw [List.find?_eq_none]
 intro i hi
 rw [hn i (List.mem_range.1 hi)]
 simp
theorem found (xs:List Pk) (nm t:Bs):(gK xs xs.length false nm).find? (fun i=>sameV (xs.getD i nPk).vs t) = (List.range xs.length).find? (isAt xs nm t):=by
 unfold gK pl
 rw [List.find?_filter]
 congr 1
 funext i
 unfold isAt ff
 rw [Bool.eq_iff_iff]
 simp
set_option maxRecDepth 100000 in
set_option maxHeartbeats 8000000 in
theorem yversion_any (v:Value) (l:List Pk) (nm t:Bs) (w:World) (h:Pks w v l) (hL:∀ x ∈ l,x.Lim) (ht:t.length ≤ 140737488351232) :
  Calls Tryz.prog 26 #[v,.string (S nm),.string (S t)] w fun e w'=>e = .returned (.int .i64 (placeI ((List.range l.length).find? (isAt l nm t)))) ∧ Below w.heap.size w w':=by
 obtain ⟨sa,cap,rfl⟩:=h.shape
 obtain ⟨R,hR⟩:∃ R,(List.range l.length).find? (isAt l nm t) = R:=⟨_,rfl⟩
 rw [hR]
 obtain ⟨N,hN⟩:∃ N,l.length = N:=⟨_,rfl⟩
 rw [hN] at hR ⊢
 have HR:=Lib.hid hR
 have HN:=Lib.hid hN
 have H:=Lib.hid h
 have HL:=Lib.hid hL
 have HT:=Lib.hid ht
 clear hR hN h hL ht
 go_enter Tryz.func26,Tryz.ntmps26
 go_wp2_with fail
 go_loopg [11] N (fun gf s11 wx=>∃ k:Nat,s11 = .int .i64 k ∧ Hid (Below w.heap.size w wx) ∧ Hid (∀ j,j < k → isAt l nm t j = false) ∧ k ≤ N ∧ N ≤ k + gf)
 case atStart=>exact ⟨0,rfl,Lib.hid (Below.refl _ _),Lib.hid (fun j hj=>absurd hj (by omega)),by omega,by omega⟩
 case round =>
  obtain ⟨k,rfl,HB,HE,hkn,hfu⟩:=hrel
  by_cases hlk:k < N
  ·obtain ⟨g',rfl⟩:∃ g',gk = g' + 1:=⟨gk - 1,by omega⟩
   have hlk':(k:Int) < (N:Int):=by omega
   have hk0:(0:Int) ≤ k:=by omega
   have hkl:k < l.length:=by rw [HN.out]; exact hlk
   obtain ⟨hl0,a',cap',e1,_,hcells⟩:=H.out.below HB.out
   rw [HN.out] at e1
   simp only [Value.slice.injEq,true_and] at e1
   obtain ⟨rfl,rfl⟩:=e1
   obtain ⟨kb,off,rfl,hcl2⟩:=hcells (by omega)
   obtain ⟨a1,n1,c1,a2,n2,c2,a3,n3,c3,a4,n4,c4,a5,n5,c5,a6,n6,c6,⟨x0,x1,x2,x3,x4,x5,x6,x7,x8⟩,hh⟩:=Rc.pk_read (hcl2 k hkl)
   rw [Nat.mul_comm 9 k] at x0 x1 x2 x3 x4 x5 x6 x7 x8
   have hlim:=HL.out _ (mem_getD (z:=nPk) hkl)
   obtain ⟨x,hx⟩:∃ x,l.getD k nPk = x:=⟨_,rfl⟩
   rw [hx] at x0 x1 x8 hh hlim
   have hq:((S x.nm).toList == (S nm).toList) = decide (x.nm = nm):=Rl.S_beq _ _
   have HIS:Hid (isAt l nm t k = (decide (x.nm = nm) && sameV x.vs t)):=by unfold isAt; rw [hx]; exact rfl
   have hb2:=(Below.refl wr.heap.size wr).alloc (Nat.le_refl _) (.cells #[.string (S x.nm),.string (S x.vs),.slice a1 n1 c1,.slice a2 n2 c2,.slice a3 n3 c3,.slice a4 n4 c4,.slice a5 n5 c5,.slice a6 n6 c6,.bool x.ess] 26)
   have i2:=Blk.Is.new wr 26 #[.string (S x.nm),.string (S x.vs),.slice a1 n1 c1,.slice a2 n2 c2,.slice a3 n3 c3,.slice a4 n4 c4,.slice a5 n5 c5,.slice a6 n6 c6,.bool x.ess]
   obtain ⟨V,hV⟩:∃ V,wr.alloc (.cells #[.string (S x.nm),.string (S x.vs),.slice a1 n1 c1,.slice a2 n2 c2,.slice a3 n3 c3,.slice a4 n4 c4,.slice a5 n5 c5,.slice a6 n6 c6,.bool x.ess] 26) = V:=⟨_,rfl⟩
   rw [hV] at hb2 i2
   have BV:=Lib.hid (HB.out.trans (hb2.mono HB.out.size))
   have c0:=i2.at (i:=0) rfl
   have c1':=i2.at (i:=1) rfl
   have cs:=Ver.ysame_any (S x.vs) (S t) V (by rw [S_size]; have:=hlim.vs; omega) (by rw [S_size]; have:=HT.out; omega)
   rw [S_li,S_li] at cs
   have hN60:N ≤ 1152921504606846976:=by rw [← HN.out]; exact hl0
   have hu:=hV
   clear hcells hcl2 hx hh hlim hkl hb2 i2 hV hl0
   cases hd:decide (x.nm = nm) with
   | false =>
    rw [hd] at hq HIS
    have HE2:Hid (∀ j,j < k + 1 → isAt l nm t j = false):=Lib.hid fun j hj=>by
     by_cases e:j = k
     ·rw [e,HIS.out]; rfl
     ·exact HE.out j (by omega)
    clear hd HE HIS cs
    go_wp2_with fail
    go_roundg g'
    case measure=>omega
    case rel=>exact ⟨k + 1,by go_num,BV,HE2,by omega,by omega⟩
   | true =>
    rw [hd] at hq HIS
    cases hw:sameV x.vs t with
    | true =>
     rw [hw] at cs HIS
     have hres:R = some k:=by
      rw [← HR.out]
      exact find_range hlk (by rw [HIS.out]; rfl) HE.out
     subst hres
     clear hd hw HE HIS HR
     go_wp2_with fail
     refine cs.mono ?_
     rintro e w2 ⟨rfl,k2⟩
     have hb:=BV.out.trans (k2.mono BV.out.size)
     clear cs
     go_wp2_with fail
     go_ret
     exact ⟨rfl,hb⟩
    | false =>
     rw [hw] at cs HIS
     have HE2:Hid (∀ j,j < k + 1 → isAt l nm t j = false):=Lib.hid fun j hj=>by
      by_cases e:j = k
      ·rw [e,HIS.out]; rfl
      ·exact HE.out j (by omega)
     clear hd hw HE HIS
     go_wp2_with fail
     refine cs.mono ?_
     rintro e w2 ⟨rfl,k2⟩
     have B2:=Lib.hid (BV.out.trans (k2.mono BV.out.size))
     clear cs k2
     go_wp2_with fail
     go_roundg g'
     case measure=>omega
     case rel=>exact ⟨k + 1,by go_num,B2,HE2,by omega,by omega⟩
  ·obtain rfl:k = N:=by omega
   have hge:¬ (k:Int) < (k:Int):=by omega
   have hres:R = none:=by rw [← HR.out]; exact find_range_no HE.out
   subst hres
   clear HE HR
   go_wp2_with fail
   go_ret
   exact ⟨rfl,HB.out⟩
end Ix
end Go.Proofs.YtelofmeapplfpaaGreatDoor
namespace Go.Proofs.YtelofmeapplfpaaGreatDoor
open Go.RowKit
set_option linter.unusedSimpArgs false
set_option linter.unusedVariables false
namespace Rc
open Ver (S)
open Rl (drewn_below)
def eqP (p q:Pk):Bool:=decide (p.nm = q.nm) && (decide (p.vs = q.vs) && (decide (p.pre = q.pre) && (decide (p.dep = q.dep) && (decide (p.rcm = q.rcm) && (decide (p.con = q.con) && (decide (p.brk = q.brk) && (decide (p.prv = q.prv) && (p.ess == q.ess))))))))
set_option maxRecDepth 100000 in
set_option maxHeartbeats 16000000 in
theorem ysame_any (v1 v2:Value) (p q:Pk) (w:World) (h1:PkV w v1 p) (h2:PkV w v2 q) :
  Calls Tryz.prog 24 #[v1,v2] w fun e w'=>e = .returned (.bool (eqP p q)) ∧ Below w.heap.size w w':=by
 obtain ⟨u1,u2,u3,u4,u5,u6,rfl,h1⟩:=h1
 obtain ⟨y1,y2,y3,y4,y5,y6,rfl,h2⟩:=h2
 have hb1:=(Below.refl w.heap.size w).alloc (Nat.le_refl _) (.cells #[.string (S p.nm),.string (S p.vs),u1,u2,u3,u4,u5,u6,.bool p.ess] 26)
 have i1:=Blk.Is.new w 26 #[.string (S p.nm),.string (S p.vs),u1,u2,u3,u4,u5,u6,.bool p.ess]
 have hb2:=hb1.alloc hb1.size (.cells #[.string (S q.nm),.string (S q.vs),y1,y2,y3,y4,y5,y6,.bool q.ess] 26)
 have i2:=Blk.Is.new (w.alloc (.cells #[.string (S p.nm),.string (S p.vs),u1,u2,u3,u4,u5,u6,.bool p.ess] 26)) 26 #[.string (S q.nm),.string (S q.vs),y1,y2,y3,y4,y5,y6,.bool q.ess]
 have i1':=i1.alloc (.cells #[.string (S q.nm),.string (S q.vs),y1,y2,y3,y4,y5,y6,.bool q.ess] 26)
 have hsz:(w.alloc (.cells #[.string (S p.nm),.string (S p.vs),u1,u2,u3,u4,u5,u6,.bool p.ess] 26)).heap.size = w.heap.size + 1:=by simp
 rw [hsz] at i2
 obtain ⟨W,hW⟩:∃ W,(w.alloc (.cells #[.string (S p.nm),.string (S p.vs),u1,u2,u3,u4,u5,u6,.bool p.ess] 26)).alloc (.cells #[.string (S q.nm),.string (S q.vs),y1,y2,y3,y4,y5,y6,.bool q.ess] 26) = W:=⟨_,rfl⟩
 rw [hW] at hb2 i1' i2
 have H1:=Lib.hid (h1.below hb2)
 have H2:=Lib.hid (h2.below hb2)
 have HB:=Lib.hid hb2
 have I1:=Lib.hid i1'
 have I2:=Lib.hid i2
 have c0:=i1'.at (i:=0) rfl
 have c1:=i1'.at (i:=1) rfl
 have d0:=i2.at (i:=0) rfl
 have d1:=i2.at (i:=1) rfl
 have c2:=i1'.at (i:=2) rfl
 have d2:=i2.at (i:=2) rfl
 have c3:=i1'.at (i:=3) rfl
 have d3:=i2.at (i:=3) rfl
 have c4:=i1'.at (i:=4) rfl
 have d4:=i2.at (i:=4) rfl
 have c5:=i1'.at (i:=5) rfl
 have d5:=i2.at (i:=5) rfl
 have c6:=i1'.at (i:=6) rfl
 have d6:=i2.at (i:=6) rfl
 have c7:=i1'.at (i:=7) rfl
 have d7:=i2.at (i:=7) rfl
 have c8:=i1'.at (i:=8) rfl
 have d8:=i2.at (i:=8) rfl
 have q0:((S p.nm).toList == (S q.nm).toList) = decide (p.nm = q.nm):=Rl.S_beq _ _
 have q1:((S p.vs).toList == (S q.vs).toList) = decide (p.vs = q.vs):=Rl.S_beq _ _
 unfold eqP
 clear hb1 i1 hb2 i1' i2 hsz h1 h2
 generalize S p.nm = A0 at *
 generalize S q.nm = B0 at *
 generalize S p.vs = A1 at *
 generalize S q.vs = B1 at *
 generalize p.ess = E at *
 generalize q.ess = F at *
 generalize decide (p.nm = q.nm) = G0 at *
 generalize decide (p.vs = q.vs) = G1 at *
 obtain ⟨G2,hG2⟩:∃ G,decide (p.pre = q.pre) = G:=⟨_,rfl⟩
 rw [hG2]
 have HG2:=Lib.hid hG2
 clear hG2
 obtain ⟨G3,hG3⟩:∃ G,decide (p.dep = q.dep) = G:=⟨_,rfl⟩
 rw [hG3]
 have HG3:=Lib.hid hG3
 clear hG3
 obtain ⟨G4,hG4⟩:∃ G,decide (p.rcm = q.rcm) = G:=⟨_,rfl⟩
 rw [hG4]
 have HG4:=Lib.hid hG4
 clear hG4
 obtain ⟨G5,hG5⟩:∃ G,decide (p.con = q.con) = G:=⟨_,rfl⟩
 rw [hG5]
 have HG5:=Lib.hid hG5
 clear hG5
 obtain ⟨G6,hG6⟩:∃ G,decide (p.brk = q.brk) = G:=⟨_,rfl⟩
 rw [hG6]
 have HG6:=Lib.hid hG6
 clear hG6
 obtain ⟨G7,hG7⟩:∃ G,decide (p.prv = q.prv) = G:=⟨_,rfl⟩
 rw [hG7]
 have HG7:=Lib.hid hG7
 clear hG7
 cases G0 with
 | false =>
  rw [Bool.false_and]
  clear c2 d2 c3 d3 c4 d4 c5 d5 c6 d6 c7 d7 H1 H2
  go_enter Tryz.func24,Tryz.ntmps24
  go_wp2_with fail
  go_ret
  exact ⟨rfl,HB.out⟩
 | true =>
  rw [Bool.true_and]
  cases G1 with
  | false =>
   rw [Bool.false_and]
   clear c2 d2 c3 d3 c4 d4 c5 d5 c6 d6 c7 d7 H1 H2
   go_enter Tryz.func24,Tryz.ntmps24
   go_wp2_with fail
   go_ret
   exact ⟨rfl,HB.out⟩
  | true =>
   rw [Bool.true_and]
   cases hE:(E == F) with
   | false =>
    simp only [Bool.and_false]
    clear c2 d2 c3 d3 c4 d4 c5 d5 c6 d6 c7 d7 H1 H2
    go_enter Tryz.func24,Tryz.ntmps24
    go_wp2_with fail
    go_ret
    exact ⟨rfl,HB.out⟩
   | true =>
    simp only [Bool.and_true]
    go_enter Tryz.func24,Tryz.ntmps24
    go_wp2_with fail
    have K:=Below.refl W.heap.size W
    have KB:=HB.out
    have ca:=Rl.sameClauses_any _ _ p.pre q.pre W (H1.out.pre.below K) (H2.out.pre.below K)
    rw [HG2.out] at ca
    refine ca.mono ?_
    rintro e w2 ⟨rfl,kq⟩
    have k1:=Rl.drewn_below kq
    have K2:=K.trans (k1.mono K.size)
    have KB2:=KB.trans (k1.mono KB.size)
    have c3':=Rl.cell_on c3 K2
    have d3':=Rl.cell_on d3 K2
    clear ca kq k1 K KB
    cases G2 with
    | false =>
     go_wp2_with fail
     go_ret
     exact ⟨rfl,KB2⟩
    | true =>
     go_wp2_with fail
     have K:=K2
     have KB:=KB2
     clear K2 KB2
     have ca:=Rl.sameClauses_any _ _ p.dep q.dep w2 (H1.out.dep.below K) (H2.out.dep.below K)
     rw [HG3.out] at ca
     refine ca.mono ?_
     rintro e w3 ⟨rfl,kq⟩
     have k1:=Rl.drewn_below kq
     have K2:=K.trans (k1.mono K.size)
     have KB2:=KB.trans (k1.mono KB.size)
     have c4':=Rl.cell_on c4 K2
     have d4':=Rl.cell_on d4 K2
     clear ca kq k1 K KB
     cases G3 with
     | false =>
      go_wp2_with fail
      go_ret
      exact ⟨rfl,KB2⟩
     | true =>
      go_wp2_with fail
      have K:=K2
      have KB:=KB2
      clear K2 KB2
      have ca:=Rl.sameClauses_any _ _ p.rcm q.rcm w3 (H1.out.rcm.below K) (H2.out.rcm.below K)
      rw [HG4.out] at ca
      refine ca.mono ?_
      rintro e w4 ⟨rfl,kq⟩
      have k1:=Rl.drewn_below kq
      have K2:=K.trans (k1.mono K.size)
      have KB2:=KB.trans (k1.mono KB.size)
      have c5':=Rl.cell_on c5 K2
      have d5':=Rl.cell_on d5 K2
      clear ca kq k1 K KB
      cases G4 with
      | false =>
       go_wp2_with fail
       go_ret
       exact ⟨rfl,KB2⟩
      | true =>
       go_wp2_with fail
       have K:=K2
       have KB:=KB2
       clear K2 KB2
       have ca:=Rl.sameAtoms_any _ _ p.con q.con w4 (H1.out.con.below K) (H2.out.con.below K)
       rw [HG5.out] at ca
       refine ca.mono ?_
       rintro e w5 ⟨rfl,kq⟩
       have k1:=Rl.drewn_below kq
       have K2:=K.trans (k1.mono K.size)
       have KB2:=KB.trans (k1.mono KB.size)
       have c6':=Rl.cell_on c6 K2
       have d6':=Rl.cell_on d6 K2
       clear ca kq k1 K KB
       cases G5 with
       | false =>
        go_wp2_with fail
        go_ret
        exact ⟨rfl,KB2⟩
       | true =>
        go_wp2_with fail
        have K:=K2
        have KB:=KB2
        clear K2 KB2
        have ca:=Rl.sameAtoms_any _ _ p.brk q.brk w5 (H1.out.brk.below K) (H2.out.brk.below K)
        rw [HG6.out] at ca
        refine ca.mono ?_
        rintro e w6 ⟨rfl,kq⟩
        have k1:=Rl.drewn_below kq
        have K2:=K.trans (k1.mono K.size)
        have KB2:=KB.trans (k1.mono KB.size)
        have c7':=Rl.cell_on c7 K2
        have d7':=Rl.cell_on d7 K2
        clear ca kq k1 K KB
        cases G6 with
        | false =>
         go_wp2_with fail
         go_ret
         exact ⟨rfl,KB2⟩
        | true =>
         go_wp2_with fail
         have K:=K2
         have KB:=KB2
         clear K2 KB2
         have ca:=Rl.sameProvides_any _ _ p.prv q.prv w6 (H1.out.prv.below K) (H2.out.prv.below K)
         rw [HG7.out] at ca
         refine ca.mono ?_
         rintro e w7 ⟨rfl,kq⟩
         have k1:=Rl.drewn_below kq
         have K2:=K.trans (k1.mono K.size)
         have KB2:=KB.trans (k1.mono KB.size)
         clear ca kq k1 K KB
         go_wp2_with fail
         go_ret
         exact ⟨rfl,KB2⟩
end Rc
end Go.Proofs.YtelofmeapplfpaaGreatDoor

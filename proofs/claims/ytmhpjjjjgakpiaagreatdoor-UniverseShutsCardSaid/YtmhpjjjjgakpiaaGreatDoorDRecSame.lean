/-
Same: two packages: are they the same? and the reference's Same.
-/
import Derived.Test.YtmhpjjjjgakpiaaGreatDoorDTextTexts
import Derived.Test.YtmhpjjjjgakpiaaGreatDoorDRelUni
import Derived.BigQuiet
namespace Go.Proofs.YtmhpjjjjgakpiaaGreatDoor
open Go.RowKit
set_option linter.unusedSimpArgs false
set_option linter.unusedVariables false
namespace Rc
open Ver (S)
open Rl (At Pv Ats Pvs Clss nA nP aV pV neA neP guardA guardP same_all drewn_below drewn_more)
def eqP (p q:Pk):Bool:=decide (p.nm = q.nm) && (decide (p.vs = q.vs) && (decide (p.pre = q.pre) && (decide (p.dep = q.dep) && (decide (p.rcm = q.rcm) && (decide (p.con = q.con) && (decide (p.brk = q.brk) && (decide (p.prv = q.prv) && (p.ess == q.ess))))))))
theorem eqP_iff (p q:Pk):eqP p q = true ↔ p = q:=by
 unfold eqP
 obtain ⟨⟩:=p
 obtain ⟨⟩:=q
 simp [Pk.mk.injEq]
set_option maxRecDepth 100000 in
set_option maxHeartbeats 16000000 in
theorem ysame_any (v1 v2:Value) (p q:Pk) (w:World) (h1:PkV w v1 p) (h2:PkV w v2 q) :
  Calls Tryz.prog 15 #[v1,v2] w fun e w'=>e = .returned (.bool (eqP p q)) ∧ Below w.heap.size w w':=by
 obtain ⟨u1,u2,u3,u4,u5,u6,rfl,h1⟩:=h1
 obtain ⟨y1,y2,y3,y4,y5,y6,rfl,h2⟩:=h2
 have hb1:=(Below.refl w.heap.size w).alloc (Nat.le_refl _) (.cells #[.string (S p.nm),.string (S p.vs),u1,u2,u3,u4,u5,u6,.bool p.ess] 40)
 have i1:=Blk.Is.new w 40 #[.string (S p.nm),.string (S p.vs),u1,u2,u3,u4,u5,u6,.bool p.ess]
 have hb2:=hb1.alloc hb1.size (.cells #[.string (S q.nm),.string (S q.vs),y1,y2,y3,y4,y5,y6,.bool q.ess] 40)
 have i2:=Blk.Is.new (w.alloc (.cells #[.string (S p.nm),.string (S p.vs),u1,u2,u3,u4,u5,u6,.bool p.ess] 40)) 40 #[.string (S q.nm),.string (S q.vs),y1,y2,y3,y4,y5,y6,.bool q.ess]
 have i1':=i1.alloc (.cells #[.string (S q.nm),.string (S q.vs),y1,y2,y3,y4,y5,y6,.bool q.ess] 40)
 have hsz:(w.alloc (.cells #[.string (S p.nm),.string (S p.vs),u1,u2,u3,u4,u5,u6,.bool p.ess] 40)).heap.size = w.heap.size + 1:=by simp
 rw [hsz] at i2
 obtain ⟨W,hW⟩:∃ W,(w.alloc (.cells #[.string (S p.nm),.string (S p.vs),u1,u2,u3,u4,u5,u6,.bool p.ess] 40)).alloc (.cells #[.string (S q.nm),.string (S q.vs),y1,y2,y3,y4,y5,y6,.bool q.ess] 40) = W:=⟨_,rfl⟩
 rw [hW] at hb2 i1' i2
 have H1:=Lib.hid (h1.below hb2)
 have H2:=Lib.hid (h2.below hb2)
 have HB:=Lib.hid hb2
 have I1:=Lib.hid i1'
 have I2:=Lib.hid i2
 have c0:=i1'.at (i:=0) rfl
 have c1:=i1'.at (i:=1) rfl
 have d0:=i2.at (i:=0) rfl
 have d1:=i2.at (i:=1) rfl
 have c2:=i1'.at (i:=2) rfl
 have d2:=i2.at (i:=2) rfl
 have c3:=i1'.at (i:=3) rfl
 have d3:=i2.at (i:=3) rfl
 have c4:=i1'.at (i:=4) rfl
 have d4:=i2.at (i:=4) rfl
 have c5:=i1'.at (i:=5) rfl
 have d5:=i2.at (i:=5) rfl
 have c6:=i1'.at (i:=6) rfl
 have d6:=i2.at (i:=6) rfl
 have c7:=i1'.at (i:=7) rfl
 have d7:=i2.at (i:=7) rfl
 have c8:=i1'.at (i:=8) rfl
 have d8:=i2.at (i:=8) rfl
 have q0:((S p.nm).toList == (S q.nm).toList) = decide (p.nm = q.nm):=Rl.S_beq _ _
 have q1:((S p.vs).toList == (S q.vs).toList) = decide (p.vs = q.vs):=Rl.S_beq _ _
 unfold eqP
 clear hb1 i1 hb2 i1' i2 hsz h1 h2
 generalize S p.nm = A0 at *
 generalize S q.nm = B0 at *
 generalize S p.vs = A1 at *
 generalize S q.vs = B1 at *
 generalize p.ess = E at *
 generalize q.ess = F at *
 generalize decide (p.nm = q.nm) = G0 at *
 generalize decide (p.vs = q.vs) = G1 at *
 obtain ⟨G2,hG2⟩:∃ G,decide (p.pre = q.pre) = G:=⟨_,rfl⟩
 rw [hG2]
 have HG2:=Lib.hid hG2
 clear hG2
 obtain ⟨G3,hG3⟩:∃ G,decide (p.dep = q.dep) = G:=⟨_,rfl⟩
 rw [hG3]
 have HG3:=Lib.hid hG3
 clear hG3
 obtain ⟨G4,hG4⟩:∃ G,decide (p.rcm = q.rcm) = G:=⟨_,rfl⟩
 rw [hG4]
 have HG4:=Lib.hid hG4
 clear hG4
 obtain ⟨G5,hG5⟩:∃ G,decide (p.con = q.con) = G:=⟨_,rfl⟩
 rw [hG5]
 have HG5:=Lib.hid hG5
 clear hG5
 obtain ⟨G6,hG6⟩:∃ G,decide (p.brk = q.brk) = G:=⟨_,rfl⟩
 rw [hG6]
 have HG6:=Lib.hid hG6
 clear hG6
 obtain ⟨G7,hG7⟩:∃ G,decide (p.prv = q.prv) = G:=⟨_,rfl⟩
 rw [hG7]
 have HG7:=Lib.hid hG7
 clear hG7
 cases G0 with
 | false =>
  rw [Bool.false_and]
  clear c2 d2 c3 d3 c4 d4 c5 d5 c6 d6 c7 d7 H1 H2
  go_enter Tryz.func15,Tryz.ntmps15
  go_wp2_with fail
  go_ret
  exact ⟨rfl,HB.out⟩
 | true =>
  rw [Bool.true_and]
  cases G1 with
  | false =>
   rw [Bool.false_and]
   clear c2 d2 c3 d3 c4 d4 c5 d5 c6 d6 c7 d7 H1 H2
   go_enter Tryz.func15,Tryz.ntmps15
   go_wp2_with fail
   go_ret
   exact ⟨rfl,HB.out⟩
  | true =>
   rw [Bool.true_and]
   cases hE:(E == F) with
   | false =>
    simp only [Bool.and_false]
    clear c2 d2 c3 d3 c4 d4 c5 d5 c6 d6 c7 d7 H1 H2
    go_enter Tryz.func15,Tryz.ntmps15
    go_wp2_with fail
    go_ret
    exact ⟨rfl,HB.out⟩
   | true =>
    simp only [Bool.and_true]
    go_enter Tryz.func15,Tryz.ntmps15
    go_wp2_with fail
    have K:=Below.refl W.heap.size W
    have KB:=HB.out
    have ca:=Rl.sameClauses_any _ _ p.pre q.pre W (H1.out.pre.below K) (H2.out.pre.below K)
    rw [HG2.out] at ca
    refine ca.mono ?_
    rintro e w2 ⟨rfl,kq⟩
    have k1:=Rl.drewn_below kq
    have K2:=K.trans (k1.mono K.size)
    have KB2:=KB.trans (k1.mono KB.size)
    have c3':=Rl.cell_on c3 K2
    have d3':=Rl.cell_on d3 K2
    clear ca kq k1 K KB
    cases G2 with
    | false =>
     go_wp2_with fail
     go_ret
     exact ⟨rfl,KB2⟩
    | true =>
     go_wp2_with fail
     have K:=K2
     have KB:=KB2
     clear K2 KB2
     have ca:=Rl.sameClauses_any _ _ p.dep q.dep w2 (H1.out.dep.below K) (H2.out.dep.below K)
     rw [HG3.out] at ca
     refine ca.mono ?_
     rintro e w3 ⟨rfl,kq⟩
     have k1:=Rl.drewn_below kq
     have K2:=K.trans (k1.mono K.size)
     have KB2:=KB.trans (k1.mono KB.size)
     have c4':=Rl.cell_on c4 K2
     have d4':=Rl.cell_on d4 K2
     clear ca kq k1 K KB
     cases G3 with
     | false =>
      go_wp2_with fail
      go_ret
      exact ⟨rfl,KB2⟩
     | true =>
      go_wp2_with fail
      have K:=K2
      have KB:=KB2
      clear K2 KB2
      have ca:=Rl.sameClauses_any _ _ p.rcm q.rcm w3 (H1.out.rcm.below K) (H2.out.rcm.below K)
      rw [HG4.out] at ca
      refine ca.mono ?_
      rintro e w4 ⟨rfl,kq⟩
      have k1:=Rl.drewn_below kq
      have K2:=K.trans (k1.mono K.size)
      have KB2:=KB.trans (k1.mono KB.size)
      have c5':=Rl.cell_on c5 K2
      have d5':=Rl.cell_on d5 K2
      clear ca kq k1 K KB
      cases G4 with
      | false =>
       go_wp2_with fail
       go_ret
       exact ⟨rfl,KB2⟩
      | true =>
       go_wp2_with fail
       have K:=K2
       have KB:=KB2
       clear K2 KB2
       have ca:=Rl.sameAtoms_any _ _ p.con q.con w4 (H1.out.con.below K) (H2.out.con.below K)
       rw [HG5.out] at ca
       refine ca.mono ?_
       rintro e w5 ⟨rfl,kq⟩
       have k1:=Rl.drewn_below kq
       have K2:=K.trans (k1.mono K.size)
       have KB2:=KB.trans (k1.mono KB.size)
       have c6':=Rl.cell_on c6 K2
       have d6':=Rl.cell_on d6 K2
       clear ca kq k1 K KB
       cases G5 with
       | false =>
        go_wp2_with fail
        go_ret
        exact ⟨rfl,KB2⟩
       | true =>
        go_wp2_with fail
        have K:=K2
        have KB:=KB2
        clear K2 KB2
        have ca:=Rl.sameAtoms_any _ _ p.brk q.brk w5 (H1.out.brk.below K) (H2.out.brk.below K)
        rw [HG6.out] at ca
        refine ca.mono ?_
        rintro e w6 ⟨rfl,kq⟩
        have k1:=Rl.drewn_below kq
        have K2:=K.trans (k1.mono K.size)
        have KB2:=KB.trans (k1.mono KB.size)
        have c7':=Rl.cell_on c7 K2
        have d7':=Rl.cell_on d7 K2
        clear ca kq k1 K KB
        cases G6 with
        | false =>
         go_wp2_with fail
         go_ret
         exact ⟨rfl,KB2⟩
        | true =>
         go_wp2_with fail
         have K:=K2
         have KB:=KB2
         clear K2 KB2
         have ca:=Rl.sameProvides_any _ _ p.prv q.prv w6 (H1.out.prv.below K) (H2.out.prv.below K)
         rw [HG7.out] at ca
         refine ca.mono ?_
         rintro e w7 ⟨rfl,kq⟩
         have k1:=Rl.drewn_below kq
         have K2:=K.trans (k1.mono K.size)
         have KB2:=KB.trans (k1.mono KB.size)
         clear ca kq k1 K KB
         go_wp2_with fail
         go_ret
         exact ⟨rfl,KB2⟩
end Rc
end Go.Proofs.YtmhpjjjjgakpiaaGreatDoor

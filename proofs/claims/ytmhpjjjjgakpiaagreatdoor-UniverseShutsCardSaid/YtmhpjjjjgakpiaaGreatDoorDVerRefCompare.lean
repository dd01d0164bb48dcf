/-
The reference's Compare, Is, SameVersion, Holds.
-/
import Derived.Test.YtmhpjjjjgakpiaaGreatDoorDVerRefVersion
import Derived.Test.YtmhpjjjjgakpiaaGreatDoorDVerRefK
import Derived.Test.YtmhpjjjjgakpiaaGreatDoorDVerRefParse
import Derived.LoopN
namespace Go.Proofs.YtmhpjjjjgakpiaaGreatDoor
open Go.RowKit
set_option linter.unusedSimpArgs false
set_option linter.unusedVariables false
namespace Ver
theorem index_pair (cs:Array Value) (j:Nat) (hj:j < 3) (w:World):(Instr.index 122 (.agg cs) (.int .i64 j)).run Tryz.prog w = .ok (.agg (cs.extract (j * 2) (j * 2 + 2))) w:=by
 have h1:Tryz.prog.underlying 122 = some (.array 3 121):=by kernel_rfl
 have h2:Tryz.prog.underlying 121 = some (.array 2 9):=by kernel_rfl
 have hi:(Tryz.prog.info? 121).map (·.size) = some 2:=by kernel_rfl
 have hsz:∀ w,(sizeOf 121).run Tryz.prog w = .ok 2 w:=fun w=>by
  cases hq:Tryz.prog.info? 121 with
  | none=>simp [hq] at hi
  | some i =>
   have:i.size = 2:=by simpa [hq] using hi
   simp [sizeOf,typeInfo,hq,this]
 have hj':(0:Int) ≤ j ∧ (j:Int) < (3:Nat):=by omega
 have ha:∀ w,(isAgg 121).run Tryz.prog w = .ok true w:=fun w=>by
  unfold isAgg
  simp only [Sem.run_bind,run_underlying h2,Result.andThen_ok,Sem.run_pure]
 simp only [Instr.index,asIntOf,Sem.run_bind,Sem.run_pure,Result.andThen_ok,run_underlying h1,hj',and_self,if_true,hsz,Int.toNat_natCast,Go.part,ha]
set_option maxRecDepth 100000 in
set_option maxHeartbeats 4000000 in
theorem ycompare_any (s t:ByteArray) (w:World) (hs:s.size ≤ 4611686018427387904) (ht:t.size ≤ 4611686018427387904) :
  Calls Tryz.prog 47 #[.string s,.string t] w fun e w'=>e = .returned (.int .i64 (cmpV (li s) (li t))) ∧ Below w.heap.size w w':=by
 have c1:=yversion_any s w hs
 have c2:=fun w=>yversion_any t w ht
 unfold cmpV
 cases hp:parse (li s) with
 | none =>
  rw [hp] at c1
  unfold ytold at c1
  simp only at c1
  show Calls _ _ _ _ fun e w'=>e = .returned (.int .i64 0) ∧ _
  cases hq:parse (li t) with
  | none =>
   rw [hq] at c2
   unfold ytold at c2
   simp only at c2
   clear hp hq
   go_enter Tryz.func47,Tryz.ntmps47
   go_wp2_with fail
   refine c1.mono ?_
   rintro e w1 ⟨rfl,k1⟩
   go_wp2_with fail
   refine (c2 _).mono ?_
   rintro e w2 ⟨rfl,k2⟩
   go_wp2_with fail
   go_ret
   exact ⟨rfl,k1.trans (k2.mono k1.size)⟩
  | some q =>
   rw [hq] at c2
   unfold ytold at c2
   simp only at c2
   generalize S q.1 = x at *
   generalize S q.2.1 = y at *
   generalize S q.2.2 = z at *
   clear hp hq
   go_enter Tryz.func47,Tryz.ntmps47
   go_wp2_with fail
   refine c1.mono ?_
   rintro e w1 ⟨rfl,k1⟩
   go_wp2_with fail
   refine (c2 _).mono ?_
   rintro e w2 ⟨rfl,k2⟩
   go_wp2_with fail
   go_ret
   exact ⟨rfl,k1.trans (k2.mono k1.size)⟩
 | some p =>
  rw [hp] at c1
  unfold ytold at c1
  simp only at c1
  cases hq:parse (li t) with
  | none =>
   show Calls _ _ _ _ fun e w'=>e = .returned (.int .i64 0) ∧ _
   rw [hq] at c2
   unfold ytold at c2
   simp only at c2
   generalize S p.1 = x at *
   generalize S p.2.1 = y at *
   generalize S p.2.2 = z at *
   clear hp hq
   go_enter Tryz.func47,Tryz.ntmps47
   go_wp2_with fail
   refine c1.mono ?_
   rintro e w1 ⟨rfl,k1⟩
   go_wp2_with fail
   refine (c2 _).mono ?_
   rintro e w2 ⟨rfl,k2⟩
   go_wp2_with fail
   go_ret
   exact ⟨rfl,k1.trans (k2.mono k1.size)⟩
  | some q =>
   show Calls _ _ _ _ fun e w'=>e = .returned (.int .i64 (orr (part p.1 q.1) (orr (part p.2.1 q.2.1) (part p.2.2 q.2.2)))) ∧ _
   rw [hq] at c2
   unfold ytold at c2
   simp only at c2
   obtain ⟨_,p1,p2,p3,p4⟩:=parse_some hp
   obtain ⟨_,q1,q2,q3,q4⟩:=parse_some hq
   have c3:=fun w=>ypart_any (S p.1) (S q.1) w (by rw [S_size]; omega) (by rw [S_size]; omega)
   rw [S_li,S_li] at c3
   have c4:=fun w=>ypart_any (S p.2.1) (S q.2.1) w (by rw [S_size]; omega) (by rw [S_size]; omega)
   rw [S_li,S_li] at c4
   have c5:=fun w=>ypart_any (S p.2.2) (S q.2.2) w (by rw [S_size]; omega) (by rw [S_size]; omega)
   rw [S_li,S_li] at c5
   clear hp hq p1 p2 p3 p4 q1 q2 q3 q4
   generalize part p.1 q.1 = m1 at *
   generalize part p.2.1 q.2.1 = m2 at *
   generalize part p.2.2 q.2.2 = m3 at *
   generalize S p.1 = x at *
   generalize S p.2.1 = y at *
   generalize S p.2.2 = z at *
   generalize S q.1 = x2 at *
   generalize S q.2.1 = y2 at *
   generalize S q.2.2 = z2 at *
   obtain ⟨G,hG⟩:∃ G,orr m1 (orr m2 m3) = G:=⟨_,rfl⟩
   have HG:=Lib.hid hG
   rw [hG]
   clear hG
   go_enter Tryz.func47,Tryz.ntmps47
   go_wp2_with fail
   refine c1.mono ?_
   rintro e w1 ⟨rfl,k1⟩
   go_wp2_with fail
   refine (c2 _).mono ?_
   rintro e w2 ⟨rfl,k2⟩
   have k2':=k1.trans (k2.mono k1.size)
   clear c1 c2 k2
   go_wp2_with fail
   refine wp_loop_rounds 4 ?_
   have i0:∀ w,(Instr.index 122 (.agg #[.string x,.string x2,.string y,.string y2,.string z,.string z2]) (.int .i64 0)).run Tryz.prog w = .ok (.agg #[.string x,.string x2]) w:=fun w=>index_pair _ 0 (by omega) w
   have i1:∀ w,(Instr.index 122 (.agg #[.string x,.string x2,.string y,.string y2,.string z,.string z2]) (.int .i64 1)).run Tryz.prog w = .ok (.agg #[.string y,.string y2]) w:=fun w=>index_pair _ 1 (by omega) w
   have i2:∀ w,(Instr.index 122 (.agg #[.string x,.string x2,.string y,.string y2,.string z,.string z2]) (.int .i64 2)).run Tryz.prog w = .ok (.agg #[.string z,.string z2]) w:=fun w=>index_pair _ 2 (by omega) w
   rw [rounds_succ]
   go_wp2_with fail
   refine (c3 _).mono ?_
   rintro e w3 ⟨rfl,k⟩
   have k3:=k2'.trans ((((Below.refl w2.heap.size w2).alloc (Nat.le_refl _) _).trans (k.mono (by simp))).mono k2'.size)
   clear k c3 i0
   by_cases h1:m1 = 0
   ·have HG2:=Lib.hid (orr_of_zero HG.out h1)
    subst h1
    clear HG
    go_wp2_with fail
    rw [rounds_succ]
    go_wp2_with fail
    refine (c4 _).mono ?_
    rintro e w4 ⟨rfl,k⟩
    have k4:=k3.trans ((((Below.refl w3.heap.size w3).alloc (Nat.le_refl _) _).trans (k.mono (by simp))).mono k3.size)
    clear k c4 i1
    by_cases h2:m2 = 0
    ·have HG3:=Lib.hid (orr_of_zero HG2.out h2)
     subst h2
     clear HG2
     go_wp2_with fail
     rw [rounds_succ]
     go_wp2_with fail
     refine (c5 _).mono ?_
     rintro e w5 ⟨rfl,k⟩
     have k5:=k4.trans ((((Below.refl w4.heap.size w4).alloc (Nat.le_refl _) _).trans (k.mono (by simp))).mono k4.size)
     obtain rfl:=HG3.out
     clear k c5 i2 HG3
     by_cases h3:m3 = 0
     ·subst h3
      go_wp2_with fail
      rw [rounds_succ]
      go_wp2_with fail
      go_ret
      exact ⟨rfl,k5⟩
     ·have h3':(m3 == 0) = false:=by simp; exact h3
      go_wp2_with fail
      go_ret
      exact ⟨rfl,k5⟩
    ·have h2':(m2 == 0) = false:=by simp; exact h2
     obtain rfl:=orr_of_ne HG2.out h2
     clear HG2
     go_wp2_with fail
     go_ret
     exact ⟨rfl,k4⟩
   ·have h1':(m1 == 0) = false:=by simp; exact h1
    obtain rfl:=orr_of_ne HG.out h1
    clear HG
    go_wp2_with fail
    go_ret
    exact ⟨rfl,k3⟩
theorem yis_any (s:ByteArray) (w:World) (hs:s.size ≤ 4611686018427387904) :
  Calls Tryz.prog 46 #[.string s] w fun e w'=>e = .returned (.bool (parse (li s)).isSome) ∧ Below w.heap.size w w':=by
 have c:=yversion_any s w hs
 cases hp:parse (li s) with
 | none =>
  rw [hp] at c
  unfold ytold at c
  clear hp
  go_enter Tryz.func46,Tryz.ntmps46
  go_wp2_with fail
  refine c.mono ?_
  rintro e w1 ⟨rfl,k1⟩
  go_wp2_with fail
  go_ret
  exact ⟨rfl,k1⟩
 | some p =>
  rw [hp] at c
  unfold ytold at c
  clear hp
  simp only at c
  generalize S p.1 = x at *
  generalize S p.2.1 = y at *
  generalize S p.2.2 = z at *
  go_enter Tryz.func46,Tryz.ntmps46
  go_wp2_with fail
  refine c.mono ?_
  rintro e w1 ⟨rfl,k1⟩
  go_wp2_with fail
  go_ret
  exact ⟨rfl,k1⟩
set_option maxRecDepth 100000 in
theorem ysame_any (s t:ByteArray) (w:World) (hs:s.size ≤ 4611686018427387904) (ht:t.size ≤ 4611686018427387904) :
  Calls Tryz.prog 26 #[.string s,.string t] w fun e w'=>e = .returned (.bool (sameV (li s) (li t))) ∧ Below w.heap.size w w':=by
 have c1:=yis_any s w hs
 have c2:=fun w=>yis_any t w ht
 have c3:=fun w=>ycompare_any s t w hs ht
 unfold sameV
 generalize cmpV (li s) (li t) = m at *
 cases h1:(parse (li s)).isSome
 ·rw [h1] at c1
  rw [Bool.false_and,Bool.false_and]
  clear h1
  go_enter Tryz.func26,Tryz.ntmps26
  go_wp2_with fail
  refine c1.mono ?_
  rintro e w1 ⟨rfl,k1⟩
  go_wp2_with fail
  go_ret
  exact ⟨rfl,k1⟩
 ·rw [h1] at c1
  rw [Bool.true_and]
  cases h2:(parse (li t)).isSome
  ·rw [h2] at c2
   rw [Bool.false_and]
   clear h1 h2
   go_enter Tryz.func26,Tryz.ntmps26
   go_wp2_with fail
   refine c1.mono ?_
   rintro e w1 ⟨rfl,k1⟩
   go_wp2_with fail
   refine (c2 _).mono ?_
   rintro e w2 ⟨rfl,k2⟩
   go_wp2_with fail
   go_ret
   exact ⟨rfl,k1.trans (k2.mono k1.size)⟩
  ·rw [h2] at c2
   rw [Bool.true_and]
   clear h1 h2
   go_enter Tryz.func26,Tryz.ntmps26
   go_wp2_with fail
   refine c1.mono ?_
   rintro e w1 ⟨rfl,k1⟩
   go_wp2_with fail
   refine (c2 _).mono ?_
   rintro e w2 ⟨rfl,k2⟩
   have k2':=k1.trans (k2.mono k1.size)
   clear c1 c2 k2
   go_wp2_with fail
   refine (c3 _).mono ?_
   rintro e w3 ⟨rfl,k3⟩
   go_wp2_with fail
   go_ret
   refine ⟨?_,k2'.trans (k3.mono k2'.size)⟩
   first | rfl | (congr 2; rw [Bool.eq_iff_iff]; simp)
set_option maxRecDepth 100000 in
set_option maxHeartbeats 2000000 in
theorem yholds_any (rel:Int) (s t:ByteArray) (w:World) (hs:s.size ≤ 4611686018427387904) (ht:t.size ≤ 4611686018427387904) :
  Calls Tryz.prog 51 #[.int .i64 rel,.string s,.string t] w fun e w'=>e = .returned (.bool (holdsV rel (li s) (li t))) ∧ Below w.heap.size w w':=by
 have c1:=yis_any s w hs
 have c2:=fun w=>yis_any t w ht
 have c3:=fun w=>ycompare_any s t w hs ht
 unfold holdsV
 generalize cmpV (li s) (li t) = m at *
 generalize (parse (li s)).isSome = g1 at *
 generalize (parse (li t)).isSome = g2 at *
 by_cases hr:rel = 0
 ·subst hr
  rw [if_pos rfl]
  go_enter Tryz.func51,Tryz.ntmps51
  go_wp2_with fail
  refine c1.mono ?_
  rintro e w1 ⟨rfl,k1⟩
  go_wp2_with fail
  go_ret
  exact ⟨rfl,k1⟩
 ·rw [if_neg hr]
  cases g1
  ·rw [Bool.false_and,Bool.false_and]
   go_enter Tryz.func51,Tryz.ntmps51
   go_wp2_with fail
   refine c1.mono ?_
   rintro e w1 ⟨rfl,k1⟩
   go_wp2_with fail
   go_ret
   exact ⟨rfl,k1⟩
  ·rw [Bool.true_and]
   cases g2
   ·rw [Bool.false_and]
    go_enter Tryz.func51,Tryz.ntmps51
    go_wp2_with fail
    refine c1.mono ?_
    rintro e w1 ⟨rfl,k1⟩
    go_wp2_with fail
    refine (c2 _).mono ?_
    rintro e w2 ⟨rfl,k2⟩
    go_wp2_with fail
    go_ret
    exact ⟨rfl,k1.trans (k2.mono k1.size)⟩
   ·rw [Bool.true_and]
    have hcase:rel = 1 ∨ rel = 2 ∨ rel = 3 ∨ rel = 4 ∨ rel = 5 ∨ (rel ≠ 1 ∧ rel ≠ 2 ∧ rel ≠ 3 ∧ rel ≠ 4 ∧ rel ≠ 5):=by omega
    rcases hcase with rfl | rfl | rfl | rfl | rfl | ⟨h1,h2,h3,h4,h5⟩
    rotate_right
    ·rw [if_neg h1,if_neg h2,if_neg h3,if_neg h4,if_neg h5]
     go_enter Tryz.func51,Tryz.ntmps51
     go_wp2_with fail
     refine c1.mono ?_
     rintro e w1 ⟨rfl,k1⟩
     go_wp2_with fail
     refine (c2 _).mono ?_
     rintro e w2 ⟨rfl,k2⟩
     have k2':=k1.trans (k2.mono k1.size)
     clear c1 c2 k2
     go_wp2_with fail
     refine (c3 _).mono ?_
     rintro e w3 ⟨rfl,k3⟩
     go_wp2_with fail
     go_ret
     exact ⟨rfl,k2'.trans (k3.mono k2'.size)⟩
    all_goals
     go_enter Tryz.func51,Tryz.ntmps51
     go_wp2_with fail
     refine c1.mono ?_
     rintro e w1 ⟨rfl,k1⟩
     go_wp2_with fail
     refine (c2 _).mono ?_
     rintro e w2 ⟨rfl,k2⟩
     have k2':=k1.trans (k2.mono k1.size)
     clear c1 c2 k2
     go_wp2_with fail
     refine (c3 _).mono ?_
     rintro e w3 ⟨rfl,k3⟩
     go_wp2_with fail
     go_ret
     refine ⟨?_,k2'.trans (k3.mono k2'.size)⟩
     first | rfl | (congr 2; rw [Bool.eq_iff_iff]; simp)
end Ver
end Go.Proofs.YtmhpjjjjgakpiaaGreatDoor

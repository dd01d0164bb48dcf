/-
Compare, Same, Holds. The versions that every program must know; Compare is an order. Sign and Rel, their reference, and the walk of the law VersionSigns. What may be an atom; how an atom is written. The reference's Version: a version's parts, or that it is none.
-/
import Derived.Test.YtmhpjjjjgakpiaaGreatDoorDVerParse2
import Derived.LoopN
import Derived.Test.YtmhpjjjjgakpiaaGreatDoorDRelRead
namespace Go.Proofs.YtmhpjjjjgakpiaaGreatDoor
open Go.RowKit
set_option linter.unusedSimpArgs false
set_option linter.unusedVariables false
namespace Ver
theorem parse_some {l:Bs} {p:Bs × Bs × Bs} (h:parse l = some p):l.length ≤ 48 ∧ p.1.length ≤ 9 ∧ (∀ c ∈ p.1,dig c = true) ∧ p.2.1.length ≤ 48 ∧ p.2.2.length ≤ 48:=by
 by_cases hl:1 ≤ l.length ∧ l.length ≤ 48
 ·cases he:(epF l).2.2
  ·rw [parse_ep he] at h; cases h
  ·cases hr:(rvF (epF l).2.1).2.2
   ·rw [parse_rv he hr] at h; cases h
   ·rw [parse_up hl he hr] at h
    cases hu:upOK (rvF (epF l).2.1).1
    ·rw [hu] at h; simp at h
    ·rw [hu,if_pos rfl] at h
     cases h
     have l1:=epF_len l
     have l2:=rvF_len (epF l).2.1
     have l3:(rvF (epF l).2.1).2.1.length ≤ (epF l).2.1.length:=by
      unfold rvF
      cases hc:cutZ 45 (epF l).2.1 with
      | none=>exact Nat.zero_le _
      | some p =>
       have:=congrArg List.length (cutZ_parts _ _ p.1 p.2 hc)
       rw [List.length_append,List.length_cons] at this
       show p.2.length ≤ _
       omega
     have l4:(epF l).1.length ≤ 9 ∧ ∀ c ∈ (epF l).1,dig c = true:=by
      revert he
      unfold epF
      cases hc:cut1 58 l with
      | none =>
       intro _
       exact ⟨(by omega:(1:Nat) ≤ 9),fun c hc=>by
        have hc':c = 48:=List.mem_singleton.1 hc
        subst hc'
        decide⟩
      | some p =>
       intro he
       have:=of_decide_eq_true he
       exact ⟨this.2.1,fun c hc=>List.all_eq_true.1 this.2.2 c hc⟩
     exact ⟨hl.2,l4.1,l4.2,by show (rvF (epF l).2.1).1.length ≤ 48; omega,by show (rvF (epF l).2.1).2.1.length ≤ 48; omega⟩
 ·rw [parse_size hl] at h; cases h
theorem num_part {d f:Bs} (hd:∀ c ∈ d,dig c = true) (hf:∀ c ∈ f,dig c = true):numB d f = part d f:=by rw [num_val hd hf,part_digits hd hf]
theorem orl_three (p q r:Int):orl [p,q,r] = orr p (orr q r):=by
 show orr p (orr q (orr r 0)) = _
 have:orr r 0 = r:=by unfold orr; split <;> omega
 rw [this]
set_option maxRecDepth 100000 in
set_option maxHeartbeats 1000000 in
theorem compare_gb (s t:ByteArray) (w:World) (hs:s.size ≤ 4611686018427387904) (ht:t.size ≤ 4611686018427387904) (hm:MaxLen w) :
  Calls Tryz.prog 95 #[.string s,.string t] w fun e w'=>e = .returned (.int .i64 (cmpV (li s) (li t))) ∧ Gb w.heap.size w w':=by
 have c1:=parse_gb s w hs hm
 have c2:=fun w hm=>parse_gb t w ht hm
 have HM:=Lib.hid hm
 clear hm
 unfold cmpV
 cases hp:parse (li s) with
 | none =>
  rw [hp] at c1
  unfold toldV at c1
  simp only at c1
  show Calls _ _ _ _ fun e w'=>e = .returned (.int .i64 0) ∧ _
  cases hq:parse (li t) with
  | none =>
   rw [hq] at c2
   unfold toldV at c2
   simp only at c2
   clear hp hq
   go_enter Tryz.func95,Tryz.ntmps95
   go_wp2_with fail
   refine c1.mono ?_
   rintro e w1 ⟨rfl,k1⟩
   go_wp2_with fail
   refine (c2 _ (HM.out.on k1.toBelow)).mono ?_
   rintro e w2 ⟨rfl,k2⟩
   go_wp2_with fail
   go_ret
   exact ⟨rfl,k1.trans (k2.mono k1.size)⟩
  | some q =>
   rw [hq] at c2
   unfold toldV at c2
   simp only at c2
   generalize S q.1 = x at *
   generalize S q.2.1 = y at *
   generalize S q.2.2 = z at *
   clear hp hq
   go_enter Tryz.func95,Tryz.ntmps95
   go_wp2_with fail
   refine c1.mono ?_
   rintro e w1 ⟨rfl,k1⟩
   go_wp2_with fail
   refine (c2 _ (HM.out.on k1.toBelow)).mono ?_
   rintro e w2 ⟨rfl,k2⟩
   go_wp2_with fail
   go_ret
   exact ⟨rfl,k1.trans (k2.mono k1.size)⟩
 | some p =>
  rw [hp] at c1
  unfold toldV at c1
  simp only at c1
  cases hq:parse (li t) with
  | none =>
   show Calls _ _ _ _ fun e w'=>e = .returned (.int .i64 0) ∧ _
   rw [hq] at c2
   unfold toldV at c2
   simp only at c2
   generalize S p.1 = x at *
   generalize S p.2.1 = y at *
   generalize S p.2.2 = z at *
   clear hp hq
   go_enter Tryz.func95,Tryz.ntmps95
   go_wp2_with fail
   refine c1.mono ?_
   rintro e w1 ⟨rfl,k1⟩
   go_wp2_with fail
   refine (c2 _ (HM.out.on k1.toBelow)).mono ?_
   rintro e w2 ⟨rfl,k2⟩
   go_wp2_with fail
   go_ret
   exact ⟨rfl,k1.trans (k2.mono k1.size)⟩
  | some q =>
   show Calls _ _ _ _ fun e w'=>e = .returned (.int .i64 (orr (part p.1 q.1) (orr (part p.2.1 q.2.1) (part p.2.2 q.2.2)))) ∧ _
   rw [hq] at c2
   unfold toldV at c2
   simp only at c2
   obtain ⟨_,p1,p2,p3,p4⟩:=parse_some hp
   obtain ⟨_,q1,q2,q3,q4⟩:=parse_some hq
   have c3:=fun w=>compareNumbers_gb (S p.1) (S q.1) w (by rw [S_size]; omega) (by rw [S_size]; omega)
   rw [S_li,S_li,num_part p2 q2] at c3
   have c4:=fun w=>part_gb (S p.2.1) (S q.2.1) w (by rw [S_size]; omega) (by rw [S_size]; omega)
   rw [S_li,S_li] at c4
   have c5:=fun w=>part_gb (S p.2.2) (S q.2.2) w (by rw [S_size]; omega) (by rw [S_size]; omega)
   rw [S_li,S_li] at c5
   clear hp hq p1 p2 p3 p4 q1 q2 q3 q4
   generalize part p.1 q.1 = m1 at *
   generalize part p.2.1 q.2.1 = m2 at *
   generalize part p.2.2 q.2.2 = m3 at *
   generalize S p.1 = x at *
   generalize S p.2.1 = y at *
   generalize S p.2.2 = z at *
   generalize S q.1 = x2 at *
   generalize S q.2.1 = y2 at *
   generalize S q.2.2 = z2 at *
   go_enter Tryz.func95,Tryz.ntmps95
   go_wp2_with fail
   refine c1.mono ?_
   rintro e w1 ⟨rfl,k1⟩
   go_wp2_with fail
   refine (c2 _ (HM.out.on k1.toBelow)).mono ?_
   rintro e w2 ⟨rfl,k2⟩
   have k2':=k1.trans (k2.mono k1.size)
   clear c1 c2 k2
   go_wp2_with fail
   refine (c3 _).mono ?_
   rintro e w3 ⟨rfl,k3⟩
   have k3':=k2'.trans (k3.mono k2'.size)
   go_wp2_with fail
   refine (c4 _).mono ?_
   rintro e w4 ⟨rfl,k4⟩
   have k4':=k3'.trans (k4.mono k3'.size)
   go_wp2_with fail
   refine (c5 _).mono ?_
   rintro e w5 ⟨rfl,k5⟩
   have k5':=k4'.trans (k5.mono k4'.size)
   have c6:=cmpOr_any [m1,m2,m3] w5.heap.size (w5.alloc (.cells #[.int .i64 m1,.int .i64 m2,.int .i64 m3] 3)) (by simp) (by
    intro i hi
    rw [World.cell?_alloc_at _ _ _ _ (by simp)]
    have:i = 0 ∨ i = 1 ∨ i = 2:=by simp at hi; omega
    rcases this with rfl | rfl | rfl <;> rfl)
   rw [orl_three] at c6
   clear c3 c4 c5
   go_wp2_with fail
   refine c6.mono ?_
   rintro e w6 ⟨rfl,rfl⟩
   go_wp2_with fail
   go_ret
   exact ⟨rfl,k5'.alloc k5'.size _⟩
theorem compare_any (s t:ByteArray) (w:World) (hs:s.size ≤ 4611686018427387904) (ht:t.size ≤ 4611686018427387904) (hm:MaxLen w) :
  Calls Tryz.prog 95 #[.string s,.string t] w fun e w'=>e = .returned (.int .i64 (cmpV (li s) (li t))) ∧ Below w.heap.size w w' :=
 (compare_gb s t w hs ht hm).mono fun _ _ h=>⟨h.1,h.2.toBelow⟩
def sameV (a c:Bs):Bool:=(parse a).isSome && (parse c).isSome && decide (cmpV a c = 0)
set_option maxRecDepth 100000 in
theorem same_any (s t:ByteArray) (w:World) (hs:s.size ≤ 4611686018427387904) (ht:t.size ≤ 4611686018427387904) (hm:MaxLen w) :
  Calls Tryz.prog 65 #[.string s,.string t] w fun e w'=>e = .returned (.bool (sameV (li s) (li t))) ∧ Below w.heap.size w w':=by
 have c1:=isVersion_any s w hs hm
 have c2:=fun w hm=>isVersion_any t w ht hm
 have c3:=fun w hm=>compare_any s t w hs ht hm
 have HM:=Lib.hid hm
 clear hm
 unfold sameV
 generalize cmpV (li s) (li t) = m at *
 cases h1:(parse (li s)).isSome
 ·rw [h1] at c1
  rw [Bool.false_and,Bool.false_and]
  clear h1
  go_enter Tryz.func65,Tryz.ntmps65
  go_wp2_with fail
  refine c1.mono ?_
  rintro e w1 ⟨rfl,k1⟩
  go_wp2_with fail
  go_ret
  exact ⟨rfl,k1⟩
 ·rw [h1] at c1
  rw [Bool.true_and]
  cases h2:(parse (li t)).isSome
  ·rw [h2] at c2
   rw [Bool.false_and]
   clear h1 h2
   go_enter Tryz.func65,Tryz.ntmps65
   go_wp2_with fail
   refine c1.mono ?_
   rintro e w1 ⟨rfl,k1⟩
   go_wp2_with fail
   refine (c2 _ (HM.out.on k1)).mono ?_
   rintro e w2 ⟨rfl,k2⟩
   go_wp2_with fail
   go_ret
   exact ⟨rfl,k1.trans (k2.mono k1.size)⟩
  ·rw [h2] at c2
   rw [Bool.true_and]
   clear h1 h2
   go_enter Tryz.func65,Tryz.ntmps65
   go_wp2_with fail
   refine c1.mono ?_
   rintro e w1 ⟨rfl,k1⟩
   go_wp2_with fail
   refine (c2 _ (HM.out.on k1)).mono ?_
   rintro e w2 ⟨rfl,k2⟩
   have k2':=k1.trans (k2.mono k1.size)
   clear c1 c2 k2
   go_wp2_with fail
   refine (c3 _ (HM.out.on k2')).mono ?_
   rintro e w3 ⟨rfl,k3⟩
   go_wp2_with fail
   go_ret
   refine ⟨?_,k2'.trans (k3.mono k2'.size)⟩
   first | rfl | (congr 2; rw [Bool.eq_iff_iff]; simp)
def holdsV (rel:Int) (a c:Bs):Bool :=
 if rel = 0 then (parse a).isSome else
 (parse a).isSome && (parse c).isSome &&
  (if rel = 1 then decide (cmpV a c < 0) else if rel = 2 then decide (cmpV a c ≤ 0) else if rel = 3 then decide (cmpV a c = 0) else if rel = 4 then decide (0 ≤ cmpV a c) else if rel = 5 then decide (0 < cmpV a c) else false)
set_option maxRecDepth 100000 in
set_option maxHeartbeats 2000000 in
theorem holds_any (rel:Int) (s t:ByteArray) (w:World) (hs:s.size ≤ 4611686018427387904) (ht:t.size ≤ 4611686018427387904) (hm:MaxLen w) :
  Calls Tryz.prog 149 #[.int .i64 rel,.string s,.string t] w fun e w'=>e = .returned (.bool (holdsV rel (li s) (li t))) ∧ Below w.heap.size w w':=by
 have c1:=isVersion_any s w hs hm
 have c2:=fun w hm=>isVersion_any t w ht hm
 have c3:=fun w hm=>compare_any s t w hs ht hm
 have HM:=Lib.hid hm
 clear hm
 unfold holdsV
 generalize cmpV (li s) (li t) = m at *
 generalize (parse (li s)).isSome = g1 at *
 generalize (parse (li t)).isSome = g2 at *
 by_cases hr:rel = 0
 ·subst hr
  rw [if_pos rfl]
  go_enter Tryz.func149,Tryz.ntmps149
  go_wp2_with fail
  refine c1.mono ?_
  rintro e w1 ⟨rfl,k1⟩
  go_wp2_with fail
  go_ret
  exact ⟨rfl,k1⟩
 ·rw [if_neg hr]
  cases g1
  ·rw [Bool.false_and,Bool.false_and]
   go_enter Tryz.func149,Tryz.ntmps149
   go_wp2_with fail
   refine c1.mono ?_
   rintro e w1 ⟨rfl,k1⟩
   go_wp2_with fail
   go_ret
   exact ⟨rfl,k1⟩
  ·rw [Bool.true_and]
   cases g2
   ·rw [Bool.false_and]
    go_enter Tryz.func149,Tryz.ntmps149
    go_wp2_with fail
    refine c1.mono ?_
    rintro e w1 ⟨rfl,k1⟩
    go_wp2_with fail
    refine (c2 _ (HM.out.on k1)).mono ?_
    rintro e w2 ⟨rfl,k2⟩
    go_wp2_with fail
    go_ret
    exact ⟨rfl,k1.trans (k2.mono k1.size)⟩
   ·rw [Bool.true_and]
    have hcase:rel = 1 ∨ rel = 2 ∨ rel = 3 ∨ rel = 4 ∨ rel = 5 ∨ (rel ≠ 1 ∧ rel ≠ 2 ∧ rel ≠ 3 ∧ rel ≠ 4 ∧ rel ≠ 5):=by omega
    rcases hcase with rfl | rfl | rfl | rfl | rfl | ⟨h1,h2,h3,h4,h5⟩
    rotate_right
    ·rw [if_neg h1,if_neg h2,if_neg h3,if_neg h4,if_neg h5]
     go_enter Tryz.func149,Tryz.ntmps149
     go_wp2_with fail
     refine c1.mono ?_
     rintro e w1 ⟨rfl,k1⟩
     go_wp2_with fail
     refine (c2 _ (HM.out.on k1)).mono ?_
     rintro e w2 ⟨rfl,k2⟩
     have k2':=k1.trans (k2.mono k1.size)
     clear c1 c2 k2
     go_wp2_with fail
     refine (c3 _ (HM.out.on k2')).mono ?_
     rintro e w3 ⟨rfl,k3⟩
     go_wp2_with fail
     go_ret
     exact ⟨rfl,k2'.trans (k3.mono k2'.size)⟩
    all_goals
     go_enter Tryz.func149,Tryz.ntmps149
     go_wp2_with fail
     refine c1.mono ?_
     rintro e w1 ⟨rfl,k1⟩
     go_wp2_with fail
     refine (c2 _ (HM.out.on k1)).mono ?_
     rintro e w2 ⟨rfl,k2⟩
     have k2':=k1.trans (k2.mono k1.size)
     clear c1 c2 k2
     go_wp2_with fail
     refine (c3 _ (HM.out.on k2')).mono ?_
     rintro e w3 ⟨rfl,k3⟩
     go_wp2_with fail
     go_ret
     refine ⟨?_,k2'.trans (k3.mono k2'.size)⟩
     first | rfl | (congr 2; rw [Bool.eq_iff_iff]; simp)
end Ver
end Go.Proofs.YtmhpjjjjgakpiaaGreatDoor
namespace Go.Proofs.YtmhpjjjjgakpiaaGreatDoor
open Go.RowKit
set_option linter.unusedSimpArgs false
set_option linter.unusedVariables false
namespace Ver
/-! ### an order of versions -/
theorem cmpV_turn (a c:Bs):cmpV c a = - cmpV a c:=by
 unfold cmpV
 cases parse a with
 | none=>cases parse c <;> rfl
 | some p =>
  cases parse c with
  | none=>rfl
  | some q =>
   show cmpP q p = - cmpP p q
   unfold cmpP part
   rw [lex_turn (key none p.1) (key none q.1),lex_turn (key none p.2.1) (key none q.2.1),lex_turn (key none p.2.2) (key none q.2.2),orr_turn,orr_turn]
theorem cmpV_tri {a c d:Bs} (ha:(parse a).isSome = true) (hc:(parse c).isSome = true) (hd:(parse d).isSome = true):Tri (cmpV a c) (cmpV c d) (cmpV a d):=by
 unfold cmpV
 cases hpa:parse a with
 | none=>rw [hpa] at ha; cases ha
 | some p =>
  cases hpc:parse c with
  | none=>rw [hpc] at hc; cases hc
  | some q =>
   cases hpd:parse d with
   | none=>rw [hpd] at hd; cases hd
   | some r=>exact (lex_tri _ _ _).or ((lex_tri _ _ _).or (lex_tri _ _ _))
theorem told_shape (o:Option (Bs × Bs × Bs)):∃ x y z:ByteArray,∃ n:Int,toldV o = .tuple #[.string x,.string y,.string z,.int .i64 n] ∧ (o.isSome = true ↔ n = 0) ∧ (n = 0 ∨ n = 3):=by
 cases o with
 | none=>exact ⟨_,_,_,3,rfl,by simp,.inr rfl⟩
 | some p=>exact ⟨_,_,_,0,rfl,by simp,.inl rfl⟩
end Ver
end Go.Proofs.YtmhpjjjjgakpiaaGreatDoor
namespace Go.Proofs.YtmhpjjjjgakpiaaGreatDoor
open Go.RowKit
set_option linter.unusedSimpArgs false
set_option linter.unusedVariables false
namespace Ver
def signT:List ByteArray:=[⟨#[]⟩,⟨#[60,60]⟩,⟨#[60,61]⟩,⟨#[61]⟩,⟨#[62,61]⟩,⟨#[62,62]⟩]
def Signs (w:World):Prop:=∀ i,i < 6 → w.cell? ⟨0,i,none⟩ = some (.string (signT.getD i ⟨#[]⟩))
theorem Signs.on {w w':World} (h:Signs w) (hb:Below w.heap.size w w'):Signs w':=fun i hi=>(hb.cell (p:=⟨0,i,none⟩) (lt_cell (h i hi))).trans (h i hi)
def sgnS (r:Int):ByteArray:=if r = 1 then ⟨#[60,60]⟩ else if r = 2 then ⟨#[60,61]⟩ else if r = 3 then ⟨#[61]⟩ else if r = 4 then ⟨#[62,61]⟩ else if r = 5 then ⟨#[62,62]⟩ else ⟨#[]⟩
theorem six (r:Int):r = 1 ∨ r = 2 ∨ r = 3 ∨ r = 4 ∨ r = 5 ∨ (r ≠ 1 ∧ r ≠ 2 ∧ r ≠ 3 ∧ r ≠ 4 ∧ r ≠ 5):=by omega
set_option maxRecDepth 100000 in
theorem sign_any (r:Int) (w:World) (hg:Signs w):Calls Tryz.prog 123 #[.int .i64 r] w fun e w'=>e = .returned (.string (sgnS r)) ∧ w' = w:=by
 have g0:=hg 0 (by omega)
 have g1:=hg 1 (by omega)
 have g2:=hg 2 (by omega)
 have g3:=hg 3 (by omega)
 have g4:=hg 4 (by omega)
 have g5:=hg 5 (by omega)
 simp only [signT,List.getD_cons_zero,List.getD_cons_succ] at g0 g1 g2 g3 g4 g5
 clear hg
 by_cases hr:r < 0 ∨ 6 ≤ r
 ·rw [show sgnS r = ⟨#[]⟩ by unfold sgnS; rw [if_neg (by omega),if_neg (by omega),if_neg (by omega),if_neg (by omega),if_neg (by omega)]]
  rcases hr with h | h
  ·go_enter Tryz.func123,Tryz.ntmps123
   go_wp2_with fail
   go_ret
   exact ⟨rfl,rfl⟩
  ·have h2:¬ r < 0:=by omega
   go_enter Tryz.func123,Tryz.ntmps123
   go_wp2_with fail
   go_ret
   exact ⟨rfl,rfl⟩
 ·have hc:r = 0 ∨ r = 1 ∨ r = 2 ∨ r = 3 ∨ r = 4 ∨ r = 5:=by omega
  clear hr
  rcases hc with rfl | rfl | rfl | rfl | rfl | rfl
  all_goals
   go_enter Tryz.func123,Tryz.ntmps123
   go_wp2_with fail
   go_ret
   exact ⟨rfl,rfl⟩
set_option maxRecDepth 100000 in
theorem ysignS_any (r:Int) (w:World):Calls Tryz.prog 81 #[.int .i64 r] w fun e w'=>e = .returned (.string (sgnS r)) ∧ w' = w:=by
 rcases six r with rfl | rfl | rfl | rfl | rfl | ⟨h1,h2,h3,h4,h5⟩
 rotate_right
 ·unfold sgnS
  rw [if_neg h1,if_neg h2,if_neg h3,if_neg h4,if_neg h5]
  go_enter Tryz.func81,Tryz.ntmps81
  go_wp2_with fail
  go_ret
  exact ⟨rfl,rfl⟩
 all_goals
  go_enter Tryz.func81,Tryz.ntmps81
  go_wp2_with fail
  go_ret
  exact ⟨rfl,rfl⟩
end Ver
end Go.Proofs.YtmhpjjjjgakpiaaGreatDoor
namespace Go.Proofs.YtmhpjjjjgakpiaaGreatDoor
open Go.RowKit
set_option linter.unusedSimpArgs false
set_option linter.unusedVariables false
namespace Rl
open Ver (Bs li li_len li_drop S S_size S_li empty_is MaxLen Signs)
structure Vars (w:World):Prop where
 maxLen:MaxLen w
 signs:Signs w
theorem Vars.on {w w':World} (h:Vars w) (hb:Below w.heap.size w w'):Vars w':=⟨h.maxLen.on hb,h.signs.on hb⟩
theorem Vars.chg {w w':World} {Q:Nat → Prop} (h:Vars w) (hc:Blk.Chg Q w w') (h1:¬ Q 1) (h2:¬ Q 0):Vars w':=by
 refine ⟨?_,fun i hi=>?_⟩
 ·obtain ⟨m,hm⟩:=h.maxLen
  exact ⟨m,by rw [World.cell?_of_block (hc.block _ h.maxLen.lt h1)]; exact hm⟩
 ·have hh:=h.signs i hi
  rw [World.cell?_of_block (hc.block _ (Ver.lt_cell hh) h2)]
  exact hh
theorem okAt_rest (s:ByteArray) (j:Nat) (c:UInt8) (hb:c.toNat = Txt.b s j) (h0:j ≠ 0):Txt.okAt s j = nch c:=by
 unfold Txt.okAt nch lds mrs Txt.ltr Txt.dgt Txt.mrk
 rw [← hb,Bool.eq_iff_iff]
 simp [h0,UInt8.le_iff_toNat_le,← UInt8.toNat_inj]
theorem okAt_zero (s:ByteArray) (c:UInt8) (hb:c.toNat = Txt.b s 0):Txt.okAt s 0 = lds c:=by
 unfold Txt.okAt lds Txt.ltr Txt.dgt
 rw [← hb,Bool.eq_iff_iff]
 simp [UInt8.le_iff_toNat_le,← UInt8.toNat_inj]
theorem name_is (s:ByteArray):decide (Txt.nameOK s) = nmB (li s):=by
 by_cases h0:s.size = 0
 ·rw [(empty_is h0).2]
  exact decide_eq_false fun h=>by have:=h.1.1; omega
 ·obtain ⟨c,hc,hb⟩:=li_drop s 0 (by omega)
  rw [List.drop_zero] at hc
  rw [hc,Bool.eq_iff_iff,decide_eq_true_eq]
  show _ ↔ (decide (1 ≤ ((li s).drop (0 + 1)).length ∧ ((li s).drop (0 + 1)).length ≤ 23) && lds c && ((li s).drop (0 + 1)).all nch) = true
  simp only [Bool.and_eq_true,decide_eq_true_eq,List.length_drop,li_len]
  unfold Txt.nameOK
  constructor
  ·rintro ⟨h1,h2⟩
   refine ⟨⟨by omega,by rw [← okAt_zero s c hb]; exact h2 0 (by omega)⟩,?_⟩
   rw [List.all_eq_true]
   intro x hx
   obtain ⟨j,hj,rfl⟩:=List.mem_iff_getElem.1 hx
   rw [List.length_drop,li_len] at hj
   rw [List.getElem_drop]
   rw [← okAt_rest s (0 + 1 + j) _ _ (by omega)]
   ·exact h2 _ (by omega)
   ·unfold Txt.b; rw [dif_pos (by omega)]; rfl
  ·rintro ⟨⟨h1,h2⟩,h3⟩
   refine ⟨by omega,fun j hj=>?_⟩
   by_cases hj0:j = 0
   ·subst hj0; rw [okAt_zero s c hb]; exact h2
   ·have hl:j < (li s).length:=by rw [li_len]; exact hj
    rw [okAt_rest s j ((li s)[j]) (by unfold Txt.b; rw [dif_pos hj]; rfl) hj0]
    refine List.all_eq_true.1 h3 _ ?_
    rw [List.mem_iff_getElem]
    exact ⟨j - 1,by rw [List.length_drop]; omega,by rw [List.getElem_drop]; congr 1; omega⟩
theorem name_any (n:Bs) (w:World) (hs:n.length ≤ 4611686018427387904) :
  Calls Tryz.prog 84 #[.string (S n)] w fun e w'=>e = .returned (.bool (nmB n)) ∧ Below w.heap.size w w':=by
 have c:=Txt.name_any (S n) w (by rw [S_size]; omega)
 rwa [name_is,S_li] at c
theorem sgn_S (r:Int):Ver.sgnS r = S (sgnN r):=by
 unfold Ver.sgnS sgnN
 repeat' split
 all_goals rfl
theorem sgn_ne {r:Int} (h:1 ≤ r ∧ r ≤ 5):sgnN r ≠ []:=by
 have:r = 1 ∨ r = 2 ∨ r = 3 ∨ r = 4 ∨ r = 5:=by omega
 rcases this with rfl | rfl | rfl | rfl | rfl <;> decide
theorem sgn_no {r:Int} (h:¬ (1 ≤ r ∧ r ≤ 5)):sgnN r = []:=by
 unfold sgnN
 rw [if_neg (by omega),if_neg (by omega),if_neg (by omega),if_neg (by omega),if_neg (by omega)]
theorem isEmpty_S (l:Bs):(S l).toList.isEmpty = l.isEmpty:=by rw [Lib.toList_data]; show (l.toArray.toList).isEmpty = _; simp
theorem cells3 {w:World} {b:Nat} {T:TypeId} {x y z:Value} (h:Blk.Is w b T #[x,y,z]):w.cell? ⟨b,0,none⟩ = some x ∧ w.cell? ⟨b,1,none⟩ = some y ∧ w.cell? ⟨b,2,none⟩ = some z:=⟨h.at rfl,h.at rfl,h.at rfl⟩
theorem is_on {w w':World} {b:Nat} {T:TypeId} {cs:Array Value} (h:Blk.Is w b T cs) (hb:Below w.heap.size w w'):Blk.Is w' b T cs:=(Blk.Chg.ofBelow' (S:=fun _=>False) hb).is h (by simp)
def aV (a:At):Value:=.agg #[.string (S a.1),.int .i64 a.2.1,.string (S a.2.2)]
set_option maxRecDepth 100000 in
set_option maxHeartbeats 1000000 in
theorem mayAtom_any (a:At) (w:World) (h1:a.1.length ≤ 4611686018427387904) (h2:a.2.2.length ≤ 4611686018427387904) (hv:Vars w) :
  Calls Tryz.prog 89 #[aV a] w fun e w'=>e = .returned (.bool (may a)) ∧ Below w.heap.size w w':=by
 obtain ⟨n,r,v⟩:=a
 unfold aV
 simp only at h1 h2 ⊢
 have cn:=fun w=>name_any n w h1
 by_cases hr:r = 0
 ·subst hr
  have hm:may (n,0,v) = (nmB n && v.isEmpty):=by unfold may; simp
  rw [hm]
  have he:=isEmpty_S v
  generalize nmB n = g at *
  generalize v.isEmpty = d at *
  generalize S n = x at *
  generalize S v = y at *
  clear hv hm
  cases g <;> cases d
  all_goals
   have hb0:=Blk.Is.new w 54 #[.string x,.int .i64 0,.string y]
   have hB0:Below w.heap.size w (w.alloc (.cells #[.string x,.int .i64 0,.string y] 54)):=(Below.refl _ _).alloc (Nat.le_refl _) _
   go_enter Tryz.func89,Tryz.ntmps89
   go_wp2_with fail
   generalize w.alloc (.cells #[.string x,.int .i64 0,.string y] 54) = W at *
   refine (cn _).mono ?_
   rintro e w1 ⟨rfl,k1⟩
   obtain ⟨_,_,c2⟩:=cells3 (is_on hb0 k1)
   have k1':=hB0.trans (k1.mono hB0.size)
   clear hb0 hB0
   go_wp2_with fail
   go_ret
   exact ⟨rfl,k1'⟩
 ·have hm:may (n,r,v) = (nmB n && (decide (1 ≤ r ∧ r ≤ 5) && isV v)):=by unfold may; simp only; rw [if_neg hr]
  rw [hm]
  have cv:=fun w hm=>Ver.parse_any (S v) w (by rw [S_size]; omega) hm
  rw [S_li] at cv
  have cg:=fun w hg=>Ver.sign_any r w hg
  rw [sgn_S] at cg
  have he:=isEmpty_S (sgnN r)
  have hd:(sgnN r).isEmpty = !decide (1 ≤ r ∧ r ≤ 5):=by
   by_cases h:1 ≤ r ∧ r ≤ 5
   ·rw [decide_eq_true h]; have:=sgn_ne h; cases hs:sgnN r with
    | nil=>exact absurd hs this
    | cons c t=>rfl
   ·rw [decide_eq_false h,sgn_no h]; rfl
  rw [hd] at he
  obtain ⟨y1,y2,y3,m,ht,hi,hm3⟩:=Ver.told_shape (Ver.parse v)
  rw [ht] at cv
  have hiv:isV v = decide (m = 0):=by unfold isV; rw [Bool.eq_iff_iff,hi,decide_eq_true_eq]
  rw [hiv]
  generalize decide (1 ≤ r ∧ r ≤ 5) = d at *
  generalize nmB n = g at *
  generalize S (sgnN r) = sg at *
  generalize S n = x at *
  generalize S v = y at *
  have HV:=Lib.hid hv
  clear hv hm hd ht hi hiv
  rcases hm3 with rfl | rfl
  all_goals
   cases g <;> cases d
   all_goals
    simp only [Bool.not_true,Bool.not_false] at he
    have hr0:(r == 0) = false:=by simpa using hr
    have hb0:=Blk.Is.new w 54 #[.string x,.int .i64 r,.string y]
    have hB0:Below w.heap.size w (w.alloc (.cells #[.string x,.int .i64 r,.string y] 54)):=(Below.refl _ _).alloc (Nat.le_refl _) _
    go_enter Tryz.func89,Tryz.ntmps89
    go_wp2_with fail
    generalize w.alloc (.cells #[.string x,.int .i64 r,.string y] 54) = W at *
    refine (cv _ (HV.out.on hB0).maxLen).mono ?_
    rintro e w1 ⟨rfl,k1⟩
    have hb1:=is_on hb0 k1
    obtain ⟨c0,_,_⟩:=cells3 hb1
    have k1':=hB0.trans (k1.mono hB0.size)
    clear hb0 hB0 k1
    go_wp2_with fail
    refine (cn _).mono ?_
    rintro e w2 ⟨rfl,k2⟩
    obtain ⟨_,c1,_⟩:=cells3 (is_on hb1 k2)
    have k2':=k1'.trans (k2.mono k1'.size)
    clear hb1 k1' k2
    go_wp2_with fail
    try
     refine (cg _ (HV.out.on k2').signs).mono ?_
     rintro e w3 ⟨rfl,rfl⟩
     go_wp2_with fail
    go_ret
    exact ⟨rfl,k2'⟩
end Rl
end Go.Proofs.YtmhpjjjjgakpiaaGreatDoor
namespace Go.Proofs.YtmhpjjjjgakpiaaGreatDoor
open Go.RowKit
set_option linter.unusedSimpArgs false
set_option linter.unusedVariables false
namespace Ver
open Txt (b b_eq b_lt)
def FirstAt (s:ByteArray) (x:UInt8) (k:Int):Prop:=(k = -1 ∧ cut1 x (li s) = none) ∨ ∃ i:Nat,k = i ∧ i < s.size ∧ cut1 x (li s) = some ((li s).take i,(li s).drop (i + 1))
def LastAt (s:ByteArray) (x:UInt8) (k:Int):Prop:=(k = -1 ∧ cutZ x (li s) = none) ∨ ∃ i:Nat,k = i ∧ i < s.size ∧ cutZ x (li s) = some ((li s).take i,(li s).drop (i + 1))
set_option maxRecDepth 100000 in
theorem yfirst_any (s:ByteArray) (x:UInt8) (w:World) (hs:s.size ≤ 4611686018427387904) :
  Calls Tryz.prog 106 #[.string s,.int .u8 x.toNat] w fun e w'=>∃ k,e = .returned (.int .i64 k) ∧ FirstAt s x k ∧ w' = w:=by
 have hF:∀ i,i < s.size → b s i = x.toNat → (∀ j,j < i → b s j ≠ x.toNat) → FirstAt s x i:=fun i hi hx h=>.inr ⟨i,rfl,hi,cut1_at hi hx h⟩
 have hN:(∀ j,j < s.size → b s j ≠ x.toNat) → FirstAt s x (-1):=fun h=>.inl ⟨rfl,cut1_none h⟩
 have hxl:=UInt8.toNat_lt x
 have HF:=Lib.hid hF
 have HNO:=Lib.hid hN
 clear hF hN
 obtain ⟨X,hX⟩:∃ X,x.toNat = X:=⟨_,rfl⟩
 rw [hX] at HF HNO hxl ⊢
 clear hX
 go_enter Tryz.func106,Tryz.ntmps106
 go_wp2
 go_loopg [8] s.size (fun gf s8 wx=>∃ pos:Nat,s8 = .int .i64 pos ∧ wx = w ∧ Hid (∀ j,j < pos → b s j ≠ X) ∧ s.size ≤ pos + gf ∧ pos ≤ s.size)
 case atStart=>exact ⟨0,rfl,rfl,fun j hj=>by omega,by omega,by omega⟩
 case round =>
  obtain ⟨pos,rfl,rfl,HN,hfu,hps⟩:=hrel
  by_cases hlt:pos < s.size
  ·obtain ⟨g',rfl⟩:∃ g',gk = g' + 1:=⟨gk - 1,by omega⟩
   have hlt':(pos:Int) < (s.size:Int):=by omega
   have hbc:=b_eq s pos hlt
   have hbl:=b_lt s pos
   by_cases hc:b s pos = X
   ·have HK:=Lib.hid (HF.out pos hlt hc HN.out)
    rw [hc] at hbc hbl
    clear HF HNO HN hc
    go_wp2_with fail
    go_ret
    exact ⟨_,rfl,HK.out,rfl⟩
   ·have HM:Hid (∀ j,j < pos + 1 → b s j ≠ X):=fun j hj=>by
     by_cases e:j = pos
     ·subst e; exact hc
     ·exact HN.out j (by omega)
    obtain ⟨c,hcc⟩:∃ c,b s pos = c:=⟨_,rfl⟩
    rw [hcc] at hbc hbl hc
    have hne:((c:Int) == (X:Int)) = false:=by simp; omega
    clear hcc HN
    go_wp2_with fail
    go_roundg g'
    case measure=>omega
    case rel=>exact ⟨pos + 1,by go_num,rfl,HM,by omega,by omega⟩
  ·have hge:¬ (pos:Int) < (s.size:Int):=by omega
   have HK:=Lib.hid (HNO.out fun j hj=>HN.out j (by omega))
   clear HF HNO HN
   go_wp2_with fail
   go_ret
   exact ⟨_,rfl,HK.out,rfl⟩
set_option maxRecDepth 100000 in
theorem ylast_any (s:ByteArray) (x:UInt8) (w:World) (hs:s.size ≤ 4611686018427387904) :
  Calls Tryz.prog 107 #[.string s,.int .u8 x.toNat] w fun e w'=>∃ k,e = .returned (.int .i64 k) ∧ LastAt s x k ∧ w' = w:=by
 have hF:∀ i,i < s.size → b s i = x.toNat → (∀ j,i < j → j < s.size → b s j ≠ x.toNat) → LastAt s x i:=fun i hi hx h=>.inr ⟨i,rfl,hi,cutZ_at hi hx h⟩
 have hN:(∀ j,j < s.size → b s j ≠ x.toNat) → LastAt s x (-1):=fun h=>.inl ⟨rfl,cutZ_none h⟩
 have hxl:=UInt8.toNat_lt x
 have HF:=Lib.hid hF
 have HNO:=Lib.hid hN
 clear hF hN
 obtain ⟨X,hX⟩:∃ X,x.toNat = X:=⟨_,rfl⟩
 rw [hX] at HF HNO hxl ⊢
 clear hX
 go_enter Tryz.func107,Tryz.ntmps107
 go_wp2
 go_loopg [5] s.size (fun gf s5 wx=>s5 = .int .i64 ((gf:Int) - 1) ∧ wx = w ∧ Hid (∀ j,gf ≤ j → j < s.size → b s j ≠ X) ∧ gf ≤ s.size)
 case atStart=>exact ⟨rfl,rfl,fun j h1 h2=>by omega,Nat.le_refl _⟩
 case round =>
  obtain ⟨rfl,rfl,HN,hfu⟩:=hrel
  by_cases h0:gk = 0
  ·subst h0
   have HK:=Lib.hid (HNO.out fun j hj=>HN.out j (by omega) hj)
   clear HF HNO HN
   go_wp2_with fail
   go_ret
   exact ⟨_,rfl,HK.out,rfl⟩
  ·obtain ⟨g',rfl⟩:∃ g',gk = g' + 1:=⟨gk - 1,by omega⟩
   have hg:((g' + 1:Nat):Int) - 1 = (g':Int):=by omega
   rw [hg]
   have hlt':(g':Int) < (s.size:Int):=by omega
   have hlt:g' < s.size:=by omega
   have hbc:=b_eq s g' hlt
   have hbl:=b_lt s g'
   by_cases hc:b s g' = X
   ·have HK:=Lib.hid (HF.out g' hlt hc fun j h1 h2=>HN.out j (by omega) h2)
    rw [hc] at hbc hbl
    clear HF HNO HN hc hg
    go_wp2_with fail
    go_ret
    exact ⟨_,rfl,HK.out,rfl⟩
   ·have HM:Hid (∀ j,g' ≤ j → j < s.size → b s j ≠ X):=fun j h1 h2=>by
     by_cases e:j = g'
     ·subst e; exact hc
     ·exact HN.out j (by omega) h2
    obtain ⟨c,hcc⟩:∃ c,b s g' = c:=⟨_,rfl⟩
    rw [hcc] at hbc hbl hc
    have hne:((c:Int) == (X:Int)) = false:=by simp; omega
    clear hcc HN hg
    go_wp2_with fail
    go_roundg g'
    case measure=>omega
    case rel=>exact ⟨by go_num,rfl,HM,by omega⟩
end Ver
end Go.Proofs.YtmhpjjjjgakpiaaGreatDoor

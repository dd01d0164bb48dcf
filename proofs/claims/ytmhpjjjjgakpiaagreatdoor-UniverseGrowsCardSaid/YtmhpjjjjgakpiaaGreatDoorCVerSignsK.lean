/-
Compare, Same, Holds. The versions that every program must know; Compare is an order. Sign and Rel, their reference, and the walk of the law VersionSigns.
-/
import Derived.Test.YtmhpjjjjgakpiaaGreatDoorCVerParse2
import Derived.LoopN
namespace Go.Proofs.YtmhpjjjjgakpiaaGreatDoor
open Go.RowKit
set_option linter.unusedSimpArgs false
set_option linter.unusedVariables false
namespace Ver
theorem parse_some {l:Bs} {p:Bs × Bs × Bs} (h:parse l = some p):l.length ≤ 48 ∧ p.1.length ≤ 9 ∧ (∀ c ∈ p.1,dig c = true) ∧ p.2.1.length ≤ 48 ∧ p.2.2.length ≤ 48:=by
 by_cases hl:1 ≤ l.length ∧ l.length ≤ 48
 ·cases he:(epF l).2.2
  ·rw [parse_ep he] at h; cases h
  ·cases hr:(rvF (epF l).2.1).2.2
   ·rw [parse_rv he hr] at h; cases h
   ·rw [parse_up hl he hr] at h
    cases hu:upOK (rvF (epF l).2.1).1
    ·rw [hu] at h; simp at h
    ·rw [hu,if_pos rfl] at h
     cases h
     have l1:=epF_len l
     have l2:=rvF_len (epF l).2.1
     have l3:(rvF (epF l).2.1).2.1.length ≤ (epF l).2.1.length:=by
      unfold rvF
      cases hc:cutZ 45 (epF l).2.1 with
      | none=>exact Nat.zero_le _
      | some p =>
       have:=congrArg List.length (cutZ_parts _ _ p.1 p.2 hc)
       rw [List.length_append,List.length_cons] at this
       show p.2.length ≤ _
       omega
     have l4:(epF l).1.length ≤ 9 ∧ ∀ c ∈ (epF l).1,dig c = true:=by
      revert he
      unfold epF
      cases hc:cut1 58 l with
      | none =>
       intro _
       exact ⟨(by omega:(1:Nat) ≤ 9),fun c hc=>by
        have hc':c = 48:=List.mem_singleton.1 hc
        subst hc'
        decide⟩
      | some p =>
       intro he
       have:=of_decide_eq_true he
       exact ⟨this.2.1,fun c hc=>List.all_eq_true.1 this.2.2 c hc⟩
     exact ⟨hl.2,l4.1,l4.2,by show (rvF (epF l).2.1).1.length ≤ 48; omega,by show (rvF (epF l).2.1).2.1.length ≤ 48; omega⟩
 ·rw [parse_size hl] at h; cases h
theorem num_part {d f:Bs} (hd:∀ c ∈ d,dig c = true) (hf:∀ c ∈ f,dig c = true):numB d f = part d f:=by rw [num_val hd hf,part_digits hd hf]
theorem orl_three (p q r:Int):orl [p,q,r] = orr p (orr q r):=by
 show orr p (orr q (orr r 0)) = _
 have:orr r 0 = r:=by unfold orr; split <;> omega
 rw [this]
set_option maxRecDepth 100000 in
set_option maxHeartbeats 1000000 in
theorem compare_gb (s t:ByteArray) (w:World) (hs:s.size ≤ 4611686018427387904) (ht:t.size ≤ 4611686018427387904) (hm:MaxLen w) :
  Calls Tryz.prog 95 #[.string s,.string t] w fun e w'=>e = .returned (.int .i64 (cmpV (li s) (li t))) ∧ Gb w.heap.size w w':=by
 have c1:=parse_gb s w hs hm
 have c2:=fun w hm=>parse_gb t w ht hm
 have HM:=Lib.hid hm
 clear hm
 unfold cmpV
 cases hp:parse (li s) with
 | none =>
  rw [hp] at c1
  unfold toldV at c1
  simp only at c1
  show Calls _ _ _ _ fun e w'=>e = .returned (.int .i64 0) ∧ _
  cases hq:parse (li t) with
  | none =>
   rw [hq] at c2
   unfold toldV at c2
   simp only at c2
   clear hp hq
   go_enter Tryz.func95,Tryz.ntmps95
   go_wp2_with fail
   refine c1.mono ?_
   rintro e w1 ⟨rfl,k1⟩
   go_wp2_with fail
   refine (c2 _ (HM.out.on k1.toBelow)).mono ?_
   rintro e w2 ⟨rfl,k2⟩
   go_wp2_with fail
   go_ret
   exact ⟨rfl,k1.trans (k2.mono k1.size)⟩
  | some q =>
   rw [hq] at c2
   unfold toldV at c2
   simp only at c2
   generalize S q.1 = x at *
   generalize S q.2.1 = y at *
   generalize S q.2.2 = z at *
   clear hp hq
   go_enter Tryz.func95,Tryz.ntmps95
   go_wp2_with fail
   refine c1.mono ?_
   rintro e w1 ⟨rfl,k1⟩
   go_wp2_with fail
   refine (c2 _ (HM.out.on k1.toBelow)).mono ?_
   rintro e w2 ⟨rfl,k2⟩
   go_wp2_with fail
   go_ret
   exact ⟨rfl,k1.trans (k2.mono k1.size)⟩
 | some p =>
  rw [hp] at c1
  unfold toldV at c1
  simp only at c1
  cases hq:parse (li t) with
  | none =>
   show Calls _ _ _ _ fun e w'=>e = .returned (.int .i64 0) ∧ _
   rw [hq] at c2
   unfold toldV at c2
   simp only at c2
   generalize S p.1 = x at *
   generalize S p.2.1 = y at *
   generalize S p.2.2 = z at *
   clear hp hq
   go_enter Tryz.func95,Tryz.ntmps95
   go_wp2_with fail
   refine c1.mono ?_
   rintro e w1 ⟨rfl,k1⟩
   go_wp2_with fail
   refine (c2 _ (HM.out.on k1.toBelow)).mono ?_
   rintro e w2 ⟨rfl,k2⟩
   go_wp2_with fail
   go_ret
   exact ⟨rfl,k1.trans (k2.mono k1.size)⟩
  | some q =>
   show Calls _ _ _ _ fun e w'=>e = .returned (.int .i64 (orr (part p.1 q.1) (orr (part p.2.1 q.2.1) (part p.2.2 q.2.2)))) ∧ _
   rw [hq] at c2
   unfold toldV at c2
   simp only at c2
   obtain ⟨_,p1,p2,p3,p4⟩:=parse_some hp
   obtain ⟨_,q1,q2,q3,q4⟩:=parse_some hq
   have c3:=fun w=>compareNumbers_gb (S p.1) (S q.1) w (by rw [S_size]; omega) (by rw [S_size]; omega)
   rw [S_li,S_li,num_part p2 q2] at c3
   have c4:=fun w=>part_gb (S p.2.1) (S q.2.1) w (by rw [S_size]; omega) (by rw [S_size]; omega)
   rw [S_li,S_li] at c4
   have c5:=fun w=>part_gb (S p.2.2) (S q.2.2) w (by rw [S_size]; omega) (by rw [S_size]; omega)
   rw [S_li,S_li] at c5
   clear hp hq p1 p2 p3 p4 q1 q2 q3 q4
   generalize part p.1 q.1 = m1 at *
   generalize part p.2.1 q.2.1 = m2 at *
   generalize part p.2.2 q.2.2 = m3 at *
   generalize S p.1 = x at *
   generalize S p.2.1 = y at *
   generalize S p.2.2 = z at *
   generalize S q.1 = x2 at *
   generalize S q.2.1 = y2 at *
   generalize S q.2.2 = z2 at *
   go_enter Tryz.func95,Tryz.ntmps95
   go_wp2_with fail
   refine c1.mono ?_
   rintro e w1 ⟨rfl,k1⟩
   go_wp2_with fail
   refine (c2 _ (HM.out.on k1.toBelow)).mono ?_
   rintro e w2 ⟨rfl,k2⟩
   have k2':=k1.trans (k2.mono k1.size)
   clear c1 c2 k2
   go_wp2_with fail
   refine (c3 _).mono ?_
   rintro e w3 ⟨rfl,k3⟩
   have k3':=k2'.trans (k3.mono k2'.size)
   go_wp2_with fail
   refine (c4 _).mono ?_
   rintro e w4 ⟨rfl,k4⟩
   have k4':=k3'.trans (k4.mono k3'.size)
   go_wp2_with fail
   refine (c5 _).mono ?_
   rintro e w5 ⟨rfl,k5⟩
   have k5':=k4'.trans (k5.mono k4'.size)
   have c6:=cmpOr_any [m1,m2,m3] w5.heap.size (w5.alloc (.cells #[.int .i64 m1,.int .i64 m2,.int .i64 m3] 3)) (by simp) (by
    intro i hi
    rw [World.cell?_alloc_at _ _ _ _ (by simp)]
    have:i = 0 ∨ i = 1 ∨ i = 2:=by simp at hi; omega
    rcases this with rfl | rfl | rfl <;> rfl)
   rw [orl_three] at c6
   clear c3 c4 c5
   go_wp2_with fail
   refine c6.mono ?_
   rintro e w6 ⟨rfl,rfl⟩
   go_wp2_with fail
   go_ret
   exact ⟨rfl,k5'.alloc k5'.size _⟩
theorem compare_any (s t:ByteArray) (w:World) (hs:s.size ≤ 4611686018427387904) (ht:t.size ≤ 4611686018427387904) (hm:MaxLen w) :
  Calls Tryz.prog 95 #[.string s,.string t] w fun e w'=>e = .returned (.int .i64 (cmpV (li s) (li t))) ∧ Below w.heap.size w w' :=
 (compare_gb s t w hs ht hm).mono fun _ _ h=>⟨h.1,h.2.toBelow⟩
def sameV (a c:Bs):Bool:=(parse a).isSome && (parse c).isSome && decide (cmpV a c = 0)
set_option maxRecDepth 100000 in
theorem same_any (s t:ByteArray) (w:World) (hs:s.size ≤ 4611686018427387904) (ht:t.size ≤ 4611686018427387904) (hm:MaxLen w) :
  Calls Tryz.prog 65 #[.string s,.string t] w fun e w'=>e = .returned (.bool (sameV (li s) (li t))) ∧ Below w.heap.size w w':=by
 have c1:=isVersion_any s w hs hm
 have c2:=fun w hm=>isVersion_any t w ht hm
 have c3:=fun w hm=>compare_any s t w hs ht hm
 have HM:=Lib.hid hm
 clear hm
 unfold sameV
 generalize cmpV (li s) (li t) = m at *
 cases h1:(parse (li s)).isSome
 ·rw [h1] at c1
  rw [Bool.false_and,Bool.false_and]
  clear h1
  go_enter Tryz.func65,Tryz.ntmps65
  go_wp2_with fail
  refine c1.mono ?_
  rintro e w1 ⟨rfl,k1⟩
  go_wp2_with fail
  go_ret
  exact ⟨rfl,k1⟩
 ·rw [h1] at c1
  rw [Bool.true_and]
  cases h2:(parse (li t)).isSome
  ·rw [h2] at c2
   rw [Bool.false_and]
   clear h1 h2
   go_enter Tryz.func65,Tryz.ntmps65
   go_wp2_with fail
   refine c1.mono ?_
   rintro e w1 ⟨rfl,k1⟩
   go_wp2_with fail
   refine (c2 _ (HM.out.on k1)).mono ?_
   rintro e w2 ⟨rfl,k2⟩
   go_wp2_with fail
   go_ret
   exact ⟨rfl,k1.trans (k2.mono k1.size)⟩
  ·rw [h2] at c2
   rw [Bool.true_and]
   clear h1 h2
   go_enter Tryz.func65,Tryz.ntmps65
   go_wp2_with fail
   refine c1.mono ?_
   rintro e w1 ⟨rfl,k1⟩
   go_wp2_with fail
   refine (c2 _ (HM.out.on k1)).mono ?_
   rintro e w2 ⟨rfl,k2⟩
   have k2':=k1.trans (k2.mono k1.size)
   clear c1 c2 k2
   go_wp2_with fail
   refine (c3 _ (HM.out.on k2')).mono ?_
   rintro e w3 ⟨rfl,k3⟩
   go_wp2_with fail
   go_ret
   refine ⟨?_,k2'.trans (k3.mono k2'.size)⟩
   first | rfl | (congr 2; rw [Bool.eq_iff_iff]; simp)
def holdsV (rel:Int) (a c:Bs):Bool :=
 if rel = 0 then (parse a).isSome else
 (parse a).isSome && (parse c).isSome &&
  (if rel = 1 then decide (cmpV a c < 0) else if rel = 2 then decide (cmpV a c ≤ 0) else if rel = 3 then decide (cmpV a c = 0) else if rel = 4 then decide (0 ≤ cmpV a c) else if rel = 5 then decide (0 < cmpV a c) else false)
set_option maxRecDepth 100000 in
set_option maxHeartbeats 2000000 in
theorem holds_any (rel:Int) (s t:ByteArray) (w:World) (hs:s.size ≤ 4611686018427387904) (ht:t.size ≤ 4611686018427387904) (hm:MaxLen w) :
  Calls Tryz.prog 149 #[.int .i64 rel,.string s,.string t] w fun e w'=>e = .returned (.bool (holdsV rel (li s) (li t))) ∧ Below w.heap.size w w':=by
 have c1:=isVersion_any s w hs hm
 have c2:=fun w hm=>isVersion_any t w ht hm
 have c3:=fun w hm=>compare_any s t w hs ht hm
 have HM:=Lib.hid hm
 clear hm
 unfold holdsV
 generalize cmpV (li s) (li t) = m at *
 generalize (parse (li s)).isSome = g1 at *
 generalize (parse (li t)).isSome = g2 at *
 by_cases hr:rel = 0
 ·subst hr
  rw [if_pos rfl]
  go_enter Tryz.func149,Tryz.ntmps149
  go_wp2_with fail
  refine c1.mono ?_
  rintro e w1 ⟨rfl,k1⟩
  go_wp2_with fail
  go_ret
  exact ⟨rfl,k1⟩
 ·rw [if_neg hr]
  cases g1
  ·rw [Bool.false_and,Bool.false_and]
   go_enter Tryz.func149,Tryz.ntmps149
   go_wp2_with fail
   refine c1.mono ?_
   rintro e w1 ⟨rfl,k1⟩
   go_wp2_with fail
   go_ret
   exact ⟨rfl,k1⟩
  ·rw [Bool.true_and]
   cases g2
   ·rw [Bool.false_and]
    go_enter Tryz.func149,Tryz.ntmps149
    go_wp2_with fail
    refine c1.mono ?_
    rintro e w1 ⟨rfl,k1⟩
    go_wp2_with fail
    refine (c2 _ (HM.out.on k1)).mono ?_
    rintro e w2 ⟨rfl,k2⟩
    go_wp2_with fail
    go_ret
    exact ⟨rfl,k1.trans (k2.mono k1.size)⟩
   ·rw [Bool.true_and]
    have hcase:rel = 1 ∨ rel = 2 ∨ rel = 3 ∨ rel = 4 ∨ rel = 5 ∨ (rel ≠ 1 ∧ rel ≠ 2 ∧ rel ≠ 3 ∧ rel ≠ 4 ∧ rel ≠ 5):=by omega
    rcases hcase with rfl | rfl | rfl | rfl | rfl | ⟨h1,h2,h3,h4,h5⟩
    rotate_right
    ·rw [if_neg h1,if_neg h2,if_neg h3,if_neg h4,if_neg h5]
     go_enter Tryz.func149,Tryz.ntmps149
     go_wp2_with fail
     refine c1.mono ?_
     rintro e w1 ⟨rfl,k1⟩
     go_wp2_with fail
     refine (c2 _ (HM.out.on k1)).mono ?_
     rintro e w2 ⟨rfl,k2⟩
     have k2':=k1.trans (k2.mono k1.size)
     clear c1 c2 k2
     go_wp2_with fail
     refine (c3 _ (HM.out.on k2')).mono ?_
     rintro e w3 ⟨rfl,k3⟩
     go_wp2_with fail
     go_ret
     exact ⟨rfl,k2'.trans (k3.mono k2'.size)⟩
    all_goals
     go_enter Tryz.func149,Tryz.ntmps149
     go_wp2_with fail
     refine c1.mono ?_
     rintro e w1 ⟨rfl,k1⟩
     go_wp2_with fail
     refine (c2 _ (HM.out.on k1)).mono ?_
     rintro e w2 ⟨rfl,k2⟩
     have k2':=k1.trans (k2.mono k1.size)
     clear c1 c2 k2
     go_wp2_with fail
     refine (c3 _ (HM.out.on k2')).mono ?_
     rintro e w3 ⟨rfl,k3⟩
     go_wp2_with fail
     go_ret
     refine ⟨?_,k2'.trans (k3.mono k2'.size)⟩
     first | rfl | (congr 2; rw [Bool.eq_iff_iff]; simp)
end Ver
end Go.Proofs.YtmhpjjjjgakpiaaGreatDoor
namespace Go.Proofs.YtmhpjjjjgakpiaaGreatDoor
open Go.RowKit
set_option linter.unusedSimpArgs false
set_option linter.unusedVariables false
namespace Ver
/-! ### an order of versions -/
theorem cmpV_turn (a c:Bs):cmpV c a = - cmpV a c:=by
 unfold cmpV
 cases parse a with
 | none=>cases parse c <;> rfl
 | some p =>
  cases parse c with
  | none=>rfl
  | some q =>
   show cmpP q p = - cmpP p q
   unfold cmpP part
   rw [lex_turn (key none p.1) (key none q.1),lex_turn (key none p.2.1) (key none q.2.1),lex_turn (key none p.2.2) (key none q.2.2),orr_turn,orr_turn]
theorem cmpV_tri {a c d:Bs} (ha:(parse a).isSome = true) (hc:(parse c).isSome = true) (hd:(parse d).isSome = true):Tri (cmpV a c) (cmpV c d) (cmpV a d):=by
 unfold cmpV
 cases hpa:parse a with
 | none=>rw [hpa] at ha; cases ha
 | some p =>
  cases hpc:parse c with
  | none=>rw [hpc] at hc; cases hc
  | some q =>
   cases hpd:parse d with
   | none=>rw [hpd] at hd; cases hd
   | some r=>exact (lex_tri _ _ _).or ((lex_tri _ _ _).or (lex_tri _ _ _))
theorem told_shape (o:Option (Bs × Bs × Bs)):∃ x y z:ByteArray,∃ n:Int,toldV o = .tuple #[.string x,.string y,.string z,.int .i64 n] ∧ (o.isSome = true ↔ n = 0) ∧ (n = 0 ∨ n = 3):=by
 cases o with
 | none=>exact ⟨_,_,_,3,rfl,by simp,.inr rfl⟩
 | some p=>exact ⟨_,_,_,0,rfl,by simp,.inl rfl⟩
end Ver
end Go.Proofs.YtmhpjjjjgakpiaaGreatDoor
namespace Go.Proofs.YtmhpjjjjgakpiaaGreatDoor
open Go.RowKit
set_option linter.unusedSimpArgs false
set_option linter.unusedVariables false
namespace Ver
def signT:List ByteArray:=[⟨#[]⟩,⟨#[60,60]⟩,⟨#[60,61]⟩,⟨#[61]⟩,⟨#[62,61]⟩,⟨#[62,62]⟩]
def Signs (w:World):Prop:=∀ i,i < 6 → w.cell? ⟨0,i,none⟩ = some (.string (signT.getD i ⟨#[]⟩))
theorem Signs.on {w w':World} (h:Signs w) (hb:Below w.heap.size w w'):Signs w':=fun i hi=>(hb.cell (p:=⟨0,i,none⟩) (lt_cell (h i hi))).trans (h i hi)
def sgnS (r:Int):ByteArray:=if r = 1 then ⟨#[60,60]⟩ else if r = 2 then ⟨#[60,61]⟩ else if r = 3 then ⟨#[61]⟩ else if r = 4 then ⟨#[62,61]⟩ else if r = 5 then ⟨#[62,62]⟩ else ⟨#[]⟩
set_option maxRecDepth 100000 in
theorem sign_any (r:Int) (w:World) (hg:Signs w):Calls Tryz.prog 123 #[.int .i64 r] w fun e w'=>e = .returned (.string (sgnS r)) ∧ w' = w:=by
 have g0:=hg 0 (by omega)
 have g1:=hg 1 (by omega)
 have g2:=hg 2 (by omega)
 have g3:=hg 3 (by omega)
 have g4:=hg 4 (by omega)
 have g5:=hg 5 (by omega)
 simp only [signT,List.getD_cons_zero,List.getD_cons_succ] at g0 g1 g2 g3 g4 g5
 clear hg
 by_cases hr:r < 0 ∨ 6 ≤ r
 ·rw [show sgnS r = ⟨#[]⟩ by unfold sgnS; rw [if_neg (by omega),if_neg (by omega),if_neg (by omega),if_neg (by omega),if_neg (by omega)]]
  rcases hr with h | h
  ·go_enter Tryz.func123,Tryz.ntmps123
   go_wp2_with fail
   go_ret
   exact ⟨rfl,rfl⟩
  ·have h2:¬ r < 0:=by omega
   go_enter Tryz.func123,Tryz.ntmps123
   go_wp2_with fail
   go_ret
   exact ⟨rfl,rfl⟩
 ·have hc:r = 0 ∨ r = 1 ∨ r = 2 ∨ r = 3 ∨ r = 4 ∨ r = 5:=by omega
  clear hr
  rcases hc with rfl | rfl | rfl | rfl | rfl | rfl
  all_goals
   go_enter Tryz.func123,Tryz.ntmps123
   go_wp2_with fail
   go_ret
   exact ⟨rfl,rfl⟩
end Ver
end Go.Proofs.YtmhpjjjjgakpiaaGreatDoor

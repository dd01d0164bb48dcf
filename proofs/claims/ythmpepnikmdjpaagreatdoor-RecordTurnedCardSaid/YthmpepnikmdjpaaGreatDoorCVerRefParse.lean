/-
Parse. Compare, Same, Holds. The versions that every program must know; Compare is an order. Sign and Rel, their reference, and the walk of the law VersionSigns. What may be an atom; how an atom is written. The reference's Version: a version's parts, or that it is none.
-/
import Derived.Test.YthmpepnikmdjpaaGreatDoorCRelRead
import Derived.LoopN
import Derived.Test.YthmpepnikmdjpaaGreatDoorCTextSmallK
namespace Go.Proofs.YthmpepnikmdjpaaGreatDoor
open Go.RowKit
set_option linter.unusedSimpArgs false
set_option linter.unusedVariables false
namespace Ver
open Txt (b b_eq b_lt)
theorem results_tmp4 {fn:Func} {t u v x:Tmp} (h:fn.results = #[.tmp t,.tmp u,.tmp v,.tmp x]) (tmps:Array Value) (P:Program) (w:World) :
  (results fn tmps).run P w = .ok (.tuple #[tmps.getD t undef,tmps.getD u undef,tmps.getD v undef,tmps.getD x undef]) w:=by
 simp [results,h,go_sem]
def toldV:Option (Bs × Bs × Bs) → Value
 | none=>.tuple #[.string ⟨#[]⟩,.string ⟨#[]⟩,.string ⟨#[]⟩,.int .i64 3]
 | some p=>.tuple #[.string (S p.1),.string (S p.2.1),.string (S p.2.2),.int .i64 0]
theorem parse_size {l:Bs} (h:¬ (1 ≤ l.length ∧ l.length ≤ 48)):parse l = none:=by unfold parse; rw [if_neg h]
theorem parse_ep {l:Bs} (h:(epF l).2.2 = false):parse l = none:=by
 unfold parse
 rw [ep_is,h]
 split <;> rfl
theorem parse_rv {l:Bs} (h0:(epF l).2.2 = true) (h:(rvF (epF l).2.1).2.2 = false):parse l = none:=by
 unfold parse
 rw [ep_is,h0,if_pos rfl]
 split
 ·simp only
  rw [rvF_is,h]
  rfl
 ·rfl
theorem parse_up {l:Bs} (h1:1 ≤ l.length ∧ l.length ≤ 48) (h0:(epF l).2.2 = true) (h:(rvF (epF l).2.1).2.2 = true) :
  parse l = if upOK (rvF (epF l).2.1).1 = true then some ((epF l).1,(rvF (epF l).2.1).1,(rvF (epF l).2.1).2.1) else none:=by
 unfold parse
 rw [ep_is,h0,if_pos rfl,if_pos h1]
 simp only
 rw [rvF_is,h,if_pos rfl]
theorem epF_len (l:Bs):(epF l).2.1.length ≤ l.length:=by
 unfold epF
 cases hc:cut1 58 l with
 | none=>exact Nat.le_refl _
 | some p =>
  have:=congrArg List.length (cut1_parts _ _ p.1 p.2 hc)
  rw [List.length_append,List.length_cons] at this
  show p.2.length ≤ _
  omega
theorem rvF_len (l:Bs):(rvF l).1.length ≤ l.length:=by
 unfold rvF
 cases hc:cutZ 45 l with
 | none=>exact Nat.le_refl _
 | some p =>
  have:=congrArg List.length (cutZ_parts _ _ p.1 p.2 hc)
  rw [List.length_append,List.length_cons] at this
  show p.1.length ≤ _
  omega
set_option maxRecDepth 100000 in
set_option maxHeartbeats 1000000 in
theorem parse_any (s:ByteArray) (w:World) (hs:s.size ≤ 4611686018427387904) (hm:MaxLen w) :
  Calls Tryz.prog 84 #[.string s] w fun e w'=>e = .returned (toldV (parse (li s))) ∧ Below w.heap.size w w':=by
 by_cases h0:s.size = 0
 ·obtain ⟨e1,e2⟩:=empty_is h0
  rw [parse_size (by rw [li_len]; omega)]
  clear e2
  unfold toldV
  go_enter Tryz.func84,Tryz.ntmps84
  go_wp2_with fail
  refine bodyPost_ret (results_tmp4 rfl _ _ _) rfl ?_
  exact ⟨rfl,Below.refl _ _⟩
 obtain ⟨e1,e2⟩:=empty_no h0
 clear e2
 by_cases h48:48 < s.size
 ·have h48':48 < (s.size:Int):=by omega
  rw [parse_size (by rw [li_len]; omega)]
  unfold toldV
  go_enter Tryz.func84,Tryz.ntmps84
  go_wp2_with fail
  refine bodyPost_ret (results_tmp4 rfl _ _ _) rfl ?_
  exact ⟨rfl,Below.refl _ _⟩
 have h48':¬ 48 < (s.size:Int):=by omega
 have c1:=cutEpoch_any s w (by omega) hm
 have hl:1 ≤ (li s).length ∧ (li s).length ≤ 48:=by rw [li_len]; omega
 have l1:=epF_len (li s)
 have l2:=rvF_len (epF (li s)).2.1
 cases he:(epF (li s)).2.2
 ·rw [parse_ep he]
  rw [he] at c1
  unfold toldV
  generalize S (epF (li s)).1 = x at *
  generalize S (epF (li s)).2.1 = y at *
  clear hl l1 l2 he
  go_enter Tryz.func84,Tryz.ntmps84
  go_wp2_with fail
  refine c1.mono ?_
  rintro e w1 ⟨rfl,k1⟩
  go_wp2_with fail
  refine bodyPost_ret (results_tmp4 rfl _ _ _) rfl ?_
  exact ⟨rfl,k1⟩
 ·rw [he] at c1
  have c2:=fun w=>cutRevision_any (S (epF (li s)).2.1) w (by rw [S_size]; omega)
  rw [S_li] at c2
  cases hr:(rvF (epF (li s)).2.1).2.2
  ·rw [parse_rv he hr]
   rw [hr] at c2
   unfold toldV
   generalize S (rvF (epF (li s)).2.1).1 = u at *
   generalize S (rvF (epF (li s)).2.1).2.1 = v at *
   generalize S (epF (li s)).1 = x at *
   generalize S (epF (li s)).2.1 = y at *
   clear hl l1 l2 he hr
   go_enter Tryz.func84,Tryz.ntmps84
   go_wp2_with fail
   refine c1.mono ?_
   rintro e w1 ⟨rfl,k1⟩
   go_wp2_with fail
   refine (c2 _).mono ?_
   rintro e w2 ⟨rfl,k2⟩
   go_wp2_with fail
   refine bodyPost_ret (results_tmp4 rfl _ _ _) rfl ?_
   exact ⟨rfl,k1.trans (k2.mono k1.size)⟩
  ·rw [parse_up hl he hr]
   rw [hr] at c2
   have c3:=fun w=>isUpstream_any (S (rvF (epF (li s)).2.1).1) w (by rw [S_size]; omega)
   rw [← up_is,S_li] at c3
   cases hu:upOK (rvF (epF (li s)).2.1).1
   ·rw [hu] at c3
    rw [if_neg (by simp)]
    unfold toldV
    generalize S (rvF (epF (li s)).2.1).1 = u at *
    generalize S (rvF (epF (li s)).2.1).2.1 = v at *
    generalize S (epF (li s)).1 = x at *
    generalize S (epF (li s)).2.1 = y at *
    clear hl l1 l2 he hr hu
    go_enter Tryz.func84,Tryz.ntmps84
    go_wp2_with fail
    refine c1.mono ?_
    rintro e w1 ⟨rfl,k1⟩
    go_wp2_with fail
    refine (c2 _).mono ?_
    rintro e w2 ⟨rfl,k2⟩
    go_wp2_with fail
    refine (c3 _).mono ?_
    rintro e w3 ⟨rfl,k3⟩
    go_wp2_with fail
    refine bodyPost_ret (results_tmp4 rfl _ _ _) rfl ?_
    exact ⟨rfl,k1.trans ((k2.trans (k3.mono k2.size)).mono k1.size)⟩
   ·rw [hu] at c3
    rw [if_pos rfl]
    unfold toldV
    simp only
    generalize S (rvF (epF (li s)).2.1).1 = u at *
    generalize S (rvF (epF (li s)).2.1).2.1 = v at *
    generalize S (epF (li s)).1 = x at *
    generalize S (epF (li s)).2.1 = y at *
    clear hl l1 l2 he hr hu
    go_enter Tryz.func84,Tryz.ntmps84
    go_wp2_with fail
    refine c1.mono ?_
    rintro e w1 ⟨rfl,k1⟩
    go_wp2_with fail
    refine (c2 _).mono ?_
    rintro e w2 ⟨rfl,k2⟩
    go_wp2_with fail
    refine (c3 _).mono ?_
    rintro e w3 ⟨rfl,k3⟩
    go_wp2_with fail
    refine bodyPost_ret (results_tmp4 rfl _ _ _) rfl ?_
    exact ⟨rfl,k1.trans ((k2.trans (k3.mono k2.size)).mono k1.size)⟩
theorem isVersion_any (s:ByteArray) (w:World) (hs:s.size ≤ 4611686018427387904) (hm:MaxLen w) :
  Calls Tryz.prog 146 #[.string s] w fun e w'=>e = .returned (.bool (parse (li s)).isSome) ∧ Below w.heap.size w w':=by
 have c:=parse_any s w hs hm
 cases hp:parse (li s) with
 | none =>
  rw [hp] at c
  unfold toldV at c
  clear hp
  go_enter Tryz.func146,Tryz.ntmps146
  go_wp2_with fail
  refine c.mono ?_
  rintro e w1 ⟨rfl,k1⟩
  go_wp2_with fail
  go_ret
  exact ⟨rfl,k1⟩
 | some p =>
  rw [hp] at c
  unfold toldV at c
  clear hp
  simp only at c
  generalize S p.1 = x at *
  generalize S p.2.1 = y at *
  generalize S p.2.2 = z at *
  go_enter Tryz.func146,Tryz.ntmps146
  go_wp2_with fail
  refine c.mono ?_
  rintro e w1 ⟨rfl,k1⟩
  go_wp2_with fail
  go_ret
  exact ⟨rfl,k1⟩
end Ver
end Go.Proofs.YthmpepnikmdjpaaGreatDoor
namespace Go.Proofs.YthmpepnikmdjpaaGreatDoor
open Go.RowKit
set_option linter.unusedSimpArgs false
set_option linter.unusedVariables false
namespace Ver
open Txt (b b_eq b_lt)
theorem parse_some {l:Bs} {p:Bs × Bs × Bs} (h:parse l = some p):l.length ≤ 48 ∧ p.1.length ≤ 9 ∧ (∀ c ∈ p.1,dig c = true) ∧ p.2.1.length ≤ 48 ∧ p.2.2.length ≤ 48:=by
 by_cases hl:1 ≤ l.length ∧ l.length ≤ 48
 ·cases he:(epF l).2.2
  ·rw [parse_ep he] at h; cases h
  ·cases hr:(rvF (epF l).2.1).2.2
   ·rw [parse_rv he hr] at h; cases h
   ·rw [parse_up hl he hr] at h
    cases hu:upOK (rvF (epF l).2.1).1
    ·rw [hu] at h; simp at h
    ·rw [hu,if_pos rfl] at h
     cases h
     have l1:=epF_len l
     have l2:=rvF_len (epF l).2.1
     have l3:(rvF (epF l).2.1).2.1.length ≤ (epF l).2.1.length:=by
      unfold rvF
      cases hc:cutZ 45 (epF l).2.1 with
      | none=>exact Nat.zero_le _
      | some p =>
       have:=congrArg List.length (cutZ_parts _ _ p.1 p.2 hc)
       rw [List.length_append,List.length_cons] at this
       show p.2.length ≤ _
       omega
     have l4:(epF l).1.length ≤ 9 ∧ ∀ c ∈ (epF l).1,dig c = true:=by
      revert he
      unfold epF
      cases hc:cut1 58 l with
      | none =>
       intro _
       exact ⟨(by omega:(1:Nat) ≤ 9),fun c hc=>by
        have hc':c = 48:=List.mem_singleton.1 hc
        subst hc'
        decide⟩
      | some p =>
       intro he
       have:=of_decide_eq_true he
       exact ⟨this.2.1,fun c hc=>List.all_eq_true.1 this.2.2 c hc⟩
     exact ⟨hl.2,l4.1,l4.2,by show (rvF (epF l).2.1).1.length ≤ 48; omega,by show (rvF (epF l).2.1).2.1.length ≤ 48; omega⟩
 ·rw [parse_size hl] at h; cases h
theorem num_part {d f:Bs} (hd:∀ c ∈ d,dig c = true) (hf:∀ c ∈ f,dig c = true):numB d f = part d f:=by rw [num_val hd hf,part_digits hd hf]
theorem orl_three (p q r:Int):orl [p,q,r] = orr p (orr q r):=by
 show orr p (orr q (orr r 0)) = _
 have:orr r 0 = r:=by unfold orr; split <;> omega
 rw [this]
set_option maxRecDepth 100000 in
set_option maxHeartbeats 1000000 in
theorem compare_any (s t:ByteArray) (w:World) (hs:s.size ≤ 4611686018427387904) (ht:t.size ≤ 4611686018427387904) (hm:MaxLen w) :
  Calls Tryz.prog 147 #[.string s,.string t] w fun e w'=>e = .returned (.int .i64 (cmpV (li s) (li t))) ∧ Below w.heap.size w w':=by
 have c1:=parse_any s w hs hm
 have c2:=fun w hm=>parse_any t w ht hm
 have HM:=Lib.hid hm
 clear hm
 unfold cmpV
 cases hp:parse (li s) with
 | none =>
  rw [hp] at c1
  unfold toldV at c1
  simp only at c1
  show Calls _ _ _ _ fun e w'=>e = .returned (.int .i64 0) ∧ _
  cases hq:parse (li t) with
  | none =>
   rw [hq] at c2
   unfold toldV at c2
   simp only at c2
   clear hp hq
   go_enter Tryz.func147,Tryz.ntmps147
   go_wp2_with fail
   refine c1.mono ?_
   rintro e w1 ⟨rfl,k1⟩
   go_wp2_with fail
   refine (c2 _ (HM.out.on k1)).mono ?_
   rintro e w2 ⟨rfl,k2⟩
   go_wp2_with fail
   go_ret
   exact ⟨rfl,k1.trans (k2.mono k1.size)⟩
  | some q =>
   rw [hq] at c2
   unfold toldV at c2
   simp only at c2
   generalize S q.1 = x at *
   generalize S q.2.1 = y at *
   generalize S q.2.2 = z at *
   clear hp hq
   go_enter Tryz.func147,Tryz.ntmps147
   go_wp2_with fail
   refine c1.mono ?_
   rintro e w1 ⟨rfl,k1⟩
   go_wp2_with fail
   refine (c2 _ (HM.out.on k1)).mono ?_
   rintro e w2 ⟨rfl,k2⟩
   go_wp2_with fail
   go_ret
   exact ⟨rfl,k1.trans (k2.mono k1.size)⟩
 | some p =>
  rw [hp] at c1
  unfold toldV at c1
  simp only at c1
  cases hq:parse (li t) with
  | none =>
   show Calls _ _ _ _ fun e w'=>e = .returned (.int .i64 0) ∧ _
   rw [hq] at c2
   unfold toldV at c2
   simp only at c2
   generalize S p.1 = x at *
   generalize S p.2.1 = y at *
   generalize S p.2.2 = z at *
   clear hp hq
   go_enter Tryz.func147,Tryz.ntmps147
   go_wp2_with fail
   refine c1.mono ?_
   rintro e w1 ⟨rfl,k1⟩
   go_wp2_with fail
   refine (c2 _ (HM.out.on k1)).mono ?_
   rintro e w2 ⟨rfl,k2⟩
   go_wp2_with fail
   go_ret
   exact ⟨rfl,k1.trans (k2.mono k1.size)⟩
  | some q =>
   show Calls _ _ _ _ fun e w'=>e = .returned (.int .i64 (orr (part p.1 q.1) (orr (part p.2.1 q.2.1) (part p.2.2 q.2.2)))) ∧ _
   rw [hq] at c2
   unfold toldV at c2
   simp only at c2
   obtain ⟨_,p1,p2,p3,p4⟩:=parse_some hp
   obtain ⟨_,q1,q2,q3,q4⟩:=parse_some hq
   have c3:=fun w=>compareNumbers_any (S p.1) (S q.1) w (by rw [S_size]; omega) (by rw [S_size]; omega)
   rw [S_li,S_li,num_part p2 q2] at c3
   have c4:=fun w=>part_any (S p.2.1) (S q.2.1) w (by rw [S_size]; omega) (by rw [S_size]; omega)
   rw [S_li,S_li] at c4
   have c5:=fun w=>part_any (S p.2.2) (S q.2.2) w (by rw [S_size]; omega) (by rw [S_size]; omega)
   rw [S_li,S_li] at c5
   clear hp hq p1 p2 p3 p4 q1 q2 q3 q4
   generalize part p.1 q.1 = m1 at *
   generalize part p.2.1 q.2.1 = m2 at *
   generalize part p.2.2 q.2.2 = m3 at *
   generalize S p.1 = x at *
   generalize S p.2.1 = y at *
   generalize S p.2.2 = z at *
   generalize S q.1 = x2 at *
   generalize S q.2.1 = y2 at *
   generalize S q.2.2 = z2 at *
   go_enter Tryz.func147,Tryz.ntmps147
   go_wp2_with fail
   refine c1.mono ?_
   rintro e w1 ⟨rfl,k1⟩
   go_wp2_with fail
   refine (c2 _ (HM.out.on k1)).mono ?_
   rintro e w2 ⟨rfl,k2⟩
   have k2':=k1.trans (k2.mono k1.size)
   clear c1 c2 k2
   go_wp2_with fail
   refine (c3 _).mono ?_
   rintro e w3 ⟨rfl,k3⟩
   have k3':=k2'.trans (k3.mono k2'.size)
   go_wp2_with fail
   refine (c4 _).mono ?_
   rintro e w4 ⟨rfl,k4⟩
   have k4':=k3'.trans (k4.mono k3'.size)
   go_wp2_with fail
   refine (c5 _).mono ?_
   rintro e w5 ⟨rfl,k5⟩
   have k5':=k4'.trans (k5.mono k4'.size)
   have c6:=cmpOr_any [m1,m2,m3] w5.heap.size (w5.alloc (.cells #[.int .i64 m1,.int .i64 m2,.int .i64 m3] 3)) (by simp) (by
    intro i hi
    rw [World.cell?_alloc_at _ _ _ _ (by simp)]
    have:i = 0 ∨ i = 1 ∨ i = 2:=by simp at hi; omega
    rcases this with rfl | rfl | rfl <;> rfl)
   rw [orl_three] at c6
   clear c3 c4 c5
   go_wp2_with fail
   refine c6.mono ?_
   rintro e w6 ⟨rfl,rfl⟩
   go_wp2_with fail
   go_ret
   exact ⟨rfl,k5'.alloc k5'.size _⟩
def sameV (a c:Bs):Bool:=(parse a).isSome && (parse c).isSome && decide (cmpV a c = 0)
set_option maxRecDepth 100000 in
theorem same_any (s t:ByteArray) (w:World) (hs:s.size ≤ 4611686018427387904) (ht:t.size ≤ 4611686018427387904) (hm:MaxLen w) :
  Calls Tryz.prog 97 #[.string s,.string t] w fun e w'=>e = .returned (.bool (sameV (li s) (li t))) ∧ Below w.heap.size w w':=by
 have c1:=isVersion_any s w hs hm
 have c2:=fun w hm=>isVersion_any t w ht hm
 have c3:=fun w hm=>compare_any s t w hs ht hm
 have HM:=Lib.hid hm
 clear hm
 unfold sameV
 generalize cmpV (li s) (li t) = m at *
 cases h1:(parse (li s)).isSome
 ·rw [h1] at c1
  rw [Bool.false_and,Bool.false_and]
  clear h1
  go_enter Tryz.func97,Tryz.ntmps97
  go_wp2_with fail
  refine c1.mono ?_
  rintro e w1 ⟨rfl,k1⟩
  go_wp2_with fail
  go_ret
  exact ⟨rfl,k1⟩
 ·rw [h1] at c1
  rw [Bool.true_and]
  cases h2:(parse (li t)).isSome
  ·rw [h2] at c2
   rw [Bool.false_and]
   clear h1 h2
   go_enter Tryz.func97,Tryz.ntmps97
   go_wp2_with fail
   refine c1.mono ?_
   rintro e w1 ⟨rfl,k1⟩
   go_wp2_with fail
   refine (c2 _ (HM.out.on k1)).mono ?_
   rintro e w2 ⟨rfl,k2⟩
   go_wp2_with fail
   go_ret
   exact ⟨rfl,k1.trans (k2.mono k1.size)⟩
  ·rw [h2] at c2
   rw [Bool.true_and]
   clear h1 h2
   go_enter Tryz.func97,Tryz.ntmps97
   go_wp2_with fail
   refine c1.mono ?_
   rintro e w1 ⟨rfl,k1⟩
   go_wp2_with fail
   refine (c2 _ (HM.out.on k1)).mono ?_
   rintro e w2 ⟨rfl,k2⟩
   have k2':=k1.trans (k2.mono k1.size)
   clear c1 c2 k2
   go_wp2_with fail
   refine (c3 _ (HM.out.on k2')).mono ?_
   rintro e w3 ⟨rfl,k3⟩
   go_wp2_with fail
   go_ret
   refine ⟨?_,k2'.trans (k3.mono k2'.size)⟩
   first | rfl | (congr 2; rw [Bool.eq_iff_iff]; simp)
end Ver
end Go.Proofs.YthmpepnikmdjpaaGreatDoor
namespace Go.Proofs.YthmpepnikmdjpaaGreatDoor
open Go.RowKit
set_option linter.unusedSimpArgs false
set_option linter.unusedVariables false
namespace Ver
theorem lit_rc:cmpV (li ⟨#[49,46,48,126,114,99,49]⟩) (li ⟨#[49,46,48]⟩) = -1:=by decide +kernel
theorem lit_epoch:cmpV (li ⟨#[49,58,48,46,49]⟩) (li ⟨#[57]⟩) = 1:=by decide +kernel
theorem lit_rev:cmpV (li ⟨#[49,46,48,45,49]⟩) (li ⟨#[49,46,48]⟩) = 1:=by decide +kernel
theorem told_shape (o:Option (Bs × Bs × Bs)):∃ x y z:ByteArray,∃ n:Int,toldV o = .tuple #[.string x,.string y,.string z,.int .i64 n] ∧ (o.isSome = true ↔ n = 0) ∧ (n = 0 ∨ n = 3):=by
 cases o with
 | none=>exact ⟨_,_,_,3,rfl,by simp,.inr rfl⟩
 | some p=>exact ⟨_,_,_,0,rfl,by simp,.inl rfl⟩
end Ver
end Go.Proofs.YthmpepnikmdjpaaGreatDoor
namespace Go.Proofs.YthmpepnikmdjpaaGreatDoor
open Go.RowKit
set_option linter.unusedSimpArgs false
set_option linter.unusedVariables false
namespace Ver
def signT:List ByteArray:=[⟨#[]⟩,⟨#[60,60]⟩,⟨#[60,61]⟩,⟨#[61]⟩,⟨#[62,61]⟩,⟨#[62,62]⟩]
def Signs (w:World):Prop:=∀ i,i < 6 → w.cell? ⟨1,i,none⟩ = some (.string (signT.getD i ⟨#[]⟩))
theorem Signs.on {w w':World} (h:Signs w) (hb:Below w.heap.size w w'):Signs w':=fun i hi=>(hb.cell (p:=⟨1,i,none⟩) (lt_cell (h i hi))).trans (h i hi)
def sgnS (r:Int):ByteArray:=if r = 1 then ⟨#[60,60]⟩ else if r = 2 then ⟨#[60,61]⟩ else if r = 3 then ⟨#[61]⟩ else if r = 4 then ⟨#[62,61]⟩ else if r = 5 then ⟨#[62,62]⟩ else ⟨#[]⟩
def relS (s:ByteArray):Int:=if s = ⟨#[60,60]⟩ then 1 else if s = ⟨#[60,61]⟩ then 2 else if s = ⟨#[61]⟩ then 3 else if s = ⟨#[62,61]⟩ then 4 else if s = ⟨#[62,62]⟩ then 5 else 0
set_option maxRecDepth 100000 in
theorem sign_any (r:Int) (w:World) (hg:Signs w):Calls Tryz.prog 89 #[.int .i64 r] w fun e w'=>e = .returned (.string (sgnS r)) ∧ w' = w:=by
 have g0:=hg 0 (by omega)
 have g1:=hg 1 (by omega)
 have g2:=hg 2 (by omega)
 have g3:=hg 3 (by omega)
 have g4:=hg 4 (by omega)
 have g5:=hg 5 (by omega)
 simp only [signT,List.getD_cons_zero,List.getD_cons_succ] at g0 g1 g2 g3 g4 g5
 clear hg
 by_cases hr:r < 0 ∨ 6 ≤ r
 ·rw [show sgnS r = ⟨#[]⟩ by unfold sgnS; rw [if_neg (by omega),if_neg (by omega),if_neg (by omega),if_neg (by omega),if_neg (by omega)]]
  rcases hr with h | h
  ·go_enter Tryz.func89,Tryz.ntmps89
   go_wp2_with fail
   go_ret
   exact ⟨rfl,rfl⟩
  ·have h2:¬ r < 0:=by omega
   go_enter Tryz.func89,Tryz.ntmps89
   go_wp2_with fail
   go_ret
   exact ⟨rfl,rfl⟩
 ·have hc:r = 0 ∨ r = 1 ∨ r = 2 ∨ r = 3 ∨ r = 4 ∨ r = 5:=by omega
  clear hr
  rcases hc with rfl | rfl | rfl | rfl | rfl | rfl
  all_goals
   go_enter Tryz.func89,Tryz.ntmps89
   go_wp2_with fail
   go_ret
   exact ⟨rfl,rfl⟩
theorem list_ne {s:ByteArray} {l:List UInt8} (h:s ≠ ⟨l.toArray⟩):(s.toList == l) = false ∧ (l == s.toList) = false:=by
 have:s.data.toList ≠ l:=fun e=>h (by apply ByteArray.ext; rw [← e])
 rw [Lib.toList_data]
 exact ⟨beq_eq_false_iff_ne.2 this,beq_eq_false_iff_ne.2 (Ne.symm this)⟩
theorem sixS (s:ByteArray):s = ⟨#[60,60]⟩ ∨ s = ⟨#[60,61]⟩ ∨ s = ⟨#[61]⟩ ∨ s = ⟨#[62,61]⟩ ∨ s = ⟨#[62,62]⟩ ∨ (s ≠ ⟨#[60,60]⟩ ∧ s ≠ ⟨#[60,61]⟩ ∧ s ≠ ⟨#[61]⟩ ∧ s ≠ ⟨#[62,61]⟩ ∧ s ≠ ⟨#[62,62]⟩):=by
 by_cases h1:s = ⟨#[60,60]⟩
 ·exact .inl h1
 by_cases h2:s = ⟨#[60,61]⟩
 ·exact .inr (.inl h2)
 by_cases h3:s = ⟨#[61]⟩
 ·exact .inr (.inr (.inl h3))
 by_cases h4:s = ⟨#[62,61]⟩
 ·exact .inr (.inr (.inr (.inl h4)))
 by_cases h5:s = ⟨#[62,62]⟩
 ·exact .inr (.inr (.inr (.inr (.inl h5))))
 exact .inr (.inr (.inr (.inr (.inr ⟨h1,h2,h3,h4,h5⟩))))
def signA:List Value:=[.string ⟨#[]⟩,.string ⟨#[60,60]⟩,.string ⟨#[60,61]⟩,.string ⟨#[61]⟩,.string ⟨#[62,61]⟩,.string ⟨#[62,62]⟩]
theorem index_sign (j:Nat) (v:Value) (w:World) (hj:j < 6) (h:signA.getD j default = v):(Instr.index 177 (.agg signA.toArray) (.int .i64 j)).run Tryz.prog w = .ok v w:=by
 have h1:Tryz.prog.underlying 177 = some (.array 6 9):=by kernel_rfl
 have h2:Tryz.prog.underlying 9 = some .string:=by kernel_rfl
 have hi:(Tryz.prog.info? 9).map (·.size) = some 1:=by kernel_rfl
 have hsz:∀ w,(sizeOf 9).run Tryz.prog w = .ok 1 w:=fun w=>by
  cases hq:Tryz.prog.info? 9 with
  | none=>simp [hq] at hi
  | some i =>
   have:i.size = 1:=by simpa [hq] using hi
   simp [sizeOf,typeInfo,hq,this]
 have hj':(0:Int) ≤ j ∧ (j:Int) < (6:Nat):=by omega
 have ha:∀ w,(isAgg 9).run Tryz.prog w = .ok false w:=fun w=>by
  unfold isAgg
  simp only [Sem.run_bind,run_underlying h2,Result.andThen_ok,Sem.run_pure]
 have hl:j < signA.length:=hj
 have hg:signA.toArray[j]? = some v:=by
  rw [List.getElem?_toArray,List.getElem?_eq_getElem hl,← h,List.getD_eq_getElem?_getD,List.getElem?_eq_getElem hl]; rfl
 simp only [Instr.index,asIntOf,Sem.run_bind,Sem.run_pure,Result.andThen_ok,run_underlying h1,hj',and_self,if_true,hsz,Int.toNat_natCast,Go.part,ha,Nat.mul_one,hg,Bool.false_eq_true,if_false]
set_option maxRecDepth 100000 in
set_option maxHeartbeats 4000000 in
theorem rel_any (s:ByteArray) (w:World) (hg:Signs w):Calls Tryz.prog 248 #[.string s] w fun e w'=>e = .returned (.int .i64 (relS s)) ∧ w' = w:=by
 have g0:=hg 0 (by omega)
 have g1:=hg 1 (by omega)
 have g2:=hg 2 (by omega)
 have g3:=hg 3 (by omega)
 have g4:=hg 4 (by omega)
 have g5:=hg 5 (by omega)
 simp only [signT,List.getD_cons_zero,List.getD_cons_succ] at g0 g1 g2 g3 g4 g5
 clear hg
 have ix:∀ (j:Nat) (v:Value) (w:World),j < 6 → signA.getD j default = v → (Instr.index 177 (.agg #[.string ⟨#[]⟩,.string ⟨#[60,60]⟩,.string ⟨#[60,61]⟩,.string ⟨#[61]⟩,.string ⟨#[62,61]⟩,.string ⟨#[62,62]⟩]) (.int .i64 j)).run Tryz.prog w = .ok v w:=fun j v w hj h=>index_sign j v w hj h
 have i0:∀ w,(Instr.index 177 (.agg #[.string ⟨#[]⟩,.string ⟨#[60,60]⟩,.string ⟨#[60,61]⟩,.string ⟨#[61]⟩,.string ⟨#[62,61]⟩,.string ⟨#[62,62]⟩]) (.int .i64 0)).run Tryz.prog w = .ok (.string ⟨#[]⟩) w:=fun w=>ix 0 (.string ⟨#[]⟩) w (by decide) rfl
 have i1:∀ w,(Instr.index 177 (.agg #[.string ⟨#[]⟩,.string ⟨#[60,60]⟩,.string ⟨#[60,61]⟩,.string ⟨#[61]⟩,.string ⟨#[62,61]⟩,.string ⟨#[62,62]⟩]) (.int .i64 1)).run Tryz.prog w = .ok (.string ⟨#[60,60]⟩) w:=fun w=>ix 1 (.string ⟨#[60,60]⟩) w (by decide) rfl
 have i2:∀ w,(Instr.index 177 (.agg #[.string ⟨#[]⟩,.string ⟨#[60,60]⟩,.string ⟨#[60,61]⟩,.string ⟨#[61]⟩,.string ⟨#[62,61]⟩,.string ⟨#[62,62]⟩]) (.int .i64 2)).run Tryz.prog w = .ok (.string ⟨#[60,61]⟩) w:=fun w=>ix 2 (.string ⟨#[60,61]⟩) w (by decide) rfl
 have i3:∀ w,(Instr.index 177 (.agg #[.string ⟨#[]⟩,.string ⟨#[60,60]⟩,.string ⟨#[60,61]⟩,.string ⟨#[61]⟩,.string ⟨#[62,61]⟩,.string ⟨#[62,62]⟩]) (.int .i64 3)).run Tryz.prog w = .ok (.string ⟨#[61]⟩) w:=fun w=>ix 3 (.string ⟨#[61]⟩) w (by decide) rfl
 have i4:∀ w,(Instr.index 177 (.agg #[.string ⟨#[]⟩,.string ⟨#[60,60]⟩,.string ⟨#[60,61]⟩,.string ⟨#[61]⟩,.string ⟨#[62,61]⟩,.string ⟨#[62,62]⟩]) (.int .i64 4)).run Tryz.prog w = .ok (.string ⟨#[62,61]⟩) w:=fun w=>ix 4 (.string ⟨#[62,61]⟩) w (by decide) rfl
 have i5:∀ w,(Instr.index 177 (.agg #[.string ⟨#[]⟩,.string ⟨#[60,60]⟩,.string ⟨#[60,61]⟩,.string ⟨#[61]⟩,.string ⟨#[62,61]⟩,.string ⟨#[62,62]⟩]) (.int .i64 5)).run Tryz.prog w = .ok (.string ⟨#[62,62]⟩) w:=fun w=>ix 5 (.string ⟨#[62,62]⟩) w (by decide) rfl
 clear ix
 rcases sixS s with rfl | rfl | rfl | rfl | rfl | ⟨h1,h2,h3,h4,h5⟩
 ·rw [show relS _ = 1 by decide +kernel]
  go_enter Tryz.func248,Tryz.ntmps248
  go_wp2_with fail
  refine wp_loop_rounds 7 ?_
  rw [rounds_succ]
  go_wp2_with fail
  rw [rounds_succ]
  go_wp2_with fail
  go_ret
  exact ⟨rfl,rfl⟩
 ·rw [show relS _ = 2 by decide +kernel]
  go_enter Tryz.func248,Tryz.ntmps248
  go_wp2_with fail
  refine wp_loop_rounds 7 ?_
  rw [rounds_succ]
  go_wp2_with fail
  rw [rounds_succ]
  go_wp2_with fail
  rw [rounds_succ]
  go_wp2_with fail
  go_ret
  exact ⟨rfl,rfl⟩
 ·rw [show relS _ = 3 by decide +kernel]
  go_enter Tryz.func248,Tryz.ntmps248
  go_wp2_with fail
  refine wp_loop_rounds 7 ?_
  rw [rounds_succ]
  go_wp2_with fail
  rw [rounds_succ]
  go_wp2_with fail
  rw [rounds_succ]
  go_wp2_with fail
  rw [rounds_succ]
  go_wp2_with fail
  go_ret
  exact ⟨rfl,rfl⟩
 ·rw [show relS _ = 4 by decide +kernel]
  go_enter Tryz.func248,Tryz.ntmps248
  go_wp2_with fail
  refine wp_loop_rounds 7 ?_
  rw [rounds_succ]
  go_wp2_with fail
  rw [rounds_succ]
  go_wp2_with fail
  rw [rounds_succ]
  go_wp2_with fail
  rw [rounds_succ]
  go_wp2_with fail
  rw [rounds_succ]
  go_wp2_with fail
  go_ret
  exact ⟨rfl,rfl⟩
 ·rw [show relS _ = 5 by decide +kernel]
  go_enter Tryz.func248,Tryz.ntmps248
  go_wp2_with fail
  refine wp_loop_rounds 7 ?_
  rw [rounds_succ]
  go_wp2_with fail
  rw [rounds_succ]
  go_wp2_with fail
  rw [rounds_succ]
  go_wp2_with fail
  rw [rounds_succ]
  go_wp2_with fail
  rw [rounds_succ]
  go_wp2_with fail
  rw [rounds_succ]
  go_wp2_with fail
  go_ret
  exact ⟨rfl,rfl⟩
 ·rw [show relS s = 0 by unfold relS; rw [if_neg h1,if_neg h2,if_neg h3,if_neg h4,if_neg h5]]
  obtain ⟨a1,b1⟩:=list_ne (l:=[60,60]) h1
  obtain ⟨a2,b2⟩:=list_ne (l:=[60,61]) h2
  obtain ⟨a3,b3⟩:=list_ne (l:=[61]) h3
  obtain ⟨a4,b4⟩:=list_ne (l:=[62,61]) h4
  obtain ⟨a5,b5⟩:=list_ne (l:=[62,62]) h5
  clear h1 h2 h3 h4 h5
  by_cases h0:s.size = 0
  ·obtain ⟨e0,_⟩:=empty_is h0
   go_enter Tryz.func248,Tryz.ntmps248
   go_wp2_with fail
   refine wp_loop_rounds 7 ?_
   rw [rounds_succ]
   go_wp2_with fail
   go_ret
   exact ⟨rfl,rfl⟩
  ·obtain ⟨e0,_⟩:=empty_no h0
   go_enter Tryz.func248,Tryz.ntmps248
   go_wp2_with fail
   refine wp_loop_rounds 7 ?_
   rw [rounds_succ]
   go_wp2_with fail
   rw [rounds_succ]
   go_wp2_with fail
   rw [rounds_succ]
   go_wp2_with fail
   rw [rounds_succ]
   go_wp2_with fail
   rw [rounds_succ]
   go_wp2_with fail
   rw [rounds_succ]
   go_wp2_with fail
   rw [rounds_succ]
   go_wp2_with fail
   go_ret
   exact ⟨rfl,rfl⟩
end Ver
end Go.Proofs.YthmpepnikmdjpaaGreatDoor
namespace Go.Proofs.YthmpepnikmdjpaaGreatDoor
open Go.RowKit
set_option linter.unusedSimpArgs false
set_option linter.unusedVariables false
namespace Rl
open Ver (Bs li li_len li_drop S S_self S_of S_size S_li below_drewN empty_is empty_no MaxLen Signs)
structure Vars (w:World):Prop where
 maxLen:MaxLen w
 signs:Signs w
theorem Vars.on {w w':World} (h:Vars w) (hb:Below w.heap.size w w'):Vars w':=⟨h.maxLen.on hb,h.signs.on hb⟩
theorem Vars.chg {w w':World} {Q:Nat → Prop} (h:Vars w) (hc:Blk.Chg Q w w') (h1:¬ Q 2) (h2:¬ Q 1):Vars w':=by
 refine ⟨?_,fun i hi=>?_⟩
 ·obtain ⟨m,hm⟩:=h.maxLen
  exact ⟨m,by rw [World.cell?_of_block (hc.block _ h.maxLen.lt h1)]; exact hm⟩
 ·have hh:=h.signs i hi
  rw [World.cell?_of_block (hc.block _ (Ver.lt_cell hh) h2)]
  exact hh
theorem okAt_rest (s:ByteArray) (j:Nat) (c:UInt8) (hb:c.toNat = Txt.b s j) (h0:j ≠ 0):Txt.okAt s j = nch c:=by
 unfold Txt.okAt nch lds mrs Txt.ltr Txt.dgt Txt.mrk
 rw [← hb,Bool.eq_iff_iff]
 simp [h0,UInt8.le_iff_toNat_le,← UInt8.toNat_inj]
theorem okAt_zero (s:ByteArray) (c:UInt8) (hb:c.toNat = Txt.b s 0):Txt.okAt s 0 = lds c:=by
 unfold Txt.okAt lds Txt.ltr Txt.dgt
 rw [← hb,Bool.eq_iff_iff]
 simp [UInt8.le_iff_toNat_le,← UInt8.toNat_inj]
theorem name_is (s:ByteArray):decide (Txt.nameOK s) = nmB (li s):=by
 by_cases h0:s.size = 0
 ·rw [(empty_is h0).2]
  exact decide_eq_false fun h=>by have:=h.1.1; omega
 ·obtain ⟨c,hc,hb⟩:=li_drop s 0 (by omega)
  rw [List.drop_zero] at hc
  rw [hc,Bool.eq_iff_iff,decide_eq_true_eq]
  show _ ↔ (decide (1 ≤ ((li s).drop (0 + 1)).length ∧ ((li s).drop (0 + 1)).length ≤ 23) && lds c && ((li s).drop (0 + 1)).all nch) = true
  simp only [Bool.and_eq_true,decide_eq_true_eq,List.length_drop,li_len]
  unfold Txt.nameOK
  constructor
  ·rintro ⟨h1,h2⟩
   refine ⟨⟨by omega,by rw [← okAt_zero s c hb]; exact h2 0 (by omega)⟩,?_⟩
   rw [List.all_eq_true]
   intro x hx
   obtain ⟨j,hj,rfl⟩:=List.mem_iff_getElem.1 hx
   rw [List.length_drop,li_len] at hj
   rw [List.getElem_drop]
   rw [← okAt_rest s (0 + 1 + j) _ _ (by omega)]
   ·exact h2 _ (by omega)
   ·unfold Txt.b; rw [dif_pos (by omega)]; rfl
  ·rintro ⟨⟨h1,h2⟩,h3⟩
   refine ⟨by omega,fun j hj=>?_⟩
   by_cases hj0:j = 0
   ·subst hj0; rw [okAt_zero s c hb]; exact h2
   ·have hl:j < (li s).length:=by rw [li_len]; exact hj
    rw [okAt_rest s j ((li s)[j]) (by unfold Txt.b; rw [dif_pos hj]; rfl) hj0]
    refine List.all_eq_true.1 h3 _ ?_
    rw [List.mem_iff_getElem]
    exact ⟨j - 1,by rw [List.length_drop]; omega,by rw [List.getElem_drop]; congr 1; omega⟩
theorem name_any (n:Bs) (w:World) (hs:n.length ≤ 4611686018427387904) :
  Calls Tryz.prog 38 #[.string (S n)] w fun e w'=>e = .returned (.bool (nmB n)) ∧ Below w.heap.size w w':=by
 have c:=Txt.name_any (S n) w (by rw [S_size]; omega)
 rwa [name_is,S_li] at c
theorem sgn_S (r:Int):Ver.sgnS r = S (sgnN r):=by
 unfold Ver.sgnS sgnN
 repeat' split
 all_goals rfl
theorem rel_S (s:Bs):Ver.relS (S s) = relN s:=by
 have e:∀ l:Bs,(S s = ⟨l.toArray⟩) = (s = l):=fun l=>propext ⟨fun h=>by rw [← S_li s,h],fun h=>by rw [h]; rfl⟩
 unfold Ver.relS relN
 simp only [← e]
theorem sgn_ne {r:Int} (h:1 ≤ r ∧ r ≤ 5):sgnN r ≠ []:=by
 have:r = 1 ∨ r = 2 ∨ r = 3 ∨ r = 4 ∨ r = 5:=by omega
 rcases this with rfl | rfl | rfl | rfl | rfl <;> decide
theorem sgn_no {r:Int} (h:¬ (1 ≤ r ∧ r ≤ 5)):sgnN r = []:=by
 unfold sgnN
 rw [if_neg (by omega),if_neg (by omega),if_neg (by omega),if_neg (by omega),if_neg (by omega)]
theorem isEmpty_S (l:Bs):(S l).toList.isEmpty = l.isEmpty:=by rw [Lib.toList_data]; show (l.toArray.toList).isEmpty = _; simp
theorem cells3 {w:World} {b:Nat} {T:TypeId} {x y z:Value} (h:Blk.Is w b T #[x,y,z]):w.cell? ⟨b,0,none⟩ = some x ∧ w.cell? ⟨b,1,none⟩ = some y ∧ w.cell? ⟨b,2,none⟩ = some z:=⟨h.at rfl,h.at rfl,h.at rfl⟩
theorem is_on {w w':World} {b:Nat} {T:TypeId} {cs:Array Value} (h:Blk.Is w b T cs) (hb:Below w.heap.size w w'):Blk.Is w' b T cs:=(Blk.Chg.ofBelow' (S:=fun _=>False) hb).is h (by simp)
def aV (a:At):Value:=.agg #[.string (S a.1),.int .i64 a.2.1,.string (S a.2.2)]
set_option maxRecDepth 100000 in
set_option maxHeartbeats 1000000 in
theorem mayAtom_any (a:At) (w:World) (h1:a.1.length ≤ 4611686018427387904) (h2:a.2.2.length ≤ 4611686018427387904) (hv:Vars w) :
  Calls Tryz.prog 43 #[aV a] w fun e w'=>e = .returned (.bool (may a)) ∧ Below w.heap.size w w':=by
 obtain ⟨n,r,v⟩:=a
 unfold aV
 simp only at h1 h2 ⊢
 have cn:=fun w=>name_any n w h1
 by_cases hr:r = 0
 ·subst hr
  have hm:may (n,0,v) = (nmB n && v.isEmpty):=by unfold may; simp
  rw [hm]
  have he:=isEmpty_S v
  generalize nmB n = g at *
  generalize v.isEmpty = d at *
  generalize S n = x at *
  generalize S v = y at *
  clear hv hm
  cases g <;> cases d
  all_goals
   have hb0:=Blk.Is.new w 78 #[.string x,.int .i64 0,.string y]
   have hB0:Below w.heap.size w (w.alloc (.cells #[.string x,.int .i64 0,.string y] 78)):=(Below.refl _ _).alloc (Nat.le_refl _) _
   go_enter Tryz.func43,Tryz.ntmps43
   go_wp2_with fail
   generalize w.alloc (.cells #[.string x,.int .i64 0,.string y] 78) = W at *
   refine (cn _).mono ?_
   rintro e w1 ⟨rfl,k1⟩
   obtain ⟨_,_,c2⟩:=cells3 (is_on hb0 k1)
   have k1':=hB0.trans (k1.mono hB0.size)
   clear hb0 hB0
   go_wp2_with fail
   go_ret
   exact ⟨rfl,k1'⟩
 ·have hm:may (n,r,v) = (nmB n && (decide (1 ≤ r ∧ r ≤ 5) && isV v)):=by unfold may; simp only; rw [if_neg hr]
  rw [hm]
  have cv:=fun w hm=>Ver.parse_any (S v) w (by rw [S_size]; omega) hm
  rw [S_li] at cv
  have cg:=fun w hg=>Ver.sign_any r w hg
  rw [sgn_S] at cg
  have he:=isEmpty_S (sgnN r)
  have hd:(sgnN r).isEmpty = !decide (1 ≤ r ∧ r ≤ 5):=by
   by_cases h:1 ≤ r ∧ r ≤ 5
   ·rw [decide_eq_true h]; have:=sgn_ne h; cases hs:sgnN r with
    | nil=>exact absurd hs this
    | cons c t=>rfl
   ·rw [decide_eq_false h,sgn_no h]; rfl
  rw [hd] at he
  obtain ⟨y1,y2,y3,m,ht,hi,hm3⟩:=Ver.told_shape (Ver.parse v)
  rw [ht] at cv
  have hiv:isV v = decide (m = 0):=by unfold isV; rw [Bool.eq_iff_iff,hi,decide_eq_true_eq]
  rw [hiv]
  generalize decide (1 ≤ r ∧ r ≤ 5) = d at *
  generalize nmB n = g at *
  generalize S (sgnN r) = sg at *
  generalize S n = x at *
  generalize S v = y at *
  have HV:=Lib.hid hv
  clear hv hm hd ht hi hiv
  rcases hm3 with rfl | rfl
  all_goals
   cases g <;> cases d
   all_goals
    simp only [Bool.not_true,Bool.not_false] at he
    have hr0:(r == 0) = false:=by simpa using hr
    have hb0:=Blk.Is.new w 78 #[.string x,.int .i64 r,.string y]
    have hB0:Below w.heap.size w (w.alloc (.cells #[.string x,.int .i64 r,.string y] 78)):=(Below.refl _ _).alloc (Nat.le_refl _) _
    go_enter Tryz.func43,Tryz.ntmps43
    go_wp2_with fail
    generalize w.alloc (.cells #[.string x,.int .i64 r,.string y] 78) = W at *
    refine (cv _ (HV.out.on hB0).maxLen).mono ?_
    rintro e w1 ⟨rfl,k1⟩
    have hb1:=is_on hb0 k1
    obtain ⟨c0,_,_⟩:=cells3 hb1
    have k1':=hB0.trans (k1.mono hB0.size)
    clear hb0 hB0 k1
    go_wp2_with fail
    refine (cn _).mono ?_
    rintro e w2 ⟨rfl,k2⟩
    obtain ⟨_,c1,_⟩:=cells3 (is_on hb1 k2)
    have k2':=k1'.trans (k2.mono k1'.size)
    clear hb1 k1' k2
    go_wp2_with fail
    try
     refine (cg _ (HV.out.on k2').signs).mono ?_
     rintro e w3 ⟨rfl,rfl⟩
     go_wp2_with fail
    go_ret
    exact ⟨rfl,k2'⟩
end Rl
end Go.Proofs.YthmpepnikmdjpaaGreatDoor
namespace Go.Proofs.YthmpepnikmdjpaaGreatDoor
open Go.RowKit
set_option linter.unusedSimpArgs false
set_option linter.unusedVariables false
namespace Ver
open Txt (b b_eq b_lt)
def FirstAt (s:ByteArray) (x:UInt8) (k:Int):Prop:=(k = -1 ∧ cut1 x (li s) = none) ∨ ∃ i:Nat,k = i ∧ i < s.size ∧ cut1 x (li s) = some ((li s).take i,(li s).drop (i + 1))
def LastAt (s:ByteArray) (x:UInt8) (k:Int):Prop:=(k = -1 ∧ cutZ x (li s) = none) ∨ ∃ i:Nat,k = i ∧ i < s.size ∧ cutZ x (li s) = some ((li s).take i,(li s).drop (i + 1))
set_option maxRecDepth 100000 in
theorem yfirst_any (s:ByteArray) (x:UInt8) (w:World) (hs:s.size ≤ 4611686018427387904) :
  Calls Tryz.prog 142 #[.string s,.int .u8 x.toNat] w fun e w'=>∃ k,e = .returned (.int .i64 k) ∧ FirstAt s x k ∧ w' = w:=by
 have hF:∀ i,i < s.size → b s i = x.toNat → (∀ j,j < i → b s j ≠ x.toNat) → FirstAt s x i:=fun i hi hx h=>.inr ⟨i,rfl,hi,cut1_at hi hx h⟩
 have hN:(∀ j,j < s.size → b s j ≠ x.toNat) → FirstAt s x (-1):=fun h=>.inl ⟨rfl,cut1_none h⟩
 have hxl:=UInt8.toNat_lt x
 have HF:=Lib.hid hF
 have HNO:=Lib.hid hN
 clear hF hN
 obtain ⟨X,hX⟩:∃ X,x.toNat = X:=⟨_,rfl⟩
 rw [hX] at HF HNO hxl ⊢
 clear hX
 go_enter Tryz.func142,Tryz.ntmps142
 go_wp2
 go_loopg [8] s.size (fun gf s8 wx=>∃ pos:Nat,s8 = .int .i64 pos ∧ wx = w ∧ Hid (∀ j,j < pos → b s j ≠ X) ∧ s.size ≤ pos + gf ∧ pos ≤ s.size)
 case atStart=>exact ⟨0,rfl,rfl,fun j hj=>by omega,by omega,by omega⟩
 case round =>
  obtain ⟨pos,rfl,rfl,HN,hfu,hps⟩:=hrel
  by_cases hlt:pos < s.size
  ·obtain ⟨g',rfl⟩:∃ g',gk = g' + 1:=⟨gk - 1,by omega⟩
   have hlt':(pos:Int) < (s.size:Int):=by omega
   have hbc:=b_eq s pos hlt
   have hbl:=b_lt s pos
   by_cases hc:b s pos = X
   ·have HK:=Lib.hid (HF.out pos hlt hc HN.out)
    rw [hc] at hbc hbl
    clear HF HNO HN hc
    go_wp2_with fail
    go_ret
    exact ⟨_,rfl,HK.out,rfl⟩
   ·have HM:Hid (∀ j,j < pos + 1 → b s j ≠ X):=fun j hj=>by
     by_cases e:j = pos
     ·subst e; exact hc
     ·exact HN.out j (by omega)
    obtain ⟨c,hcc⟩:∃ c,b s pos = c:=⟨_,rfl⟩
    rw [hcc] at hbc hbl hc
    have hne:((c:Int) == (X:Int)) = false:=by simp; omega
    clear hcc HN
    go_wp2_with fail
    go_roundg g'
    case measure=>omega
    case rel=>exact ⟨pos + 1,by go_num,rfl,HM,by omega,by omega⟩
  ·have hge:¬ (pos:Int) < (s.size:Int):=by omega
   have HK:=Lib.hid (HNO.out fun j hj=>HN.out j (by omega))
   clear HF HNO HN
   go_wp2_with fail
   go_ret
   exact ⟨_,rfl,HK.out,rfl⟩
set_option maxRecDepth 100000 in
theorem ylast_any (s:ByteArray) (x:UInt8) (w:World) (hs:s.size ≤ 4611686018427387904) :
  Calls Tryz.prog 143 #[.string s,.int .u8 x.toNat] w fun e w'=>∃ k,e = .returned (.int .i64 k) ∧ LastAt s x k ∧ w' = w:=by
 have hF:∀ i,i < s.size → b s i = x.toNat → (∀ j,i < j → j < s.size → b s j ≠ x.toNat) → LastAt s x i:=fun i hi hx h=>.inr ⟨i,rfl,hi,cutZ_at hi hx h⟩
 have hN:(∀ j,j < s.size → b s j ≠ x.toNat) → LastAt s x (-1):=fun h=>.inl ⟨rfl,cutZ_none h⟩
 have hxl:=UInt8.toNat_lt x
 have HF:=Lib.hid hF
 have HNO:=Lib.hid hN
 clear hF hN
 obtain ⟨X,hX⟩:∃ X,x.toNat = X:=⟨_,rfl⟩
 rw [hX] at HF HNO hxl ⊢
 clear hX
 go_enter Tryz.func143,Tryz.ntmps143
 go_wp2
 go_loopg [5] s.size (fun gf s5 wx=>s5 = .int .i64 ((gf:Int) - 1) ∧ wx = w ∧ Hid (∀ j,gf ≤ j → j < s.size → b s j ≠ X) ∧ gf ≤ s.size)
 case atStart=>exact ⟨rfl,rfl,fun j h1 h2=>by omega,Nat.le_refl _⟩
 case round =>
  obtain ⟨rfl,rfl,HN,hfu⟩:=hrel
  by_cases h0:gk = 0
  ·subst h0
   have HK:=Lib.hid (HNO.out fun j hj=>HN.out j (by omega) hj)
   clear HF HNO HN
   go_wp2_with fail
   go_ret
   exact ⟨_,rfl,HK.out,rfl⟩
  ·obtain ⟨g',rfl⟩:∃ g',gk = g' + 1:=⟨gk - 1,by omega⟩
   have hg:((g' + 1:Nat):Int) - 1 = (g':Int):=by omega
   rw [hg]
   have hlt':(g':Int) < (s.size:Int):=by omega
   have hlt:g' < s.size:=by omega
   have hbc:=b_eq s g' hlt
   have hbl:=b_lt s g'
   by_cases hc:b s g' = X
   ·have HK:=Lib.hid (HF.out g' hlt hc fun j h1 h2=>HN.out j (by omega) h2)
    rw [hc] at hbc hbl
    clear HF HNO HN hc hg
    go_wp2_with fail
    go_ret
    exact ⟨_,rfl,HK.out,rfl⟩
   ·have HM:Hid (∀ j,g' ≤ j → j < s.size → b s j ≠ X):=fun j h1 h2=>by
     by_cases e:j = g'
     ·subst e; exact hc
     ·exact HN.out j (by omega) h2
    obtain ⟨c,hcc⟩:∃ c,b s g' = c:=⟨_,rfl⟩
    rw [hcc] at hbc hbl hc
    have hne:((c:Int) == (X:Int)) = false:=by simp; omega
    clear hcc HN hg
    go_wp2_with fail
    go_roundg g'
    case measure=>omega
    case rel=>exact ⟨by go_num,rfl,HM,by omega⟩
end Ver
end Go.Proofs.YthmpepnikmdjpaaGreatDoor

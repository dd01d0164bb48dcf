/-
The reference's Compare, Is, SameVersion, Holds. The reader of package relation: an atom. Rows of the call's own: where they lie, their cells; append of one element.
-/
import Derived.Test.YtmhpjjjjgakpiaaGreatDoorCVerRefVersion
import Derived.Test.YtmhpjjjjgakpiaaGreatDoorCVerRefK
import Derived.Test.YtmhpjjjjgakpiaaGreatDoorCVerSignsK
import Derived.LoopN
import Derived.Test.YtmhpjjjjgakpiaaGreatDoorCVerRefParse
import Derived.Test.YtmhpjjjjgakpiaaGreatDoorCRelDef
import Derived.Laws.Concat
import Derived.Test.YtmhpjjjjgakpiaaGreatDoorCTextUtf
namespace Go.Proofs.YtmhpjjjjgakpiaaGreatDoor
open Go.RowKit
set_option linter.unusedSimpArgs false
set_option linter.unusedVariables false
namespace Ver
theorem index_pair (cs:Array Value) (j:Nat) (hj:j < 3) (w:World):(Instr.index 122 (.agg cs) (.int .i64 j)).run Tryz.prog w = .ok (.agg (cs.extract (j * 2) (j * 2 + 2))) w:=by
 have h1:Tryz.prog.underlying 122 = some (.array 3 121):=by kernel_rfl
 have h2:Tryz.prog.underlying 121 = some (.array 2 9):=by kernel_rfl
 have hi:(Tryz.prog.info? 121).map (·.size) = some 2:=by kernel_rfl
 have hsz:∀ w,(sizeOf 121).run Tryz.prog w = .ok 2 w:=fun w=>by
  cases hq:Tryz.prog.info? 121 with
  | none=>simp [hq] at hi
  | some i =>
   have:i.size = 2:=by simpa [hq] using hi
   simp [sizeOf,typeInfo,hq,this]
 have hj':(0:Int) ≤ j ∧ (j:Int) < (3:Nat):=by omega
 have ha:∀ w,(isAgg 121).run Tryz.prog w = .ok true w:=fun w=>by
  unfold isAgg
  simp only [Sem.run_bind,run_underlying h2,Result.andThen_ok,Sem.run_pure]
 simp only [Instr.index,asIntOf,Sem.run_bind,Sem.run_pure,Result.andThen_ok,run_underlying h1,hj',and_self,if_true,hsz,Int.toNat_natCast,Go.part,ha]
set_option maxRecDepth 100000 in
set_option maxHeartbeats 4000000 in
theorem ycompare_any (s t:ByteArray) (w:World) (hs:s.size ≤ 4611686018427387904) (ht:t.size ≤ 4611686018427387904) :
  Calls Tryz.prog 47 #[.string s,.string t] w fun e w'=>e = .returned (.int .i64 (cmpV (li s) (li t))) ∧ Below w.heap.size w w':=by
 have c1:=yversion_any s w hs
 have c2:=fun w=>yversion_any t w ht
 unfold cmpV
 cases hp:parse (li s) with
 | none =>
  rw [hp] at c1
  unfold ytold at c1
  simp only at c1
  show Calls _ _ _ _ fun e w'=>e = .returned (.int .i64 0) ∧ _
  cases hq:parse (li t) with
  | none =>
   rw [hq] at c2
   unfold ytold at c2
   simp only at c2
   clear hp hq
   go_enter Tryz.func47,Tryz.ntmps47
   go_wp2_with fail
   refine c1.mono ?_
   rintro e w1 ⟨rfl,k1⟩
   go_wp2_with fail
   refine (c2 _).mono ?_
   rintro e w2 ⟨rfl,k2⟩
   go_wp2_with fail
   go_ret
   exact ⟨rfl,k1.trans (k2.mono k1.size)⟩
  | some q =>
   rw [hq] at c2
   unfold ytold at c2
   simp only at c2
   generalize S q.1 = x at *
   generalize S q.2.1 = y at *
   generalize S q.2.2 = z at *
   clear hp hq
   go_enter Tryz.func47,Tryz.ntmps47
   go_wp2_with fail
   refine c1.mono ?_
   rintro e w1 ⟨rfl,k1⟩
   go_wp2_with fail
   refine (c2 _).mono ?_
   rintro e w2 ⟨rfl,k2⟩
   go_wp2_with fail
   go_ret
   exact ⟨rfl,k1.trans (k2.mono k1.size)⟩
 | some p =>
  rw [hp] at c1
  unfold ytold at c1
  simp only at c1
  cases hq:parse (li t) with
  | none =>
   show Calls _ _ _ _ fun e w'=>e = .returned (.int .i64 0) ∧ _
   rw [hq] at c2
   unfold ytold at c2
   simp only at c2
   generalize S p.1 = x at *
   generalize S p.2.1 = y at *
   generalize S p.2.2 = z at *
   clear hp hq
   go_enter Tryz.func47,Tryz.ntmps47
   go_wp2_with fail
   refine c1.mono ?_
   rintro e w1 ⟨rfl,k1⟩
   go_wp2_with fail
   refine (c2 _).mono ?_
   rintro e w2 ⟨rfl,k2⟩
   go_wp2_with fail
   go_ret
   exact ⟨rfl,k1.trans (k2.mono k1.size)⟩
  | some q =>
   show Calls _ _ _ _ fun e w'=>e = .returned (.int .i64 (orr (part p.1 q.1) (orr (part p.2.1 q.2.1) (part p.2.2 q.2.2)))) ∧ _
   rw [hq] at c2
   unfold ytold at c2
   simp only at c2
   obtain ⟨_,p1,p2,p3,p4⟩:=parse_some hp
   obtain ⟨_,q1,q2,q3,q4⟩:=parse_some hq
   have c3:=fun w=>ypart_any (S p.1) (S q.1) w (by rw [S_size]; omega) (by rw [S_size]; omega)
   rw [S_li,S_li] at c3
   have c4:=fun w=>ypart_any (S p.2.1) (S q.2.1) w (by rw [S_size]; omega) (by rw [S_size]; omega)
   rw [S_li,S_li] at c4
   have c5:=fun w=>ypart_any (S p.2.2) (S q.2.2) w (by rw [S_size]; omega) (by rw [S_size]; omega)
   rw [S_li,S_li] at c5
   clear hp hq p1 p2 p3 p4 q1 q2 q3 q4
   generalize part p.1 q.1 = m1 at *
   generalize part p.2.1 q.2.1 = m2 at *
   generalize part p.2.2 q.2.2 = m3 at *
   generalize S p.1 = x at *
   generalize S p.2.1 = y at *
   generalize S p.2.2 = z at *
   generalize S q.1 = x2 at *
   generalize S q.2.1 = y2 at *
   generalize S q.2.2 = z2 at *
   obtain ⟨G,hG⟩:∃ G,orr m1 (orr m2 m3) = G:=⟨_,rfl⟩
   have HG:=Lib.hid hG
   rw [hG]
   clear hG
   go_enter Tryz.func47,Tryz.ntmps47
   go_wp2_with fail
   refine c1.mono ?_
   rintro e w1 ⟨rfl,k1⟩
   go_wp2_with fail
   refine (c2 _).mono ?_
   rintro e w2 ⟨rfl,k2⟩
   have k2':=k1.trans (k2.mono k1.size)
   clear c1 c2 k2
   go_wp2_with fail
   refine wp_loop_rounds 4 ?_
   have i0:∀ w,(Instr.index 122 (.agg #[.string x,.string x2,.string y,.string y2,.string z,.string z2]) (.int .i64 0)).run Tryz.prog w = .ok (.agg #[.string x,.string x2]) w:=fun w=>index_pair _ 0 (by omega) w
   have i1:∀ w,(Instr.index 122 (.agg #[.string x,.string x2,.string y,.string y2,.string z,.string z2]) (.int .i64 1)).run Tryz.prog w = .ok (.agg #[.string y,.string y2]) w:=fun w=>index_pair _ 1 (by omega) w
   have i2:∀ w,(Instr.index 122 (.agg #[.string x,.string x2,.string y,.string y2,.string z,.string z2]) (.int .i64 2)).run Tryz.prog w = .ok (.agg #[.string z,.string z2]) w:=fun w=>index_pair _ 2 (by omega) w
   rw [rounds_succ]
   go_wp2_with fail
   refine (c3 _).mono ?_
   rintro e w3 ⟨rfl,k⟩
   have k3:=k2'.trans ((((Below.refl w2.heap.size w2).alloc (Nat.le_refl _) _).trans (k.mono (by simp))).mono k2'.size)
   clear k c3 i0
   by_cases h1:m1 = 0
   ·have HG2:=Lib.hid (orr_of_zero HG.out h1)
    subst h1
    clear HG
    go_wp2_with fail
    rw [rounds_succ]
    go_wp2_with fail
    refine (c4 _).mono ?_
    rintro e w4 ⟨rfl,k⟩
    have k4:=k3.trans ((((Below.refl w3.heap.size w3).alloc (Nat.le_refl _) _).trans (k.mono (by simp))).mono k3.size)
    clear k c4 i1
    by_cases h2:m2 = 0
    ·have HG3:=Lib.hid (orr_of_zero HG2.out h2)
     subst h2
     clear HG2
     go_wp2_with fail
     rw [rounds_succ]
     go_wp2_with fail
     refine (c5 _).mono ?_
     rintro e w5 ⟨rfl,k⟩
     have k5:=k4.trans ((((Below.refl w4.heap.size w4).alloc (Nat.le_refl _) _).trans (k.mono (by simp))).mono k4.size)
     obtain rfl:=HG3.out
     clear k c5 i2 HG3
     by_cases h3:m3 = 0
     ·subst h3
      go_wp2_with fail
      rw [rounds_succ]
      go_wp2_with fail
      go_ret
      exact ⟨rfl,k5⟩
     ·have h3':(m3 == 0) = false:=by simp; exact h3
      go_wp2_with fail
      go_ret
      exact ⟨rfl,k5⟩
    ·have h2':(m2 == 0) = false:=by simp; exact h2
     obtain rfl:=orr_of_ne HG2.out h2
     clear HG2
     go_wp2_with fail
     go_ret
     exact ⟨rfl,k4⟩
   ·have h1':(m1 == 0) = false:=by simp; exact h1
    obtain rfl:=orr_of_ne HG.out h1
    clear HG
    go_wp2_with fail
    go_ret
    exact ⟨rfl,k3⟩
theorem yis_any (s:ByteArray) (w:World) (hs:s.size ≤ 4611686018427387904) :
  Calls Tryz.prog 46 #[.string s] w fun e w'=>e = .returned (.bool (parse (li s)).isSome) ∧ Below w.heap.size w w':=by
 have c:=yversion_any s w hs
 cases hp:parse (li s) with
 | none =>
  rw [hp] at c
  unfold ytold at c
  clear hp
  go_enter Tryz.func46,Tryz.ntmps46
  go_wp2_with fail
  refine c.mono ?_
  rintro e w1 ⟨rfl,k1⟩
  go_wp2_with fail
  go_ret
  exact ⟨rfl,k1⟩
 | some p =>
  rw [hp] at c
  unfold ytold at c
  clear hp
  simp only at c
  generalize S p.1 = x at *
  generalize S p.2.1 = y at *
  generalize S p.2.2 = z at *
  go_enter Tryz.func46,Tryz.ntmps46
  go_wp2_with fail
  refine c.mono ?_
  rintro e w1 ⟨rfl,k1⟩
  go_wp2_with fail
  go_ret
  exact ⟨rfl,k1⟩
set_option maxRecDepth 100000 in
theorem ysame_any (s t:ByteArray) (w:World) (hs:s.size ≤ 4611686018427387904) (ht:t.size ≤ 4611686018427387904) :
  Calls Tryz.prog 26 #[.string s,.string t] w fun e w'=>e = .returned (.bool (sameV (li s) (li t))) ∧ Below w.heap.size w w':=by
 have c1:=yis_any s w hs
 have c2:=fun w=>yis_any t w ht
 have c3:=fun w=>ycompare_any s t w hs ht
 unfold sameV
 generalize cmpV (li s) (li t) = m at *
 cases h1:(parse (li s)).isSome
 ·rw [h1] at c1
  rw [Bool.false_and,Bool.false_and]
  clear h1
  go_enter Tryz.func26,Tryz.ntmps26
  go_wp2_with fail
  refine c1.mono ?_
  rintro e w1 ⟨rfl,k1⟩
  go_wp2_with fail
  go_ret
  exact ⟨rfl,k1⟩
 ·rw [h1] at c1
  rw [Bool.true_and]
  cases h2:(parse (li t)).isSome
  ·rw [h2] at c2
   rw [Bool.false_and]
   clear h1 h2
   go_enter Tryz.func26,Tryz.ntmps26
   go_wp2_with fail
   refine c1.mono ?_
   rintro e w1 ⟨rfl,k1⟩
   go_wp2_with fail
   refine (c2 _).mono ?_
   rintro e w2 ⟨rfl,k2⟩
   go_wp2_with fail
   go_ret
   exact ⟨rfl,k1.trans (k2.mono k1.size)⟩
  ·rw [h2] at c2
   rw [Bool.true_and]
   clear h1 h2
   go_enter Tryz.func26,Tryz.ntmps26
   go_wp2_with fail
   refine c1.mono ?_
   rintro e w1 ⟨rfl,k1⟩
   go_wp2_with fail
   refine (c2 _).mono ?_
   rintro e w2 ⟨rfl,k2⟩
   have k2':=k1.trans (k2.mono k1.size)
   clear c1 c2 k2
   go_wp2_with fail
   refine (c3 _).mono ?_
   rintro e w3 ⟨rfl,k3⟩
   go_wp2_with fail
   go_ret
   refine ⟨?_,k2'.trans (k3.mono k2'.size)⟩
   first | rfl | (congr 2; rw [Bool.eq_iff_iff]; simp)
end Ver
end Go.Proofs.YtmhpjjjjgakpiaaGreatDoor
namespace Go.Proofs.YtmhpjjjjgakpiaaGreatDoor
open Go.RowKit
set_option linter.unusedSimpArgs false
set_option linter.unusedVariables false
namespace Rl
def Off (p:Nat):Prop:=p ≠ 1 ∧ p ≠ 0
theorem Vars.one {w w':World} {p:Nat} (h:Vars w) (hc:Blk.Chg (fun k=>k = p) w w') (hp:Off p):Vars w':=h.chg hc (fun e=>hp.1 e.symm) fun e=>hp.2 e.symm
theorem Vars.off {w:World} (h:Vars w) {b:Nat} (hb:w.heap.size ≤ b):Off b:=by
 have h1:=h.maxLen.lt
 have h2:=Ver.lt_cell (h.signs 0 (by omega))
 have h3:0 < w.heap.size:=h2
 exact ⟨by omega,by omega⟩
end Rl
end Go.Proofs.YtmhpjjjjgakpiaaGreatDoor
namespace Go.Proofs.YtmhpjjjjgakpiaaGreatDoor
open Go.RowKit
set_option linter.unusedSimpArgs false
set_option linter.unusedVariables false
namespace Rl
section
variable {w w':World}
theorem own_lt {B:Nat} {e:TypeId} {sz:Nat} {v:Value} {n:Nat} {xs:List Value} (h:w.ownsRow B e sz v n xs) {k:Nat} (hk:v.ownBlock = some k):B ≤ k ∧ k < w.heap.size:=by
 rcases h.2 with ⟨rfl,_⟩ | ⟨g,cap,cur,rfl,hg,hh,_⟩
 ·cases hk
 ·simp only [Value.ownBlock,Option.some.injEq] at hk
  subst hk
  exact ⟨hg,(Array.getElem?_eq_some_iff.1 hh).1⟩
theorem own_ne {B B':Nat} {e e':TypeId} {sz sz':Nat} {v v':Value} {n n':Nat} {xs xs':List Value} (h:w.ownsRow B e sz v n xs) (h':w.ownsRow B' e' sz' v' n' xs') (he:e ≠ e'):∀ k,v.ownBlock = some k → v'.ownBlock ≠ some k:=by
 intro k hk hk'
 rcases h.2 with ⟨rfl,_⟩ | ⟨g,cap,cur,rfl,hg,hh,_⟩
 ·cases hk
 rcases h'.2 with ⟨rfl,_⟩ | ⟨g',cap',cur',rfl,hg',hh',_⟩
 ·cases hk'
 simp only [Value.ownBlock,Option.some.injEq] at hk hk'
 subst hk
 subst hk'
 rw [hh] at hh'
 cases hh'
 exact he rfl
theorem own_mono {B B':Nat} {e:TypeId} {sz:Nat} {v:Value} {n:Nat} {xs:List Value} (h:w.ownsRow B e sz v n xs) (hB:B' ≤ B):w.ownsRow B' e sz v n xs:=by
 refine ⟨h.1,?_⟩
 rcases h.2 with h2 | ⟨g,cap,cur,h2,hg,r⟩
 ·exact .inl h2
 ·exact .inr ⟨g,cap,cur,h2,Nat.le_trans hB hg,r⟩
theorem own_set {B:Nat} {e:TypeId} {sz:Nat} {g cap n:Nat} {xs:List Value} (h:w.ownsRow B e sz (.slice (some ⟨g,0,none⟩) n cap) n xs) {i:Nat} (hi:i < xs.length) (u:Value) :
  (w.setCell ⟨g,i,none⟩ u).ownsRow B e sz (.slice (some ⟨g,0,none⟩) n cap) n (xs.set i u):=by
 obtain ⟨h1,h2⟩:=h
 rcases h2 with ⟨h2,_⟩ | ⟨g',cap',cur,h2,hg,hh,hn,hc,hs,ht⟩
 ·cases h2
 ·simp only [Value.slice.injEq,Option.some.injEq,Addr.mk.injEq,and_true,true_and] at h2
  obtain ⟨rfl,rfl⟩:=h2
  refine ⟨by simpa using h1,.inr ⟨g,cap,cur.setIfInBounds i u,rfl,hg,?_,hn,hc,by simpa using hs,?_⟩⟩
  ·exact (Blk.Is.set (w:=w) (b:=g) (T:=e) (cs:=cur) hh i u)
  ·rw [Array.toList_setIfInBounds,List.take_set,ht]
theorem own_cell {B:Nat} {e:TypeId} {sz:Nat} {g cap n:Nat} {xs:List Value} (h:w.ownsRow B e sz (.slice (some ⟨g,0,none⟩) n cap) n xs) {i:Nat} {u:Value} (hi:xs[i]? = some u):w.cell? ⟨g,i,none⟩ = some u:=by
 have:=h.cells (g:=g) rfl i u hi
 have e:(⟨g,0,none⟩:Addr).add i = ⟨g,i,none⟩:=by cases i <;> simp [Addr.add]
 rw [e] at this
 exact this
theorem own_free {B:Nat} {e:TypeId} {sz:Nat} {g cap n:Nat} {xs:List Value} (h:w.ownsRow B e sz (.slice (some ⟨g,0,none⟩) n cap) n xs) (i:Nat):w.frozen? ⟨g,i,none⟩ = false:=by
 obtain ⟨h1,h2⟩:=h
 rcases h2 with ⟨h2,_⟩ | ⟨g',cap',cur,h2,hg,hh,_⟩
 ·cases h2
 ·simp only [Value.slice.injEq,Option.some.injEq,Addr.mk.injEq,and_true,true_and] at h2
  obtain ⟨rfl,rfl⟩:=h2
  exact (Blk.Is.free (w:=w) (b:=g) (T:=e) (cs:=cur) hh i)
theorem own_slice {B:Nat} {e:TypeId} {sz:Nat} {v:Value} {n:Nat} {xs:List Value} (h:w.ownsRow B e sz v n xs) (hn:0 < n):∃ g cap,v = .slice (some ⟨g,0,none⟩) n cap ∧ n ≤ cap:=by
 rcases h.2 with ⟨_,h0⟩ | ⟨g,cap,cur,rfl,_,_,hc,_⟩
 ·omega
 ·exact ⟨g,cap,rfl,hc⟩
theorem own_shape {B:Nat} {e:TypeId} {sz:Nat} {v:Value} {n:Nat} {xs:List Value} (h:w.ownsRow B e sz v n xs):∃ a cap,v = .slice a n cap ∧ n ≤ cap:=by
 rcases h.2 with ⟨rfl,rfl⟩ | ⟨g,cap,cur,rfl,_,_,hc,_⟩
 ·exact ⟨none,0,rfl,Nat.le_refl _⟩
 ·exact ⟨_,cap,rfl,hc⟩
theorem own_is {w:World} {B:Nat} {e:TypeId} {sz:Nat} {v:Value} {n:Nat} {xs:List Value} (h:w.ownsRow B e sz v n xs) {k:Nat} (hk:v.ownBlock = some k):∃ cs,Blk.Is w k e cs:=by
 rcases h.2 with ⟨rfl,_⟩ | ⟨g,cap,cur,rfl,hg,hh,_⟩
 ·cases hk
 ·simp only [Value.ownBlock,Option.some.injEq] at hk
  subst hk
  exact ⟨cur,hh⟩
end
theorem append_el {tS e:TypeId} {z:Value} {sz bytes:Nat} (hu:Tryz.prog.underlying tS = some (.slice e)) (hi:(Tryz.prog.info? e).map (fun i=>(i.zero,i.size,i.bytes)) = some (some z,sz,bytes)) (hz:z.cells.size = sz) (hby:bytes ≤ 64)
  {w:World} {ops:Array Oper} {rest:List Oper} {o:Oper} {a:Act} {Q:Exit → Act → World → Prop} (hgd:o.guard = none) (s x:Operand)
  (ho:o.op = .call { callee:=.builtin .append,args:=#[s,x],argTypes:=#[tS,tS] })
  (B:Nat) (v:Value) (n:Nat) (xs:List Value) (hv:a.eval s = v) (hown:w.ownsRow B e sz v n xs) (k:Nat) (c:Nat) (hx:a.eval x = .slice (some ⟨k,0,none⟩) 1 c) (news:List Value) (hnl:news.length = sz) (hc:∀ (j:Nat) u,news[j]? = some u → w.cell? ⟨k,j,none⟩ = some u)
  (ho1:∀ u ∈ news,u.oneCell' = true) (hn:n + 1 ≤ 70000) (hB:B ≤ w.heap.size)
  (h:∀ v' w',w'.ownsRow B e sz v' (n + 1) (xs ++ news) → w.grownBy w' v.ownBlock → wpList Tryz.prog ops Q rest (a.put o.dst v') w'):wpList Tryz.prog ops Q (o :: rest) a w:=by
 obtain ⟨i0,hi,hz0,hz1,hz2⟩:=info_parts hi
 have hsrc:Src Tryz.prog sz tS (.slice (some ⟨k,0,none⟩) 1 c) 1 news w:=by
  refine Src.ofSlice w hu ⟨k,0,none⟩ 1 c news (by rw [hnl,Nat.one_mul]) (fun j u hj=>?_) ho1
  have:=hc j u hj
  have e:(⟨k,0,none⟩:Addr).add j = ⟨k,j,none⟩:=by cases j <;> simp [Addr.add]
  rw [e]; exact this
 have hmul:(n + 1) * bytes ≤ 70000 * 64:=Nat.mul_le_mul hn hby
 exact Own.wpList_append_src hgd s x tS tS ho B e i0 z sz bytes hu hi hz0 hz1 hz2 hz v n xs hv hown _ 1 news hx hsrc (by simp only [maxLen]; omega) (by omega) hB h
theorem infoA:(Tryz.prog.info? 54).map (fun i=>(i.zero,i.size,i.bytes)) = some (some (.agg #[.string ByteArray.empty,.int .i64 0,.string ByteArray.empty]),3,40):=by kernel_rfl
theorem infoC:(Tryz.prog.info? 47).map (fun i=>(i.zero,i.size,i.bytes)) = some (some (.slice none 0 0),1,24):=by kernel_rfl
theorem infoP:(Tryz.prog.info? 101).map (fun i=>(i.zero,i.size,i.bytes)) = some (some (.agg #[.string ByteArray.empty,.string ByteArray.empty]),2,32):=by kernel_rfl
end Rl
end Go.Proofs.YtmhpjjjjgakpiaaGreatDoor

/-
How an atom is written: Atom, and the reference's MayAtom and Atom. The reference's MayAtom and Atom. The reader of package relation: an atom. Rows of the call's own: where they lie, their cells; append of one element.
-/
import Derived.Test.YtgpcilepkmckeaaGreatDoorCVerRefParse
import Derived.Test.YtgpcilepkmckeaaGreatDoorCRelDef
import Derived.Test.YtgpcilepkmckeaaGreatDoorCVerRefCompare
import Derived.Laws.Concat
import Derived.Test.YtgpcilepkmckeaaGreatDoorCOwn
namespace Go.Proofs.YtgpcilepkmckeaaGreatDoor
open Go.RowKit
set_option linter.unusedSimpArgs false
set_option linter.unusedVariables false
namespace Rl
open Ver (Bs S S_size S_li)
end Rl
end Go.Proofs.YtgpcilepkmckeaaGreatDoor
namespace Go.Proofs.YtgpcilepkmckeaaGreatDoor
open Go.RowKit
set_option linter.unusedSimpArgs false
set_option linter.unusedVariables false
namespace Rl
open Ver (Bs S S_size S_li)
theorem yname_any (n:Bs) (w:World) (hs:n.length ≤ 4611686018427387904) :
  Calls Tryz.prog 33 #[.string (S n)] w fun e w'=>e = .returned (.bool (nmB n)) ∧ w' = w:=by
 have c:=Txt.yname_any (S n) w (by rw [S_size]; omega)
 rwa [name_is,S_li] at c
theorem yis_any (v:Bs) (w:World) (hs:v.length ≤ 4611686018427387904) :
  Calls Tryz.prog 34 #[.string (S v)] w fun e w'=>e = .returned (.bool (isV v)) ∧ Below w.heap.size w w':=by
 have c:=Ver.yis_any (S v) w (by rw [S_size]; omega)
 rwa [S_li] at c
theorem ysign_any (r:Int) (w:World):Calls Tryz.prog 83 #[.int .i64 r] w fun e w'=>e = .returned (.string (S (sgnN r))) ∧ w' = w:=by
 have c:=Ver.ysignS_any r w
 rwa [sgn_S] at c
theorem sgn_empty (r:Int):(S (sgnN r)).toList.isEmpty = !decide (1 ≤ r ∧ r ≤ 5):=by
 rw [isEmpty_S]
 by_cases h:1 ≤ r ∧ r ≤ 5
 ·rw [decide_eq_true h]; have:=sgn_ne h; cases hs:sgnN r with
  | nil=>exact absurd hs this
  | cons c t=>rfl
 ·rw [decide_eq_false h,sgn_no h]; rfl
set_option maxRecDepth 100000 in
set_option maxHeartbeats 1000000 in
theorem ymayAtom_any (a:At) (w:World) (h1:a.1.length ≤ 4611686018427387904) (h2:a.2.2.length ≤ 4611686018427387904) :
  Calls Tryz.prog 57 #[aV a] w fun e w'=>e = .returned (.bool (may a)) ∧ Below w.heap.size w w':=by
 obtain ⟨n,r,v⟩:=a
 unfold aV
 simp only at h1 h2 ⊢
 have cn:=fun w=>yname_any n w h1
 by_cases hr:r = 0
 ·subst hr
  have hm:may (n,0,v) = (nmB n && v.isEmpty):=by unfold may; simp
  rw [hm]
  have he:=isEmpty_S v
  generalize nmB n = g at *
  generalize v.isEmpty = d at *
  generalize S n = x at *
  generalize S v = y at *
  clear hm
  cases g <;> cases d
  all_goals
   have hb0:=Blk.Is.new w 56 #[.string x,.int .i64 0,.string y]
   have hB0:Below w.heap.size w (w.alloc (.cells #[.string x,.int .i64 0,.string y] 56)):=(Below.refl _ _).alloc (Nat.le_refl _) _
   obtain ⟨c0,c1,c2⟩:=cells3 hb0
   clear hb0
   go_enter Tryz.func57,Tryz.ntmps57
   go_wp2_with fail
   generalize w.alloc (.cells #[.string x,.int .i64 0,.string y] 56) = W at *
   refine (cn _).mono ?_
   rintro e w1 ⟨rfl,rfl⟩
   go_wp2_with fail
   go_ret
   exact ⟨rfl,hB0⟩
 ·have hm:may (n,r,v) = (nmB n && (decide (1 ≤ r ∧ r ≤ 5) && isV v)):=by unfold may; simp only; rw [if_neg hr]
  rw [hm]
  have cv:=fun w=>yis_any v w h2
  have cg:=fun w=>ysign_any r w
  have he:=sgn_empty r
  generalize isV v = m at *
  generalize decide (1 ≤ r ∧ r ≤ 5) = d at *
  generalize nmB n = g at *
  generalize S (sgnN r) = sg at *
  generalize S n = x at *
  generalize S v = y at *
  clear hm
  have hr0:(r == 0) = false:=by simpa using hr
  have hb0:=Blk.Is.new w 56 #[.string x,.int .i64 r,.string y]
  have hB0:Below w.heap.size w (w.alloc (.cells #[.string x,.int .i64 r,.string y] 56)):=(Below.refl _ _).alloc (Nat.le_refl _) _
  obtain ⟨c0,c1,c2⟩:=cells3 hb0
  clear hb0
  cases g
  ·go_enter Tryz.func57,Tryz.ntmps57
   go_wp2_with fail
   generalize w.alloc (.cells #[.string x,.int .i64 r,.string y] 56) = W at *
   refine (cn _).mono ?_
   rintro e w1 ⟨rfl,rfl⟩
   go_wp2_with fail
   go_ret
   exact ⟨rfl,hB0⟩
  ·cases d
   ·simp only [Bool.not_false] at he
    go_enter Tryz.func57,Tryz.ntmps57
    go_wp2_with fail
    generalize w.alloc (.cells #[.string x,.int .i64 r,.string y] 56) = W at *
    refine (cn _).mono ?_
    rintro e w1 ⟨rfl,rfl⟩
    go_wp2_with fail
    refine (cg _).mono ?_
    rintro e w2 ⟨rfl,rfl⟩
    go_wp2_with fail
    go_ret
    exact ⟨rfl,hB0⟩
   ·simp only [Bool.not_true] at he
    cases m
    all_goals
     go_enter Tryz.func57,Tryz.ntmps57
     go_wp2_with fail
     generalize w.alloc (.cells #[.string x,.int .i64 r,.string y] 56) = W at *
     refine (cn _).mono ?_
     rintro e w1 ⟨rfl,rfl⟩
     go_wp2_with fail
     refine (cg _).mono ?_
     rintro e w2 ⟨rfl,rfl⟩
     go_wp2_with fail
     refine (cv _).mono ?_
     rintro e w3 ⟨rfl,k3⟩
     have k3':=hB0.trans (k3.mono hB0.size)
     go_wp2_with fail
     go_ret
     exact ⟨rfl,k3'⟩
end Rl
end Go.Proofs.YtgpcilepkmckeaaGreatDoor
namespace Go.Proofs.YtgpcilepkmckeaaGreatDoor
open Go.RowKit
set_option linter.unusedSimpArgs false
set_option linter.unusedVariables false
namespace Rl
def Off (p:Nat):Prop:=p ≠ 0 ∧ p ≠ 1
theorem Vars.off {w:World} (h:Vars w) {b:Nat} (hb:w.heap.size ≤ b):Off b:=by
 have h1:=h.maxLen.lt
 have h2:=Ver.lt_cell (h.signs 0 (by omega))
 have h3:1 < w.heap.size:=h2
 exact ⟨by omega,by omega⟩
end Rl
end Go.Proofs.YtgpcilepkmckeaaGreatDoor
namespace Go.Proofs.YtgpcilepkmckeaaGreatDoor
open Go.RowKit
set_option linter.unusedSimpArgs false
set_option linter.unusedVariables false
namespace Rl
section
variable {w w':World}
theorem own_lt {B:Nat} {e:TypeId} {sz:Nat} {v:Value} {n:Nat} {xs:List Value} (h:w.ownsRow B e sz v n xs) {k:Nat} (hk:v.ownBlock = some k):B ≤ k ∧ k < w.heap.size:=by
 rcases h.2 with ⟨rfl,_⟩ | ⟨g,cap,cur,rfl,hg,hh,_⟩
 ·cases hk
 ·simp only [Value.ownBlock,Option.some.injEq] at hk
  subst hk
  exact ⟨hg,(Array.getElem?_eq_some_iff.1 hh).1⟩
theorem own_ne {B B':Nat} {e e':TypeId} {sz sz':Nat} {v v':Value} {n n':Nat} {xs xs':List Value} (h:w.ownsRow B e sz v n xs) (h':w.ownsRow B' e' sz' v' n' xs') (he:e ≠ e'):∀ k,v.ownBlock = some k → v'.ownBlock ≠ some k:=by
 intro k hk hk'
 rcases h.2 with ⟨rfl,_⟩ | ⟨g,cap,cur,rfl,hg,hh,_⟩
 ·cases hk
 rcases h'.2 with ⟨rfl,_⟩ | ⟨g',cap',cur',rfl,hg',hh',_⟩
 ·cases hk'
 simp only [Value.ownBlock,Option.some.injEq] at hk hk'
 subst hk
 subst hk'
 rw [hh] at hh'
 cases hh'
 exact he rfl
theorem own_mono {B B':Nat} {e:TypeId} {sz:Nat} {v:Value} {n:Nat} {xs:List Value} (h:w.ownsRow B e sz v n xs) (hB:B' ≤ B):w.ownsRow B' e sz v n xs:=by
 refine ⟨h.1,?_⟩
 rcases h.2 with h2 | ⟨g,cap,cur,h2,hg,r⟩
 ·exact .inl h2
 ·exact .inr ⟨g,cap,cur,h2,Nat.le_trans hB hg,r⟩
theorem own_cell {B:Nat} {e:TypeId} {sz:Nat} {g cap n:Nat} {xs:List Value} (h:w.ownsRow B e sz (.slice (some ⟨g,0,none⟩) n cap) n xs) {i:Nat} {u:Value} (hi:xs[i]? = some u):w.cell? ⟨g,i,none⟩ = some u:=by
 have:=h.cells (g:=g) rfl i u hi
 have e:(⟨g,0,none⟩:Addr).add i = ⟨g,i,none⟩:=by cases i <;> simp [Addr.add]
 rw [e] at this
 exact this
theorem own_free {B:Nat} {e:TypeId} {sz:Nat} {g cap n:Nat} {xs:List Value} (h:w.ownsRow B e sz (.slice (some ⟨g,0,none⟩) n cap) n xs) (i:Nat):w.frozen? ⟨g,i,none⟩ = false:=by
 obtain ⟨h1,h2⟩:=h
 rcases h2 with ⟨h2,_⟩ | ⟨g',cap',cur,h2,hg,hh,_⟩
 ·cases h2
 ·simp only [Value.slice.injEq,Option.some.injEq,Addr.mk.injEq,and_true,true_and] at h2
  obtain ⟨rfl,rfl⟩:=h2
  exact (Blk.Is.free (w:=w) (b:=g) (T:=e) (cs:=cur) hh i)
theorem own_slice {B:Nat} {e:TypeId} {sz:Nat} {v:Value} {n:Nat} {xs:List Value} (h:w.ownsRow B e sz v n xs) (hn:0 < n):∃ g cap,v = .slice (some ⟨g,0,none⟩) n cap ∧ n ≤ cap:=by
 rcases h.2 with ⟨_,h0⟩ | ⟨g,cap,cur,rfl,_,_,hc,_⟩
 ·omega
 ·exact ⟨g,cap,rfl,hc⟩
theorem own_shape {B:Nat} {e:TypeId} {sz:Nat} {v:Value} {n:Nat} {xs:List Value} (h:w.ownsRow B e sz v n xs):∃ a cap,v = .slice a n cap ∧ n ≤ cap:=by
 rcases h.2 with ⟨rfl,rfl⟩ | ⟨g,cap,cur,rfl,_,_,hc,_⟩
 ·exact ⟨none,0,rfl,Nat.le_refl _⟩
 ·exact ⟨_,cap,rfl,hc⟩
theorem own_is {w:World} {B:Nat} {e:TypeId} {sz:Nat} {v:Value} {n:Nat} {xs:List Value} (h:w.ownsRow B e sz v n xs) {k:Nat} (hk:v.ownBlock = some k):∃ cs,Blk.Is w k e cs:=by
 rcases h.2 with ⟨rfl,_⟩ | ⟨g,cap,cur,rfl,hg,hh,_⟩
 ·cases hk
 ·simp only [Value.ownBlock,Option.some.injEq] at hk
  subst hk
  exact ⟨cur,hh⟩
end
theorem append_el {tS e:TypeId} {z:Value} {sz bytes:Nat} (hu:Tryz.prog.underlying tS = some (.slice e)) (hi:(Tryz.prog.info? e).map (fun i=>(i.zero,i.size,i.bytes)) = some (some z,sz,bytes)) (hz:z.cells.size = sz) (hby:bytes ≤ 64)
  {w:World} {ops:Array Oper} {rest:List Oper} {o:Oper} {a:Act} {Q:Exit → Act → World → Prop} (hgd:o.guard = none) (s x:Operand)
  (ho:o.op = .call { callee:=.builtin .append,args:=#[s,x],argTypes:=#[tS,tS] })
  (B:Nat) (v:Value) (n:Nat) (xs:List Value) (hv:a.eval s = v) (hown:w.ownsRow B e sz v n xs) (k:Nat) (c:Nat) (hx:a.eval x = .slice (some ⟨k,0,none⟩) 1 c) (news:List Value) (hnl:news.length = sz) (hc:∀ (j:Nat) u,news[j]? = some u → w.cell? ⟨k,j,none⟩ = some u)
  (ho1:∀ u ∈ news,u.oneCell' = true) (hn:n + 1 ≤ 70000) (hB:B ≤ w.heap.size)
  (h:∀ v' w',w'.ownsRow B e sz v' (n + 1) (xs ++ news) → w.grownBy w' v.ownBlock → wpList Tryz.prog ops Q rest (a.put o.dst v') w'):wpList Tryz.prog ops Q (o :: rest) a w:=by
 obtain ⟨i0,hi,hz0,hz1,hz2⟩:=info_parts hi
 have hsrc:Src Tryz.prog sz tS (.slice (some ⟨k,0,none⟩) 1 c) 1 news w:=by
  refine Src.ofSlice w hu ⟨k,0,none⟩ 1 c news (by rw [hnl,Nat.one_mul]) (fun j u hj=>?_) ho1
  have:=hc j u hj
  have e:(⟨k,0,none⟩:Addr).add j = ⟨k,j,none⟩:=by cases j <;> simp [Addr.add]
  rw [e]; exact this
 have hmul:(n + 1) * bytes ≤ 70000 * 64:=Nat.mul_le_mul hn hby
 exact Own.wpList_append_src hgd s x tS tS ho B e i0 z sz bytes hu hi hz0 hz1 hz2 hz v n xs hv hown _ 1 news hx hsrc (by simp only [maxLen]; omega) (by omega) hB h
theorem infoA:(Tryz.prog.info? 56).map (fun i=>(i.zero,i.size,i.bytes)) = some (some (.agg #[.string ByteArray.empty,.int .i64 0,.string ByteArray.empty]),3,40):=by kernel_rfl
theorem infoC:(Tryz.prog.info? 50).map (fun i=>(i.zero,i.size,i.bytes)) = some (some (.slice none 0 0),1,24):=by kernel_rfl
end Rl
end Go.Proofs.YtgpcilepkmckeaaGreatDoor

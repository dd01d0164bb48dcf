/-
A region that draws its order: whatever class of worlds its first operations keep, its last ones in the order of the text. No program is named here. A region that draws its order, whose last operations write what its first ones read: a condition on the world that must be shown only while the n-th operation has not come up. No program is named here. made: a value of any kind, as the package has it and as the reference has it. What is told of a value that lies in memory, in terms of the value: its kind, what it is as each kind. light: not too many. Of which kind a field is, by its name; the reference's Sort.
-/
import Derived.StillTail
import Derived.BigQuiet
import Derived.Deep.MidRow
import Derived.Below
import Derived.OrdersHeld
import Derived.Test.YthmpepnikmdjpaaGreatDoorCValLists
import Derived.Test.YthmpepnikmdjpaaGreatDoorCValBase
namespace Go.Proofs.YthmpepnikmdjpaaGreatDoor
open Go.RowKit
namespace Reg
section
variable {P:Program} {ops:Array Oper} {md:Region.Mode} {C:World → Prop}

/-! ### phases: some operations are done,the first k -/
def upTo (size k:Nat):Array Bool:=Array.ofFn (n:=size) fun i=>decide (i.val < k)
theorem upTo_set (s k:Nat):(upTo s k).setIfInBounds k true = upTo s (k + 1):=by
 apply Array.ext
 ·simp [upTo]
 ·intro i h1 h2
  have hi:i < s:=by simpa [upTo] using h2
  rw [Array.getElem_setIfInBounds (by simpa using h1)]
  by_cases e:k = i
  ·subst e; simp [upTo]
  ·rw [if_neg e]; simp only [upTo,Array.getElem_ofFn]
   rw [decide_eq_decide]; omega
theorem upTo_zero (s:Nat):upTo s 0 = Array.replicate s false:=by
 apply Array.ext
 ·simp [upTo]
 ·intro i h1 h2; simp [upTo]
def From (P:Program) (l:List Oper) (Q:Exit → Act → World → Prop) (k:Nat) (a:Act) (w:World):Prop:=wpAny P .any l.toArray Q (l.length - k) (upTo l.length k) a w
theorem From.start {id:Nat} {Q:Exit → Act → World → Prop} {a:Act} {w:World} {l:List Oper} (hm:P.follows .mixedOrders = true) (h:From P l Q 0 a w.drew):(Code.region id l.toArray true).wp P Q a w:=by
 refine wp_region_any hm ?_
 unfold From at h
 rw [upTo_zero] at h
 simpa using h
def mid (P:Program) (l:List Oper) (Q:Exit → Act → World → Prop) (n:Nat):Exit → Act → World → Prop
 | .normal,a,w=>From P l Q n a w
 | e,a,w=>Q e a w
theorem LetsOut.ofMid {Q:Exit → Act → World → Prop} {l:List Oper} {n:Nat} (h:LetsOut (mid P l Q n)):LetsOut Q:=by
 obtain ⟨a,w,h⟩:=h; exact ⟨a,w,h⟩
theorem upon_mid {Q:Exit → Act → World → Prop} {l:List Oper} {n:Nat} {o:Oper} {a:Act} {K:Act → World → Prop} {r:Result Next} (h:o.upon P a K (mid P l Q n) r):o.upon P a K Q r:=by
 cases r with
 | ok x w' =>
  cases x <;> simp only [Oper.upon] at h ⊢
  case enter f args =>
   refine Calls.mono h fun e w'' he=>?_
   cases e with
   | returned v=>exact he
   | panicked c=>exact he
   | outgrown=>exact LetsOut.ofMid he
  all_goals exact h
 | halt x w' =>
  cases x <;> simp only [Oper.upon] at h ⊢
  all_goals exact h
theorem From.op {Q:Exit → Act → World → Prop} {a:Act} {w:World} {l:List Oper} (n:Nat) (hB:decide (Region.ready .any l.toArray (upTo l.length n) = [n] ∧ n < l.length) = true)
  (h:wpList P l.toArray (mid P l Q (n + 1)) ((l.drop n).take 1) a w):From P l Q n a w:=by
 obtain ⟨hr,hn⟩:=of_decide_eq_true hB
 have h0:l.toArray[n]? = some l[n]:=by simp [hn]
 have hd:(l.drop n).take 1 = [l[n]]:=by rw [List.drop_eq_getElem_cons hn]; rfl
 rw [hd] at h
 unfold From
 rw [show l.length - n = (l.length - (n + 1)) + 1 by omega]
 refine ⟨fun h1=>(by rw [hr] at h1; cases h1),fun i hi=>?_⟩
 rw [hr] at hi
 have hin:i = n:=by simpa using hi
 subst hin
 unfold wpOp
 simp only [h0]
 simp only [wpList] at h
 split
 ·rename_i hw
  rw [if_pos hw] at h
  rw [upTo_set]
  rcases h with h | ⟨h1,h2⟩
  ·exact .inl (upon_mid h)
  ·exact .inr ⟨h1,LetsOut.ofMid h2⟩
 ·rename_i hw
  rw [if_neg hw] at h
  rw [upTo_set]
  exact h
theorem From.last {Q:Exit → Act → World → Prop} {a:Act} {w:World} {l:List Oper} {k:Nat} (hB:(Region.noSelect l.toArray && Region.lexFrom .any l.toArray (l.length - k) k (upTo l.length k)) = true) (C:World → Prop) (hC:C w)
  (h:wpQuiet P l.toArray C (fun a'=>∀ w',C w' → Q .normal a' w') (l.drop k) a):From P l Q k a w:=by
 simp only [Bool.and_eq_true] at hB
 have hd:(l.drop k).length = l.length - k:=by simp
 refine wpAny_of_quiet (Q:=fun a'=>∀ w',C w' → Q .normal a' w') (fun _ w' hw' h=>h w' hw') _ _ _ _ hC ?_
 rw [← hd]
 exact wpAnyQ_lex (C:=C) (md:=.any) hB.1 (l.drop k) k _ a (fun j=>by simp [List.getElem?_drop]) (by rw [hd]; exact hB.2) h
end
section
variable {P:Program} {ops:Array Oper} {md:Region.Mode} {C:World → Prop}

def midK (K:Act → World → Prop) (Q:Exit → Act → World → Prop):Exit → Act → World → Prop
 | .normal,a,w=>K a w
 | e,a,w=>Q e a w
theorem LetsOut.ofMidK {Q:Exit → Act → World → Prop} {K:Act → World → Prop} (h:LetsOut (midK K Q)):LetsOut Q:=by
 obtain ⟨a,w,h⟩:=h; exact ⟨a,w,h⟩
theorem upon_midK {Q:Exit → Act → World → Prop} {K K':Act → World → Prop} {o:Oper} {a:Act} {r:Result Next} (h:o.upon P a K' (midK K Q) r):o.upon P a K' Q r:=by
 cases r with
 | ok x w' =>
  cases x <;> simp only [Oper.upon] at h ⊢
  case enter f args =>
   refine Calls.mono h fun e w'' he=>?_
   cases e with
   | returned v=>exact he
   | panicked c=>exact he
   | outgrown=>exact LetsOut.ofMidK he
  all_goals exact h
 | halt x w' =>
  cases x <;> simp only [Oper.upon] at h ⊢
  all_goals exact h
theorem wpOp_list {i:Nat} {o:Oper} {Q:Exit → Act → World → Prop} {K:Act → World → Prop} {a:Act} {w:World} (ho:ops[i]? = some o) (h:wpList P ops (midK K Q) [o] a w):wpOp P ops Q i K a w:=by
 unfold wpOp
 simp only [ho]
 simp only [wpList] at h
 split
 ·rename_i hw
  rw [if_pos hw] at h
  rcases h with h | ⟨h1,h2⟩
  ·exact .inl (upon_midK h)
  ·exact .inr ⟨h1,LetsOut.ofMidK h2⟩
 ·rename_i hw
  rw [if_neg hw] at h
  exact h
end
end Reg
end Go.Proofs.YthmpepnikmdjpaaGreatDoor
namespace Go.Proofs.YthmpepnikmdjpaaGreatDoor
open Go
namespace Reg
section
variable {P:Program} {ops:Array Oper} {Q:Exit → Act → World → Prop} {md:Region.Mode} {S:World → Prop} {n:Nat}
def anyT (P:Program) (md:Region.Mode) (ops:Array Oper) (Q:Exit → Act → World → Prop) (n:Nat) (S:World → Prop):Nat → Array Bool → Act → World → Prop
 | 0,listed,a,w=>Region.ready md ops listed = [] ∧ Q .normal a w
 | fuel + 1,listed,a,w =>
  (Region.ready md ops listed = [] → Q .normal a w) ∧
  ∀ i ∈ Region.ready md ops listed,wpOp P ops Q i (fun a' w'=>((listed.setIfInBounds i true).getD n true = false → S w') ∧ anyT P md ops Q n S fuel (listed.setIfInBounds i true) a' w') a w
theorem any_of_T:∀ (fuel:Nat) (listed:Array Bool) (a:Act) (w:World),anyT P md ops Q n S fuel listed a w → wpAny P md ops Q fuel listed a w
 | 0,_,_,_,h=>h
 | fuel + 1,_,_,_,h=>⟨h.1,fun i hi=>wpOp_mono (fun a' w' h'=>any_of_T fuel _ a' w' h'.2) (h.2 i hi)⟩
theorem wp_region_T (n:Nat) (S:World → Prop) {id:Nat} {a:Act} {w:World} (hm:P.follows .mixedOrders = true) (h:anyT P .any ops Q n S ops.size (Array.replicate ops.size false) a w.drew):(Code.region id ops true).wp P Q a w :=
 wp_region_any hm (any_of_T _ _ _ _ h)
theorem unset {listed:Array Bool} {i j:Nat} (h:(listed.setIfInBounds j true).getD i true = false):listed.getD i true = false:=by
 by_cases e:j = i
 ·subst e
  rcases Nat.lt_or_ge j listed.size with h' | h'
  ·simp [h'] at h
  ·rw [Array.setIfInBounds_eq_of_size_le h'] at h
   exact h
 ·rw [getD_set_ne true e] at h
  exact h
theorem T_first {i:Nat} {oi:Oper} {v:Value} (hi:ops[i]? = some oi) (hsel:∀ (j:Nat) (o:Oper) cs b,ops[j]? = some o → o.op ≠ .select cs b)
  (hQ:∀ c a w,Q (.panic c) (a.put oi.dst v) w → Q (.panic c) a w) (hin:i ≠ n) :
  ∀ (fuel:Nat) (listed:Array Bool) (a:Act) (w:World),
   (∀ j oj,ops[j]? = some oj → j ≠ i → listed.getD j true = false → (∀ e ∈ oj.after,Region.binds md e = true → e.on ≠ i) → oi.apart ops oj = true) →
   i ∈ Region.ready md ops listed → YieldsIf P ops (fun _=>True) oi v a → (listed.getD n true = false → S w) →
   anyT P md ops Q n S fuel (listed.setIfInBounds i true) (a.put oi.dst v) w → anyT P md ops Q n S (fuel + 1) listed a w:=by
 intro fuel
 induction fuel with
 | zero =>
  intro listed a w _ hr hy hS H
  refine ⟨fun h=>(by rw [h] at hr; cases hr),fun j hj=>?_⟩
  by_cases hji:j = i
  ·subst hji; exact hy.wpOp hi trivial ⟨fun h=>hS (unset h),H⟩
  ·have:=ready_mono hj hji
   rw [H.1] at this
   cases this
 | succ fuel ih =>
  intro listed a w hfree hr hy hS H
  refine ⟨fun h=>(by rw [h] at hr; cases hr),fun j hj=>?_⟩
  by_cases hji:j = i
  ·subst hji; exact hy.wpOp hi trivial ⟨fun h=>hS (unset h),H⟩
  ·have h1:=H.2 j (ready_mono hj hji)
   obtain ⟨hjun,oj,hoj,hall⟩:=mem_ready.1 hj
   have hnot:∀ e ∈ oj.after,Region.binds md e = true → e.on ≠ i:=fun e he hb heq=>by
    have h1:=hall e he hb
    have h0:=(mem_ready.1 hr).1
    rw [heq,getD_both h0] at h1
    cases h1
   have h2:=wpOp_putIf (S:=fun _=>True) hoj (hfree j oj hoj hji hjun hnot) (fun cs b=>hsel i oi cs b hi) (fun cs b=>hsel j oj cs b hoj) hQ hy h1
   have hfree':∀ k ok,ops[k]? = some ok → k ≠ i → (listed.setIfInBounds j true).getD k true = false →
     (∀ e ∈ ok.after,Region.binds md e = true → e.on ≠ i) → oi.apart ops ok = true:=fun k ok hk hki hun hno=>by
    refine hfree k ok hk hki ?_ hno
    by_cases hjk:j = k
    ·subst hjk; exact hjun
    ·rw [getD_set_ne true hjk] at hun; exact hun
   refine wpOp_mono (fun a' w' h3=>?_) h2
   have hSw:(listed.setIfInBounds j true).getD n true = false → S w':=fun h=>h3.2.1 (by
    rw [Array.setIfInBounds_comm _ _ (Ne.symm hji),getD_set_ne true hin]
    exact h)
   refine ⟨hSw,ih (listed.setIfInBounds j true) a' w' hfree' (ready_mono hr (Ne.symm hji)) h3.1 hSw ?_⟩
   rw [Array.setIfInBounds_comm _ _ hji]
   exact h3.2.2
theorem T_held {i:Nat} {oi:Oper} {v:Value} (hi:ops[i]? = some oi) (hsel:∀ (j:Nat) (o:Oper) cs b,ops[j]? = some o → o.op ≠ .select cs b)
  (hQ:∀ c a w,Q (.panic c) (a.put oi.dst v) w → Q (.panic c) a w) (hin:i ≠ n) (hwait:Region.waitsFor md ops n i = true) :
  ∀ (fuel:Nat) (listed:Array Bool) (a:Act) (w:World),
   (∀ j oj,ops[j]? = some oj → j ≠ i → listed.getD j true = false → (∀ e ∈ oj.after,Region.binds md e = true → e.on ≠ i) → oi.apart ops oj = true) →
   i ∈ Region.ready md ops listed → YieldsIf P ops S oi v a → listed.getD n true = false → S w →
   anyT P md ops Q n S fuel (listed.setIfInBounds i true) (a.put oi.dst v) w → anyT P md ops Q n S (fuel + 1) listed a w:=by
 intro fuel
 induction fuel with
 | zero =>
  intro listed a w _ hr hy hun hS H
  refine ⟨fun h=>(by rw [h] at hr; cases hr),fun j hj=>?_⟩
  by_cases hji:j = i
  ·subst hji; exact hy.wpOp hi hS ⟨fun _=>hS,H⟩
  ·have:=ready_mono hj hji
   rw [H.1] at this
   cases this
 | succ fuel ih =>
  intro listed a w hfree hr hy hun hS H
  refine ⟨fun h=>(by rw [h] at hr; cases hr),fun j hj=>?_⟩
  by_cases hji:j = i
  ·subst hji; exact hy.wpOp hi hS ⟨fun _=>hS,H⟩
  ·have h1:=H.2 j (ready_mono hj hji)
   obtain ⟨hjun,oj,hoj,hall⟩:=mem_ready.1 hj
   have h0:=(mem_ready.1 hr).1
   have hnot:∀ e ∈ oj.after,Region.binds md e = true → e.on ≠ i:=fun e he hb heq=>by
    have h1:=hall e he hb
    rw [heq,getD_both h0] at h1
    cases h1
   have hjn:j ≠ n:=by
    rintro rfl
    obtain ⟨o',ho',e,he,hb,hon⟩:=Region.waitsFor_spec hwait
    have:o' = oj:=Option.some.inj (ho'.symm.trans hoj)
    subst this
    exact hnot e he hb hon
   have h2:=wpOp_putIf hoj (hfree j oj hoj hji hjun hnot) (fun cs b=>hsel i oi cs b hi) (fun cs b=>hsel j oj cs b hoj) hQ hy h1
   have hfree':∀ k ok,ops[k]? = some ok → k ≠ i → (listed.setIfInBounds j true).getD k true = false →
     (∀ e ∈ ok.after,Region.binds md e = true → e.on ≠ i) → oi.apart ops ok = true:=fun k ok hk hki hun hno=>by
    refine hfree k ok hk hki ?_ hno
    by_cases hjk:j = k
    ·subst hjk; exact hjun
    ·rw [getD_set_ne true hjk] at hun; exact hun
   have hunj:(listed.setIfInBounds j true).getD n true = false:=by rw [getD_set_ne true hjn]; exact hun
   refine wpOp_mono (fun a' w' h3=>?_) h2
   have hSw:S w':=h3.2.1 (by
    rw [getD_set_ne true hjn,getD_set_ne true hin]
    exact hun)
   refine ⟨fun _=>hSw,ih (listed.setIfInBounds j true) a' w' hfree' (ready_mono hr (Ne.symm hji)) h3.1 hunj hSw ?_⟩
   rw [Array.setIfInBounds_comm _ _ hji]
   exact h3.2.2
/-! ### the moves of a walk -/
theorem T_pure (i:Nat) (v:Value) {oi:Oper} {fuel:Nat} {listed:Array Bool} {a:Act} {w:World} (hi:ops[i]? = some oi)
  (hs:(Region.noSelect ops && Region.free md ops listed i && (Region.ready md ops listed).contains i && decide (i ≠ n)) = true)
  (hQ:∀ c a w,Q (.panic c) (a.put oi.dst v) w → Q (.panic c) a w) (hy:YieldsIf P ops (fun _=>True) oi v a) (hS:S w)
  (h:anyT P md ops Q n S fuel (listed.setIfInBounds i true) (a.put oi.dst v) w):anyT P md ops Q n S (fuel + 1) listed a w:=by
 simp only [Bool.and_eq_true,decide_eq_true_eq] at hs
 obtain ⟨⟨⟨h1,h2⟩,h3⟩,h4⟩:=hs
 exact T_first hi (Region.noSelect_spec h1) hQ h4 fuel listed a w (Region.free_spec hi h2) (by simpa using h3) hy (fun _=>hS) h
theorem T_load (i:Nat) (v:Value) {oi:Oper} {fuel:Nat} {listed:Array Bool} {a:Act} {w:World} (hi:ops[i]? = some oi)
  (hs:(Region.noSelect ops && Region.free md ops listed i && (Region.ready md ops listed).contains i && decide (i ≠ n) && Region.waitsFor md ops n i && !listed.getD n true) = true)
  (hQ:∀ c a w,Q (.panic c) (a.put oi.dst v) w → Q (.panic c) a w) (hy:YieldsIf P ops S oi v a) (hS:S w)
  (h:anyT P md ops Q n S fuel (listed.setIfInBounds i true) (a.put oi.dst v) w):anyT P md ops Q n S (fuel + 1) listed a w:=by
 simp only [Bool.and_eq_true,decide_eq_true_eq,Bool.not_eq_true'] at hs
 obtain ⟨⟨⟨⟨⟨h1,h2⟩,h3⟩,h4⟩,h5⟩,h6⟩:=hs
 exact T_held hi (Region.noSelect_spec h1) hQ h4 h5 fuel listed a w (Region.free_spec hi h2) (by simpa using h3) hy h6 hS h
theorem T_only (i:Nat) {fuel:Nat} {listed:Array Bool} {a:Act} {w:World} {o:Oper} (ho:ops[i]? = some o) (hr:Region.ready md ops listed = [i])
  (h:wpList P ops (midK (fun a' w'=>((listed.setIfInBounds i true).getD n true = false → S w') ∧ anyT P md ops Q n S fuel (listed.setIfInBounds i true) a' w') Q) [o] a w):anyT P md ops Q n S (fuel + 1) listed a w :=
 ⟨fun h0=>(by rw [hr] at h0; cases h0),fun j hj=>by
  rw [hr] at hj
  obtain rfl:=List.mem_singleton.1 hj
  exact wpOp_list ho h⟩
theorem T_done {listed:Array Bool} {a:Act} {w:World} (hr:Region.ready md ops listed = []) (h:Q .normal a w):anyT P md ops Q n S 0 listed a w:=⟨hr,h⟩
theorem yields_load_one {P:Program} {ops:Array Oper} {S:World → Prop} {op:Oper} {a:Act} (hw:Region.wanted op (yielded ops a.tmps) = true) (ty:TypeId) (x:Operand) (ho:op.op = .load ty x)
  (b o:Nat) (hx:a.eval x = .pointer (some ⟨b,o,none⟩)) (v:Value) (hc:∀ w,S w → w.cell? ⟨b,o,none⟩ = some v) (hd:∀ w,(isAgg ty).run P w = .ok false w):YieldsIf P ops S op v a:=by
 refine .inl ⟨hw,fun w hS=>?_⟩
 have h:=hc w hS
 unfold execOp
 simp [ho,hx,Instr.loadAt,Instr.sureAddr,loadVar,hd,h]
end
end Reg
end Go.Proofs.YthmpepnikmdjpaaGreatDoor
namespace Go.Proofs.YthmpepnikmdjpaaGreatDoor
open Go.RowKit
set_option linter.unusedSimpArgs false
set_option linter.unusedVariables false
namespace Va
open Ver (Bs li li_len S S_size S_li)
open Rl (At Pv Ats Pvs Clss Cls own_clss own_ats own_pvs LimA LimP LimC)
def Vl.kind:Vl → ByteArray
 | .none=>⟨#[110,111,110,101]⟩
 | .text _=>⟨#[116,101,120,116]⟩
 | .count _=>⟨#[99,111,117,110,116]⟩
 | .yes _=>⟨#[121,101,115]⟩
 | .clauses _=>⟨#[99,108,97,117,115,101,115]⟩
 | .atoms _=>⟨#[97,116,111,109,115]⟩
 | .provs _=>⟨#[112,114,111,118,105,100,101,115]⟩
def Vl.txt:Vl → ByteArray
 | .text s=>s
 | _=>⟨#[]⟩
def Vl.cnt:Vl → Int
 | .count n=>n
 | _=>0
def Vl.ye:Vl → Bool
 | .yes b=>b
 | _=>false
def Vl.cls:Vl → List (List At)
 | .clauses l=>l
 | _=>[]
def Vl.ats:Vl → List At
 | .atoms l=>l
 | _=>[]
def Vl.pvs:Vl → List Pv
 | .provs l=>l
 | _=>[]
theorem below_row {B:Nat} {a w:World} (h:Below B a w) {g:Nat} (hg:B ≤ g) (cs:Array Value):Below B a (w.setRow g cs) :=
 h.trans ⟨rfl,rfl,rfl,by simp,fun k hk=>setRow_other w g k _ (by omega)⟩
def Has (w:World) (vc va vp:Value) (lc:List (List At)) (la:List At) (lp:List Pv):Prop :=
 (Clss w vc lc ∧ lc.length ≤ 30 ∧ ∀ c ∈ lc,c.length ≤ 30) ∧ (Ats w va la ∧ la.length ≤ 30) ∧ (Pvs w vp lp ∧ lp.length ≤ 30)
theorem Has.below {w w':World} {vc va vp:Value} {lc:List (List At)} {la:List At} {lp:List Pv} (h:Has w vc va vp lc la lp) (hb:Below w.heap.size w w'):Has w' vc va vp lc la lp :=
 ⟨⟨h.1.1.below hb,h.1.2⟩,⟨h.2.1.1.below hb,h.2.1.2⟩,⟨h.2.2.1.below hb,h.2.2.2⟩⟩
theorem nilC (w:World):Clss w (.slice none 0 0) []:=Rl.Slc.none _ _ _ _
theorem nilA (w:World):Ats w (.slice none 0 0) []:=Rl.Slc.none _ _ _ _
theorem nilP (w:World):Pvs w (.slice none 0 0) []:=Rl.Slc.none _ _ _ _
theorem three_new (w:World) (T1 T2 T3:TypeId) (C1 C2 C3:Array Value):∃ W,((w.alloc (.cells C1 T1)).alloc (.cells C2 T2)).alloc (.cells C3 T3) = W ∧ Below w.heap.size w W ∧ W.heap.size = w.heap.size + 3 ∧ Blk.Is W w.heap.size T1 C1 ∧ Blk.Is W (w.heap.size + 1) T2 C2 ∧ Blk.Is W (w.heap.size + 1 + 1) T3 C3:=by
 have s1:(w.alloc (.cells C1 T1)).heap.size = w.heap.size + 1:=by simp
 have s2:((w.alloc (.cells C1 T1)).alloc (.cells C2 T2)).heap.size = w.heap.size + 1 + 1:=by simp
 have i1:=Blk.Is.new w T1 C1
 have i2:=Blk.Is.new (w.alloc (.cells C1 T1)) T2 C2
 have i3:=Blk.Is.new ((w.alloc (.cells C1 T1)).alloc (.cells C2 T2)) T3 C3
 rw [s1] at i2
 rw [s2] at i3
 exact ⟨_,rfl,(((Below.refl _ _).alloc (Nat.le_refl _) _).alloc (by omega) _).alloc (by omega) _,by simp,(i1.alloc _).alloc _,i2.alloc _,i3⟩
def mk (k:Int) (s:ByteArray) (n:Int) (b:Bool) (lc:List (List At)) (la:List At) (lp:List Pv):Vl :=
 if k = 1 then .text s else if k = 2 then .count n else if k = 3 then .yes b else if k = 4 then .clauses lc else if k = 5 then .atoms la else if k = 6 then .provs lp else .none
end Va
end Go.Proofs.YthmpepnikmdjpaaGreatDoor
namespace Go.Proofs.YthmpepnikmdjpaaGreatDoor
open Go.RowKit
set_option linter.unusedSimpArgs false
set_option linter.unusedVariables false
namespace Va
open Ver (Bs li li_len S S_size S_li)
open Rl (At Pv Ats Pvs Clss Cls)
def Vl.isT:Vl → Bool
 | .text _=>true
 | _=>false
def Vl.isY:Vl → Bool
 | .yes _=>true
 | _=>false
def Vl.isC:Vl → Bool
 | .clauses _=>true
 | _=>false
def Vl.isA:Vl → Bool
 | .atoms _=>true
 | _=>false
def Vl.isP:Vl → Bool
 | .provs _=>true
 | _=>false
def Vl.Small (x:Vl):Prop:=(x.cls.length ≤ 60000 ∧ ∀ c ∈ x.cls,c.length ≤ 60000) ∧ x.ats.length ≤ 60000 ∧ x.pvs.length ≤ 60000
theorem VAt.one {B:Nat} {w:World} {iv:Value} {x:Vl} (h:VAt B w iv x):iv.oneCell' = true:=by
 rcases h.ok.is with rfl | ⟨t,y,rfl⟩ <;> rfl
theorem VAt.kindI {B:Nat} {w:World} {iv:Value} {x:Vl} (h:VAt B w iv x):kindI iv = x.kind:=by
 cases x with
 | none=>obtain rfl:=h; rfl
 | text s=>obtain rfl:=h; rfl
 | count n=>obtain rfl:=h; rfl
 | yes b=>obtain rfl:=h; rfl
 | clauses l=>obtain ⟨v,rfl,_⟩:=h; rfl
 | atoms l=>obtain ⟨v,rfl,_⟩:=h; rfl
 | provs l=>obtain ⟨v,rfl,_⟩:=h; rfl
theorem kind_x {B:Nat} {iv:Value} {x:Vl} {w:World} (h:VAt B w iv x) :
  Calls Tryz.prog 153 #[.agg #[iv]] w fun e w'=>e = .returned (.string x.kind) ∧ Below w.heap.size w w':=by
 have c:=kind_any iv h.ok w
 rwa [h.kindI] at c
theorem as_text_x {B:Nat} {w:World} {iv:Value} {x:Vl} (h:VAt B w iv x):asT 9 (.string .empty) iv = .string x.txt ∧ asB 9 iv = x.isT:=by
 cases x with
 | none=>obtain rfl:=h; exact ⟨rfl,rfl⟩
 | text s=>obtain rfl:=h; exact ⟨rfl,rfl⟩
 | count n=>obtain rfl:=h; exact ⟨rfl,rfl⟩
 | yes b=>obtain rfl:=h; exact ⟨rfl,rfl⟩
 | clauses l=>obtain ⟨v,rfl,_⟩:=h; exact ⟨rfl,rfl⟩
 | atoms l=>obtain ⟨v,rfl,_⟩:=h; exact ⟨rfl,rfl⟩
 | provs l=>obtain ⟨v,rfl,_⟩:=h; exact ⟨rfl,rfl⟩
theorem text_x {B:Nat} {iv:Value} {x:Vl} {w:World} (h:VAt B w iv x) :
  Calls Tryz.prog 113 #[.agg #[iv]] w fun e w'=>e = .returned (.tuple #[.string x.txt,.bool x.isT]) ∧ Below w.heap.size w w':=by
 have c:=text_any iv h.ok.is w
 rwa [(as_text_x h).1,(as_text_x h).2] at c
theorem as_yes_x {B:Nat} {w:World} {iv:Value} {x:Vl} (h:VAt B w iv x):asT 4 (.bool false) iv = .bool x.ye ∧ asB 4 iv = x.isY:=by
 cases x with
 | none=>obtain rfl:=h; exact ⟨rfl,rfl⟩
 | text s=>obtain rfl:=h; exact ⟨rfl,rfl⟩
 | count n=>obtain rfl:=h; exact ⟨rfl,rfl⟩
 | yes b=>obtain rfl:=h; exact ⟨rfl,rfl⟩
 | clauses l=>obtain ⟨v,rfl,_⟩:=h; exact ⟨rfl,rfl⟩
 | atoms l=>obtain ⟨v,rfl,_⟩:=h; exact ⟨rfl,rfl⟩
 | provs l=>obtain ⟨v,rfl,_⟩:=h; exact ⟨rfl,rfl⟩
theorem yes_x {B:Nat} {iv:Value} {x:Vl} {w:World} (h:VAt B w iv x) :
  Calls Tryz.prog 114 #[.agg #[iv]] w fun e w'=>e = .returned (.tuple #[.bool x.ye,.bool x.isY]) ∧ Below w.heap.size w w':=by
 have c:=yes_any iv h.ok.is w
 rwa [(as_yes_x h).1,(as_yes_x h).2] at c
theorem as_clauses_x {B:Nat} {w:World} {iv:Value} {x:Vl} (h:VAt B w iv x):∃ v,asT 27 (.slice none 0 0) iv = v ∧ asB 27 iv = x.isC ∧ Clss w v x.cls:=by
 cases x with
 | none=>obtain rfl:=h; exact ⟨_,rfl,rfl,nilC _⟩
 | text s=>obtain rfl:=h; exact ⟨_,rfl,rfl,nilC _⟩
 | count n=>obtain rfl:=h; exact ⟨_,rfl,rfl,nilC _⟩
 | yes b=>obtain rfl:=h; exact ⟨_,rfl,rfl,nilC _⟩
 | clauses l=>obtain ⟨v,rfl,hv⟩:=h; exact ⟨_,rfl,rfl,hv.here⟩
 | atoms l=>obtain ⟨v,rfl,_⟩:=h; exact ⟨_,rfl,rfl,nilC _⟩
 | provs l=>obtain ⟨v,rfl,_⟩:=h; exact ⟨_,rfl,rfl,nilC _⟩
theorem clauses_x {B:Nat} {iv:Value} {x:Vl} {w:World} (h:VAt B w iv x) (hs:x.Small) :
  Calls Tryz.prog 115 #[.agg #[iv]] w fun e w'=>∃ u,e = .returned (.tuple #[u,.bool x.isC]) ∧ Hi w.heap.size w' (fun z=>Clss z u x.cls) ∧ Below w.heap.size w w':=by
 obtain ⟨v,e1,e2,hv⟩:=as_clauses_x h
 exact clauses_any iv v x.isC x.cls h.ok.is e1 e2 w hv hs.1.1 hs.1.2
theorem as_atoms_x {B:Nat} {w:World} {iv:Value} {x:Vl} (h:VAt B w iv x):∃ v,asT 28 (.slice none 0 0) iv = v ∧ asB 28 iv = x.isA ∧ Ats w v x.ats:=by
 cases x with
 | none=>obtain rfl:=h; exact ⟨_,rfl,rfl,nilA _⟩
 | text s=>obtain rfl:=h; exact ⟨_,rfl,rfl,nilA _⟩
 | count n=>obtain rfl:=h; exact ⟨_,rfl,rfl,nilA _⟩
 | yes b=>obtain rfl:=h; exact ⟨_,rfl,rfl,nilA _⟩
 | clauses l=>obtain ⟨v,rfl,_⟩:=h; exact ⟨_,rfl,rfl,nilA _⟩
 | atoms l=>obtain ⟨v,rfl,hv⟩:=h; exact ⟨_,rfl,rfl,hv.here⟩
 | provs l=>obtain ⟨v,rfl,_⟩:=h; exact ⟨_,rfl,rfl,nilA _⟩
theorem atoms_x {B:Nat} {iv:Value} {x:Vl} {w:World} (h:VAt B w iv x) (hs:x.Small) :
  Calls Tryz.prog 116 #[.agg #[iv]] w fun e w'=>∃ u,e = .returned (.tuple #[u,.bool x.isA]) ∧ Hi w.heap.size w' (fun z=>Ats z u x.ats) ∧ Below w.heap.size w w':=by
 obtain ⟨v,e1,e2,hv⟩:=as_atoms_x h
 exact atoms_any iv v x.isA x.ats h.ok.is e1 e2 w hv hs.2.1
theorem as_provs_x {B:Nat} {w:World} {iv:Value} {x:Vl} (h:VAt B w iv x):∃ v,asT 29 (.slice none 0 0) iv = v ∧ asB 29 iv = x.isP ∧ Pvs w v x.pvs:=by
 cases x with
 | none=>obtain rfl:=h; exact ⟨_,rfl,rfl,nilP _⟩
 | text s=>obtain rfl:=h; exact ⟨_,rfl,rfl,nilP _⟩
 | count n=>obtain rfl:=h; exact ⟨_,rfl,rfl,nilP _⟩
 | yes b=>obtain rfl:=h; exact ⟨_,rfl,rfl,nilP _⟩
 | clauses l=>obtain ⟨v,rfl,_⟩:=h; exact ⟨_,rfl,rfl,nilP _⟩
 | atoms l=>obtain ⟨v,rfl,_⟩:=h; exact ⟨_,rfl,rfl,nilP _⟩
 | provs l=>obtain ⟨v,rfl,hv⟩:=h; exact ⟨_,rfl,rfl,hv.here⟩
theorem provs_x {B:Nat} {iv:Value} {x:Vl} {w:World} (h:VAt B w iv x) (hs:x.Small) :
  Calls Tryz.prog 117 #[.agg #[iv]] w fun e w'=>∃ u,e = .returned (.tuple #[u,.bool x.isP]) ∧ Hi w.heap.size w' (fun z=>Pvs z u x.pvs) ∧ Below w.heap.size w w':=by
 obtain ⟨v,e1,e2,hv⟩:=as_provs_x h
 exact provides_any iv v x.isP x.pvs h.ok.is e1 e2 w hv hs.2.2
end Va
end Go.Proofs.YthmpepnikmdjpaaGreatDoor
namespace Go.Proofs.YthmpepnikmdjpaaGreatDoor
open Go.RowKit
set_option linter.unusedSimpArgs false
set_option linter.unusedVariables false
namespace Va
open Ver (Bs li li_len S S_size S_li)
open Rl (At Pv Ats Pvs Clss Cls)
def light8 (lc:List (List At)) (la:List At) (lp:List Pv):Bool:=decide (lc.length ≤ 30) && decide (la.length ≤ 30) && decide (lp.length ≤ 30) && lc.all fun c=>decide (c.length ≤ 30)
theorem light8_many {lc:List (List At)} {la:List At} {lp:List Pv} (h:30 < lc.length ∨ 30 < la.length ∨ 30 < lp.length):light8 lc la lp = false:=by
 unfold light8
 rcases h with h | h | h
 ·rw [decide_eq_false (by omega:¬ lc.length ≤ 30)]; rfl
 ·rw [decide_eq_false (by omega:¬ la.length ≤ 30),Bool.and_false]; rfl
 ·rw [decide_eq_false (by omega:¬ lp.length ≤ 30),Bool.and_false]; rfl
theorem light8_at {lc:List (List At)} {la:List At} {lp:List Pv} {i:Nat} (hi:i < lc.length) (h:30 < (lc.getD i []).length):light8 lc la lp = false:=by
 unfold light8
 rw [Bool.and_eq_false_iff]
 right
 rw [List.all_eq_false]
 exact ⟨lc[i],List.getElem_mem hi,by rw [show lc[i] = lc.getD i [] by simp [List.getD,List.getElem?_eq_getElem hi]]; simp only [decide_eq_true_eq]; omega⟩
theorem light8_yes {lc:List (List At)} {la:List At} {lp:List Pv} (h1:lc.length ≤ 30) (h2:la.length ≤ 30) (h3:lp.length ≤ 30) (h:∀ i,i < lc.length → (lc.getD i []).length ≤ 30):light8 lc la lp = true:=by
 unfold light8
 rw [decide_eq_true h1,decide_eq_true h2,decide_eq_true h3,Bool.true_and,Bool.true_and,Bool.true_and,List.all_eq_true]
 intro s hs
 obtain ⟨i,hi,rfl⟩:=List.mem_iff_getElem.1 hs
 have:=h i hi
 simpa [List.getD,List.getElem?_eq_getElem hi] using this
end Va
end Go.Proofs.YthmpepnikmdjpaaGreatDoor
namespace Go.Proofs.YthmpepnikmdjpaaGreatDoor
open Go.RowKit
set_option linter.unusedSimpArgs false
set_option linter.unusedVariables false
namespace Va
open Stz (sameS sameB)
def lw (s:ByteArray):List UInt8:=s.data.toList.map Stz.low
theorem same_lw (s t:ByteArray):sameS s t = (lw s == lw t):=rfl
theorem same_of {s t u v:ByteArray} (h1:lw s = lw u) (h2:lw t = lw v):sameS s t = sameS u v:=by rw [same_lw,same_lw,h1,h2]
theorem disj {fs gs:List ByteArray} (h:(fs.all fun c=>!(gs.any (sameS · c))) = true) {name:ByteArray} (hn:fs.any (sameS · name) = true):gs.any (sameS · name) = false:=by
 obtain ⟨c,hc,h1⟩:=List.any_eq_true.1 hn
 have h2:=List.all_eq_true.1 h c hc
 simp only [Bool.not_eq_true'] at h2
 rw [same_lw,beq_iff_eq] at h1
 rw [← h2]
 congr 1
 funext f
 exact same_of rfl h1.symm
def knd (name:ByteArray):Nat:=if isP0 name then 0 else if isP1 name then 1 else if isP2 name then 2 else if isP3 name then 3 else if isP4 name then 4 else if isP5 name then 5 else if isP6 name then 6 else 7
theorem dj01 {name:ByteArray} (h:isP0 name = true):isP1 name = false:=disj (fs:=fs0) (gs:=fs1) (by decide +kernel) h
theorem dj02 {name:ByteArray} (h:isP0 name = true):isP2 name = false:=disj (fs:=fs0) (gs:=fs2) (by decide +kernel) h
theorem dj03 {name:ByteArray} (h:isP0 name = true):isP3 name = false:=disj (fs:=fs0) (gs:=fs3) (by decide +kernel) h
theorem dj04 {name:ByteArray} (h:isP0 name = true):isP4 name = false:=disj (fs:=fs0) (gs:=fs4) (by decide +kernel) h
theorem dj05 {name:ByteArray} (h:isP0 name = true):isP5 name = false:=disj (fs:=fs0) (gs:=fs5) (by decide +kernel) h
theorem dj06 {name:ByteArray} (h:isP0 name = true):isP6 name = false:=disj (fs:=fs0) (gs:=fs6) (by decide +kernel) h
theorem dj10 {name:ByteArray} (h:isP1 name = true):isP0 name = false:=disj (fs:=fs1) (gs:=fs0) (by decide +kernel) h
theorem dj12 {name:ByteArray} (h:isP1 name = true):isP2 name = false:=disj (fs:=fs1) (gs:=fs2) (by decide +kernel) h
theorem dj13 {name:ByteArray} (h:isP1 name = true):isP3 name = false:=disj (fs:=fs1) (gs:=fs3) (by decide +kernel) h
theorem dj14 {name:ByteArray} (h:isP1 name = true):isP4 name = false:=disj (fs:=fs1) (gs:=fs4) (by decide +kernel) h
theorem dj15 {name:ByteArray} (h:isP1 name = true):isP5 name = false:=disj (fs:=fs1) (gs:=fs5) (by decide +kernel) h
theorem dj16 {name:ByteArray} (h:isP1 name = true):isP6 name = false:=disj (fs:=fs1) (gs:=fs6) (by decide +kernel) h
theorem dj20 {name:ByteArray} (h:isP2 name = true):isP0 name = false:=disj (fs:=fs2) (gs:=fs0) (by decide +kernel) h
theorem dj21 {name:ByteArray} (h:isP2 name = true):isP1 name = false:=disj (fs:=fs2) (gs:=fs1) (by decide +kernel) h
theorem dj23 {name:ByteArray} (h:isP2 name = true):isP3 name = false:=disj (fs:=fs2) (gs:=fs3) (by decide +kernel) h
theorem dj24 {name:ByteArray} (h:isP2 name = true):isP4 name = false:=disj (fs:=fs2) (gs:=fs4) (by decide +kernel) h
theorem dj25 {name:ByteArray} (h:isP2 name = true):isP5 name = false:=disj (fs:=fs2) (gs:=fs5) (by decide +kernel) h
theorem dj26 {name:ByteArray} (h:isP2 name = true):isP6 name = false:=disj (fs:=fs2) (gs:=fs6) (by decide +kernel) h
theorem dj30 {name:ByteArray} (h:isP3 name = true):isP0 name = false:=disj (fs:=fs3) (gs:=fs0) (by decide +kernel) h
theorem dj31 {name:ByteArray} (h:isP3 name = true):isP1 name = false:=disj (fs:=fs3) (gs:=fs1) (by decide +kernel) h
theorem dj32 {name:ByteArray} (h:isP3 name = true):isP2 name = false:=disj (fs:=fs3) (gs:=fs2) (by decide +kernel) h
theorem dj34 {name:ByteArray} (h:isP3 name = true):isP4 name = false:=disj (fs:=fs3) (gs:=fs4) (by decide +kernel) h
theorem dj35 {name:ByteArray} (h:isP3 name = true):isP5 name = false:=disj (fs:=fs3) (gs:=fs5) (by decide +kernel) h
theorem dj36 {name:ByteArray} (h:isP3 name = true):isP6 name = false:=disj (fs:=fs3) (gs:=fs6) (by decide +kernel) h
theorem dj40 {name:ByteArray} (h:isP4 name = true):isP0 name = false:=disj (fs:=fs4) (gs:=fs0) (by decide +kernel) h
theorem dj41 {name:ByteArray} (h:isP4 name = true):isP1 name = false:=disj (fs:=fs4) (gs:=fs1) (by decide +kernel) h
theorem dj42 {name:ByteArray} (h:isP4 name = true):isP2 name = false:=disj (fs:=fs4) (gs:=fs2) (by decide +kernel) h
theorem dj43 {name:ByteArray} (h:isP4 name = true):isP3 name = false:=disj (fs:=fs4) (gs:=fs3) (by decide +kernel) h
theorem dj45 {name:ByteArray} (h:isP4 name = true):isP5 name = false:=disj (fs:=fs4) (gs:=fs5) (by decide +kernel) h
theorem dj46 {name:ByteArray} (h:isP4 name = true):isP6 name = false:=disj (fs:=fs4) (gs:=fs6) (by decide +kernel) h
theorem dj50 {name:ByteArray} (h:isP5 name = true):isP0 name = false:=disj (fs:=fs5) (gs:=fs0) (by decide +kernel) h
theorem dj51 {name:ByteArray} (h:isP5 name = true):isP1 name = false:=disj (fs:=fs5) (gs:=fs1) (by decide +kernel) h
theorem dj52 {name:ByteArray} (h:isP5 name = true):isP2 name = false:=disj (fs:=fs5) (gs:=fs2) (by decide +kernel) h
theorem dj53 {name:ByteArray} (h:isP5 name = true):isP3 name = false:=disj (fs:=fs5) (gs:=fs3) (by decide +kernel) h
theorem dj54 {name:ByteArray} (h:isP5 name = true):isP4 name = false:=disj (fs:=fs5) (gs:=fs4) (by decide +kernel) h
theorem dj56 {name:ByteArray} (h:isP5 name = true):isP6 name = false:=disj (fs:=fs5) (gs:=fs6) (by decide +kernel) h
theorem dj60 {name:ByteArray} (h:isP6 name = true):isP0 name = false:=disj (fs:=fs6) (gs:=fs0) (by decide +kernel) h
theorem dj61 {name:ByteArray} (h:isP6 name = true):isP1 name = false:=disj (fs:=fs6) (gs:=fs1) (by decide +kernel) h
theorem dj62 {name:ByteArray} (h:isP6 name = true):isP2 name = false:=disj (fs:=fs6) (gs:=fs2) (by decide +kernel) h
theorem dj63 {name:ByteArray} (h:isP6 name = true):isP3 name = false:=disj (fs:=fs6) (gs:=fs3) (by decide +kernel) h
theorem dj64 {name:ByteArray} (h:isP6 name = true):isP4 name = false:=disj (fs:=fs6) (gs:=fs4) (by decide +kernel) h
theorem dj65 {name:ByteArray} (h:isP6 name = true):isP5 name = false:=disj (fs:=fs6) (gs:=fs5) (by decide +kernel) h
theorem knd_cases (name:ByteArray):(knd name = 0 ∧ isP0 name = true ∧ isP1 name = false ∧ isP2 name = false ∧ isP3 name = false ∧ isP4 name = false ∧ isP5 name = false ∧ isP6 name = false) ∨ (knd name = 1 ∧ isP0 name = false ∧ isP1 name = true ∧ isP2 name = false ∧ isP3 name = false ∧ isP4 name = false ∧ isP5 name = false ∧ isP6 name = false) ∨ (knd name = 2 ∧ isP0 name = false ∧ isP1 name = false ∧ isP2 name = true ∧ isP3 name = false ∧ isP4 name = false ∧ isP5 name = false ∧ isP6 name = false) ∨ (knd name = 3 ∧ isP0 name = false ∧ isP1 name = false ∧ isP2 name = false ∧ isP3 name = true ∧ isP4 name = false ∧ isP5 name = false ∧ isP6 name = false) ∨ (knd name = 4 ∧ isP0 name = false ∧ isP1 name = false ∧ isP2 name = false ∧ isP3 name = false ∧ isP4 name = true ∧ isP5 name = false ∧ isP6 name = false) ∨ (knd name = 5 ∧ isP0 name = false ∧ isP1 name = false ∧ isP2 name = false ∧ isP3 name = false ∧ isP4 name = false ∧ isP5 name = true ∧ isP6 name = false) ∨ (knd name = 6 ∧ isP0 name = false ∧ isP1 name = false ∧ isP2 name = false ∧ isP3 name = false ∧ isP4 name = false ∧ isP5 name = false ∧ isP6 name = true) ∨ (knd name = 7 ∧ isP0 name = false ∧ isP1 name = false ∧ isP2 name = false ∧ isP3 name = false ∧ isP4 name = false ∧ isP5 name = false ∧ isP6 name = false):=by
 unfold knd
 by_cases h0:isP0 name = true
 ·exact .inl ⟨by rw [if_pos h0],h0,dj01 h0,dj02 h0,dj03 h0,dj04 h0,dj05 h0,dj06 h0⟩
 by_cases h1:isP1 name = true
 ·exact .inr (.inl ⟨by rw [if_neg h0]; rw [if_pos h1],dj10 h1,h1,dj12 h1,dj13 h1,dj14 h1,dj15 h1,dj16 h1⟩)
 by_cases h2:isP2 name = true
 ·exact .inr (.inr (.inl ⟨by rw [if_neg h0]; rw [if_neg h1]; rw [if_pos h2],dj20 h2,dj21 h2,h2,dj23 h2,dj24 h2,dj25 h2,dj26 h2⟩))
 by_cases h3:isP3 name = true
 ·exact .inr (.inr (.inr (.inl ⟨by rw [if_neg h0]; rw [if_neg h1]; rw [if_neg h2]; rw [if_pos h3],dj30 h3,dj31 h3,dj32 h3,h3,dj34 h3,dj35 h3,dj36 h3⟩)))
 by_cases h4:isP4 name = true
 ·exact .inr (.inr (.inr (.inr (.inl ⟨by rw [if_neg h0]; rw [if_neg h1]; rw [if_neg h2]; rw [if_neg h3]; rw [if_pos h4],dj40 h4,dj41 h4,dj42 h4,dj43 h4,h4,dj45 h4,dj46 h4⟩))))
 by_cases h5:isP5 name = true
 ·exact .inr (.inr (.inr (.inr (.inr (.inl ⟨by rw [if_neg h0]; rw [if_neg h1]; rw [if_neg h2]; rw [if_neg h3]; rw [if_neg h4]; rw [if_pos h5],dj50 h5,dj51 h5,dj52 h5,dj53 h5,dj54 h5,h5,dj56 h5⟩)))))
 by_cases h6:isP6 name = true
 ·exact .inr (.inr (.inr (.inr (.inr (.inr (.inl ⟨by rw [if_neg h0]; rw [if_neg h1]; rw [if_neg h2]; rw [if_neg h3]; rw [if_neg h4]; rw [if_neg h5]; rw [if_pos h6],dj60 h6,dj61 h6,dj62 h6,dj63 h6,dj64 h6,dj65 h6,h6⟩))))))
 exact .inr (.inr (.inr (.inr (.inr (.inr (.inr (⟨by rw [if_neg h0]; rw [if_neg h1]; rw [if_neg h2]; rw [if_neg h3]; rw [if_neg h4]; rw [if_neg h5]; rw [if_neg h6],Bool.eq_false_iff.2 h0,Bool.eq_false_iff.2 h1,Bool.eq_false_iff.2 h2,Bool.eq_false_iff.2 h3,Bool.eq_false_iff.2 h4,Bool.eq_false_iff.2 h5,Bool.eq_false_iff.2 h6⟩)))))))
end Va
end Go.Proofs.YthmpepnikmdjpaaGreatDoor

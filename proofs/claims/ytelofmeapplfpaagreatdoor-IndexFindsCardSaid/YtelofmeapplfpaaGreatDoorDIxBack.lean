/-
The reference's insertion: packages put one after the other where they belong. Slices of packages that a law writes out. Packages, the last first: a row of the call's own of packages whose lists came in.
-/
import Derived.Test.YtelofmeapplfpaaGreatDoorDIxUniq
import Derived.Test.YtelofmeapplfpaaGreatDoorDIxOrd
import Derived.Test.YtelofmeapplfpaaGreatDoorDIxAwake
namespace Go.Proofs.YtelofmeapplfpaaGreatDoor
open Go.RowKit
set_option linter.unusedSimpArgs false
set_option linter.unusedVariables false
namespace Ix
open Ver (Bs cmpV Tri orr sgn)
open Rl (At Pv isV)
open Rc (Pk nPk)
theorem less_cb:∀ a b:Bs,Go.Op.bytesLess a b = decide (Lib.compareBytes a b < 0)
 | [],[]=>by rw [cb_nn]; rfl
 | [],y :: b=>by rw [cb_nc]; rfl
 | x :: a,[]=>by rw [cb_cn]; rfl
 | x :: a,y :: b=>by
  rw [cb_cc]
  have ih:=less_cb a b
  show (decide (x < y) || (x == y && Go.Op.bytesLess a b)) = _
  rw [ih]
  rcases Nat.lt_trichotomy x.toNat y.toNat with h | h | h
  ·have e:sgn (x.toNat:Int) (y.toNat:Int) = -1:=by unfold sgn; rw [if_pos (by omega)]
   have h1:x < y:=h
   rw [e]
   simp [h1,orr]
  ·have e:sgn (x.toNat:Int) (y.toNat:Int) = 0:=by unfold sgn; rw [if_neg (by omega),if_neg (by omega)]
   have h1:x = y:=UInt8.toNat_inj.1 h
   subst h1
   rw [e]
   simp [orr]
  ·have e:sgn (x.toNat:Int) (y.toNat:Int) = 1:=by unfold sgn; rw [if_neg (by omega),if_pos (by omega)]
   have h1:¬ x < y:=fun hh=>by have:x.toNat < y.toNat:=hh; omega
   have h2:¬ x = y:=fun hh=>by rw [hh] at h; omega
   rw [e]
   simp [h1,h2,orr]
theorem less_nm (a b:Bs):Go.Op.bytesLess (Ver.S a).toList (Ver.S b).toList = decide (Lib.compareBytes a b < 0):=by
 have e:∀ l:Bs,(Ver.S l).toList = l:=fun l=>by
  rw [Lib.toList_data]
  exact Ver.S_li l
 rw [e,e,less_cb]
def ahead (p x:Pk):Bool:=decide (cmpP x p ≤ 0)
def slot (p:Pk) (l:List Pk):Nat:=(l.takeWhile (ahead p)).length
def ins (p:Pk) (l:List Pk):List Pk:=l.take (slot p l) ++ [p] ++ l.drop (slot p l)
def insAll:List Pk → List Pk → List Pk
 | [],out=>out
 | p :: r,out=>insAll r (ins p out)
theorem ins_perm (p:Pk) (l:List Pk):(ins p l).Perm (p :: l):=by
 unfold ins
 rw [List.append_assoc]
 refine (List.perm_append_comm).trans ?_
 rw [List.append_assoc,List.singleton_append]
 refine List.Perm.cons p ?_
 refine List.perm_append_comm.trans ?_
 rw [List.take_append_drop]
theorem insAll_perm:∀ (l out:List Pk),(insAll l out).Perm (l ++ out)
 | [],out=>List.Perm.refl _
 | p :: r,out=>by
  unfold insAll
  refine (insAll_perm r _).trans ?_
  refine ((ins_perm p out).append_left r).trans ?_
  exact List.perm_middle
theorem insAll_snoc:∀ (l:List Pk) (p:Pk) (out:List Pk),insAll (l ++ [p]) out = ins p (insAll l out)
 | [],p,out=>rfl
 | q :: r,p,out=>by
  show insAll (r ++ [p]) (ins q out) = ins p (insAll r (ins q out))
  exact insAll_snoc r p _
def Rise (l:List Pk):Prop:=l.Pairwise fun p q=>cmpP p q ≤ 0
theorem take_tw {p:Pk} (l:List Pk):l.take (slot p l) = l.takeWhile (ahead p):=by
 unfold slot
 exact (List.prefix_iff_eq_take.1 (List.takeWhile_prefix _)).symm
theorem drop_tw {p:Pk} (l:List Pk):l.drop (slot p l) = l.dropWhile (ahead p):=by
 have h:=List.takeWhile_append_dropWhile (p:=ahead p) (l:=l)
 have e:(l.takeWhile (ahead p) ++ l.dropWhile (ahead p)).drop (slot p l) = l.dropWhile (ahead p):=by
  unfold slot
  exact List.drop_left
 rwa [h] at e
theorem rise_ins {p:Pk} {l:List Pk} (h:Rise l) (hp:isV p.vs = true) (hl:∀ x ∈ l,isV x.vs = true):Rise (ins p l):=by
 unfold ins Rise
 rw [take_tw,drop_tw]
 have hsplit:=List.takeWhile_append_dropWhile (p:=ahead p) (l:=l)
 unfold Rise at h
 rw [← hsplit,List.pairwise_append] at h
 obtain ⟨h1,h2,h3⟩:=h
 have ht:∀ x ∈ l.takeWhile (ahead p),cmpP x p ≤ 0:=fun x hx=>by
  have:=List.all_eq_true.1 (List.all_takeWhile (l:=l) (p:=ahead p)) x hx
  unfold ahead at this
  simpa using this
 have hd:∀ x ∈ l.dropWhile (ahead p),cmpP p x ≤ 0:=by
  cases hdw:l.dropWhile (ahead p) with
  | nil=>intro x hx; cases hx
  | cons y r =>
   have hy:¬ ahead p y = true:=by
    have:=List.head_dropWhile_not (p:=ahead p) (l:=l) (by rw [hdw]; simp)
    simpa [hdw] using this
   have hyp:cmpP p y ≤ 0:=by
    unfold ahead at hy
    rw [decide_eq_true_eq] at hy
    have:=cmpP_turn p y
    omega
   intro x hx
   rcases List.mem_cons.1 hx with rfl | hx
   ·exact hyp
   ·rw [hdw,List.pairwise_cons] at h2
    have hyx:=h2.1 x hx
    have hyl:y ∈ l:=(List.dropWhile_suffix (ahead p)).mem (by rw [hdw]; simp)
    have hxl:x ∈ l:=(List.dropWhile_suffix (ahead p)).mem (by rw [hdw]; exact List.mem_cons_of_mem _ hx)
    have t:=cmpP_tri hp (hl y hyl) (hl x hxl)
    have a1:=one_cmpP p y
    have a2:=one_cmpP y x
    unfold Tri One at *
    omega
 rw [List.append_assoc,List.pairwise_append]
 refine ⟨h1,?_,fun x hx y hy=>?_⟩
 ·rw [List.singleton_append,List.pairwise_cons]
  exact ⟨hd,h2⟩
 ·rw [List.singleton_append,List.mem_cons] at hy
  rcases hy with rfl | hy
  ·exact ht x hx
  ·exact h3 x hx y hy
theorem rise_all:∀ (l out:List Pk),Rise out → (∀ x ∈ l,isV x.vs = true) → (∀ x ∈ out,isV x.vs = true) → Rise (insAll l out)
 | [],out,h,_,_=>h
 | p :: r,out,h,h1,h2=>by
  unfold insAll
  refine rise_all r _ (rise_ins h (h1 p (by simp)) h2) (fun x hx=>h1 x (List.mem_cons_of_mem _ hx)) fun x hx=>?_
  rcases List.mem_cons.1 ((ins_perm p out).mem_iff.1 hx) with rfl | hx
  ·exact h1 _ (by simp)
  ·exact h2 x hx
theorem sorts_ins {l:List Pk} (h:∀ x ∈ l,isV x.vs = true):Sorts l (insAll l []):=by
 have hp:=insAll_perm l []
 rw [List.append_nil] at hp
 refine ⟨hp,fun i j hij hj=>?_⟩
 have hr:=rise_all l [] List.Pairwise.nil h (fun x hx=>by cases hx)
 unfold Rise at hr
 rw [List.pairwise_iff_getElem] at hr
 have:=hr i j (by omega) hj hij
 rw [List.getD_eq_getElem?_getD,List.getElem?_eq_getElem hj,List.getD_eq_getElem?_getD,List.getElem?_eq_getElem (by omega:i < _)]
 have t:=cmpP_turn ((insAll l [])[i]'(by omega)) ((insAll l [])[j])
 show ¬ cmpP ((insAll l [])[j]) ((insAll l [])[i]'(by omega)) < 0
 omega
end Ix
end Go.Proofs.YtelofmeapplfpaaGreatDoor
namespace Go.Proofs.YtelofmeapplfpaaGreatDoor
open Go.RowKit
set_option linter.unusedSimpArgs false
set_option linter.unusedVariables false
namespace Ix
open Ver (Bs S)
open Rl (At Pv Slc)
open Rc (Pk nPk Pks PkC CAt Has)
theorem range_of {w:World} {g:Nat} {T:TypeId} {cs:Array Value} (hg:Blk.Is w g T cs):w.rangeAt g 0 cs.toList:=fun j v hj=>by
 rw [Nat.zero_add]
 exact hg.at (by rw [← Array.getElem?_toList]; exact hj)
end Ix
end Go.Proofs.YtelofmeapplfpaaGreatDoor
namespace Go.Proofs.YtelofmeapplfpaaGreatDoor
open Go.RowKit
set_option linter.unusedSimpArgs false
set_option linter.unusedVariables false
namespace Ix
open Ver (Bs S)
open Rl (At Pv Slc)
open Rc (Pk nPk Pks PkC CAt Has infoPk)
theorem append_pk {w:World} {ops:Array Oper} {rest:List Oper} {o:Oper} {a:Act} {Q:Exit → Act → World → Prop} (hgd:o.guard = none) (s x:Operand)
  (ho:o.op = .call { callee:=.builtin .append,args:=#[s,x],argTypes:=#[34,34] })
  (B:Nat) (v:Value) (n:Nat) (xs:List Value) (hv:a.eval s = v) (hown:w.ownsRow B 26 9 v n xs) (k:Nat) (c:Nat) (hx:a.eval x = .slice (some ⟨k,0,none⟩) 1 c) (news:List Value) (hnl:news.length = 9) (hc:∀ (j:Nat) u,news[j]? = some u → w.cell? ⟨k,j,none⟩ = some u)
  (ho1:∀ u ∈ news,u.oneCell' = true) (hn:n + 1 ≤ 70000) (hB:B ≤ w.heap.size)
  (h:∀ v' w',w'.ownsRow B 26 9 v' (n + 1) (xs ++ news) → w.grownBy w' v.ownBlock → wpList Tryz.prog ops Q rest (a.put o.dst v') w'):wpList Tryz.prog ops Q (o :: rest) a w:=by
 obtain ⟨i0,hi,hz0,hz1,hz2⟩:=info_parts infoPk
 have hsrc:Src Tryz.prog 9 34 (.slice (some ⟨k,0,none⟩) 1 c) 1 news w:=by
  refine Src.ofSlice w Tryz.underlying34 ⟨k,0,none⟩ 1 c news (by rw [hnl]) (fun j u hj=>?_) ho1
  have:=hc j u hj
  have e:(⟨k,0,none⟩:Addr).add j = ⟨k,j,none⟩:=by cases j <;> simp [Addr.add]
  rw [e]; exact this
 have hmul:(n + 1) * 184 ≤ 70000 * 184:=Nat.mul_le_mul_right _ hn
 refine wpList_plain hgd fun K hK=>?_
 obtain ⟨v',w',hr,h2,h3,h4⟩:=Own.run_append_src (P:=Tryz.prog) 34 34 o.type B 26 i0 _ 9 184 Tryz.underlying34 hi hz0 hz1 hz2 rfl v n xs hown _ 1 news hsrc (by simp only [maxLen]; omega) (by omega) hB
 unfold Oper.wp execOp
 simp only [ho,resolve,invoke,builtin,Sem.run_bind,Sem.run_pure,Result.andThen_ok,List.map_toArray,List.map_cons,List.map_nil,hv,hx,hr]
 exact hK _ _ (h v' w' h2 h3)
end Ix
end Go.Proofs.YtelofmeapplfpaaGreatDoor

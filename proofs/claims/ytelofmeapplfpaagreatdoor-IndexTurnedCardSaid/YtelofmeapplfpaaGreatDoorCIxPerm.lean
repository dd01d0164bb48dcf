/-
Whether packages may be does not speak of their order; whoever meets an atom meets its name alone.
-/
import Derived.Test.YtelofmeapplfpaaGreatDoorCIxUniq
import Derived.Test.YtelofmeapplfpaaGreatDoorCIxMeets
namespace Go.Proofs.YtelofmeapplfpaaGreatDoor
open Go.RowKit
set_option linter.unusedSimpArgs false
set_option linter.unusedVariables false
namespace Ix
open Ver (Bs cmpV sameV holdsV)
open Rl (At Pv isV may nmB)
open Rc (Pk nPk mayAll twice again mayK eachK orI nmsOf)
theorem orI_all:∀ {l:List Int},(∀ x ∈ l,x = 0) → orI l = 0
 | [],_=>rfl
 | y :: r,h=>by
  unfold orI
  rw [if_neg (by have:=h y (by simp); simpa using this)]
  exact orI_all fun x hx=>h x (List.mem_cons_of_mem _ hx)
theorem eachK_iff {l:List Pk}:eachK l = 0 ↔ ∀ p ∈ l,mayK p = 0:=by
 unfold eachK
 constructor
 ·intro h p hp
  exact orI_zero h _ (List.mem_map.2 ⟨p,hp,rfl⟩)
 ·intro h
  refine orI_all fun x hx=>?_
  obtain ⟨p,hp,rfl⟩:=List.mem_map.1 hx
  exact h p hp
theorem again_turn (p q:Pk):again q p = again p q:=by
 unfold again sameV
 rw [Ver.cmpV_turn p.vs q.vs]
 have e:decide (q.nm = p.nm) = decide (p.nm = q.nm):=decide_eq_decide.2 eq_comm
 have e2:decide (-cmpV p.vs q.vs = 0) = decide (cmpV p.vs q.vs = 0):=decide_eq_decide.2 (by omega)
 rw [e,e2,Bool.and_comm (Ver.parse q.vs).isSome]
theorem twice_iff {l:List Pk}:twice l = false ↔ l.Pairwise fun p q=>again p q = false:=by
 constructor
 ·intro h
  rw [List.pairwise_iff_getElem]
  intro i j hi hj hij
  have:=twice_no h hij hj
  rw [List.getD_eq_getElem?_getD,List.getElem?_eq_getElem hj,List.getD_eq_getElem?_getD,List.getElem?_eq_getElem hi] at this
  rw [← again_turn]
  exact this
 ·intro h
  rw [List.pairwise_iff_getElem] at h
  unfold twice
  rw [List.any_eq_false]
  intro j hj
  have hj':=List.mem_range.1 hj
  rw [Bool.not_eq_true,List.any_eq_false]
  intro q hq
  obtain ⟨i,hi⟩:=List.mem_iff_getElem?.1 hq
  rw [List.getElem?_take] at hi
  by_cases hij:i < j
  ·rw [if_pos hij] at hi
   obtain ⟨h1,h2⟩:=List.getElem?_eq_some_iff.1 hi
   have:=h i j h1 hj' hij
   rw [← again_turn,h2] at this
   rw [List.getD_eq_getElem?_getD,List.getElem?_eq_getElem hj']
   simpa using this
  ·rw [if_neg hij] at hi
   cases hi
/-! ### the names -/
theorem nms_mem:∀ (l:List Pk) (ns:List Bs) (x:Bs),x ∈ nmsOf l ns ↔ x ∈ ns ∨ ∃ p ∈ l,p.nm = x
 | [],ns,x=>by unfold nmsOf; simp
 | p :: r,ns,x=>by
  unfold nmsOf
  rw [nms_mem r]
  by_cases h:p.nm ∈ ns
  ·rw [if_pos h]
   constructor
   ·rintro (h1 | ⟨q,h1,h2⟩)
    ·exact .inl h1
    ·exact .inr ⟨q,List.mem_cons_of_mem _ h1,h2⟩
   ·rintro (h1 | ⟨q,h1,h2⟩)
    ·exact .inl h1
    ·rcases List.mem_cons.1 h1 with rfl | h1
     ·exact .inl (h2 ▸ h)
     ·exact .inr ⟨q,h1,h2⟩
  ·rw [if_neg h,List.mem_append,List.mem_singleton]
   constructor
   ·rintro ((h1 | h1) | ⟨q,h1,h2⟩)
    ·exact .inl h1
    ·exact .inr ⟨p,by simp,h1.symm⟩
    ·exact .inr ⟨q,List.mem_cons_of_mem _ h1,h2⟩
   ·rintro (h1 | ⟨q,h1,h2⟩)
    ·exact .inl (.inl h1)
    ·rcases List.mem_cons.1 h1 with rfl | h1
     ·exact .inl (.inr h2.symm)
     ·exact .inr ⟨q,h1,h2⟩
theorem nms_nodup:∀ (l:List Pk) (ns:List Bs),ns.Nodup → (nmsOf l ns).Nodup
 | [],ns,h=>h
 | p :: r,ns,h=>by
  unfold nmsOf
  refine nms_nodup r _ ?_
  split
  ·exact h
  ·rename_i hn
   rw [List.nodup_append]
   refine ⟨h,by simp,fun a ha b hb e=>?_⟩
   have:b = p.nm:=by simpa using hb
   exact hn (this ▸ e ▸ ha)
theorem len_le:∀ {a b:List Bs},a.Nodup → (∀ x ∈ a,x ∈ b) → a.length ≤ b.length
 | [],_,_,_=>Nat.zero_le _
 | x :: r,b,hn,hs=>by
  rw [List.nodup_cons] at hn
  have hx:x ∈ b:=hs x (by simp)
  have h:=len_le (b:=b.erase x) hn.2 fun y hy=>by
   exact (List.mem_erase_of_ne (show y ≠ x from fun e=>hn.1 (e ▸ hy))).2 (hs y (List.mem_cons_of_mem _ hy))
  rw [List.length_erase_of_mem hx] at h
  have:0 < b.length:=List.length_pos_of_mem hx
  simp only [List.length_cons]
  omega
theorem nms_len {l m:List Pk} (h:m.Perm l):(nmsOf m []).length = (nmsOf l []).length:=by
 have e:∀ x,x ∈ nmsOf m [] ↔ x ∈ nmsOf l []:=fun x=>by
  rw [nms_mem,nms_mem]
  simp only [List.not_mem_nil,false_or]
  exact ⟨fun ⟨p,h1,h2⟩=>⟨p,h.mem_iff.1 h1,h2⟩,fun ⟨p,h1,h2⟩=>⟨p,h.mem_iff.2 h1,h2⟩⟩
 exact Nat.le_antisymm (len_le (nms_nodup m [] List.nodup_nil) fun x hx=>(e x).1 hx) (len_le (nms_nodup l [] List.nodup_nil) fun x hx=>(e x).2 hx)
theorem mayAll_iff {l:List Pk}:mayAll l = 0 ↔ l.length ≤ 24 ∧ eachK l = 0 ∧ twice l = false ∧ (nmsOf l []).length ≤ 10:=by
 unfold mayAll
 by_cases h1:24 < l.length
 ·rw [if_pos h1]; simp; omega
 ·rw [if_neg h1]
  by_cases h2:eachK l = 0
  ·rw [if_neg (by simpa using h2)]
   cases h3:twice l with
   | true=>simp
   | false =>
    rw [if_neg (by simp)]
    by_cases h4:10 < (nmsOf l []).length
    ·rw [if_pos h4]; simp; omega
    ·rw [if_neg h4]; simp [h2]; omega
  ·rw [if_pos (by simpa using h2)]; simp [h2]
theorem mayAll_perm {l m:List Pk} (h:m.Perm l):mayAll m = 0 ↔ mayAll l = 0:=by
 rw [mayAll_iff,mayAll_iff,h.length_eq,nms_len h,eachK_iff,eachK_iff,twice_iff,twice_iff,h.pairwise_iff (fun {a b} hab=>by rw [again_turn]; exact hab)]
 constructor
 ·exact fun ⟨h1,h2,h3⟩=>⟨h1,fun p hp=>h2 p (h.mem_iff.2 hp),h3⟩
 ·exact fun ⟨h1,h2,h3⟩=>⟨h1,fun p hp=>h2 p (h.mem_iff.1 hp),h3⟩
/-! ### whoever meets an atom meets its name -/
theorem holds_isV {r:Int} {a c:Bs} (h:holdsV r a c = true):isV a = true:=by
 unfold holdsV at h
 unfold isV
 split at h
 ·exact h
 ·simp only [Bool.and_eq_true] at h
  exact h.1.1
theorem sat_any {p:Pk} {a:At} (h:sat p a = true):sat p (a.1,0,[]) = true:=by
 unfold sat at h ⊢
 simp only [Bool.and_eq_true,Bool.or_eq_true,decide_eq_true_eq] at h ⊢
 obtain ⟨hm,h⟩:=h
 refine ⟨?_,?_⟩
 ·unfold may at hm ⊢
  simp only [Bool.and_eq_true] at hm ⊢
  exact ⟨hm.1,by simp⟩
 ·rcases h with ⟨h1,h2⟩ | h
  ·refine .inl ⟨h1,?_⟩
   have:=holds_isV h2
   unfold isV at this
   simp [holdsV,this]
  ·refine .inr ?_
   obtain ⟨v,h1,h2⟩:=List.any_eq_true.1 h
   refine List.any_eq_true.2 ⟨v,h1,?_⟩
   unfold pmeets at h2 ⊢
   simp only [Bool.and_eq_true,decide_eq_true_eq] at h2 ⊢
   simp [h2.1]
theorem mt_any {xs:List Pk} {a:At} {i:Nat} (h:i ∈ mt xs a):i ∈ mt xs (a.1,0,[]):=by
 unfold mt pl at h ⊢
 rw [List.mem_filter] at h ⊢
 exact ⟨h.1,sat_any h.2⟩
end Ix
end Go.Proofs.YtelofmeapplfpaaGreatDoor

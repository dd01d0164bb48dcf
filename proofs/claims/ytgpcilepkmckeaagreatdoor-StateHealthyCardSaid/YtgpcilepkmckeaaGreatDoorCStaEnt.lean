/-
Entries in a row of the call's own that is written in place: the cells of each, and where their lists lie.
-/
import Derived.Test.YtgpcilepkmckeaaGreatDoorCStaVis
import Derived.Test.YtgpcilepkmckeaaGreatDoorCRecBare
import Derived.Deep.MidRow
namespace Go.Proofs.YtgpcilepkmckeaaGreatDoor
open Go.RowKit
set_option linter.unusedSimpArgs false
set_option linter.unusedVariables false
namespace Sa
open Ver (Bs S)
open Rl (At Slc mem_getD)
open Rc (Pk nPk En nEn EnC CAt Has Ens infoEn)
structure Ee where
 en:En
 u1:Value
 u2:Value
 u3:Value
 u4:Value
 u5:Value
 u6:Value
 sl:∀ u ∈ [u1,u2,u3,u4,u5,u6],∃ a n c,u = Value.slice a n c
instance:Inhabited Ee:=⟨⟨nEn,.slice none 0 0,.slice none 0 0,.slice none 0 0,.slice none 0 0,.slice none 0 0,.slice none 0 0,fun u hu=>by simp at hu; exact ⟨none,0,0,hu⟩⟩⟩
def Ee.enc (x:Ee):List Value:=[.string (S x.en.pk.nm),.string (S x.en.pk.vs),x.u1,x.u2,x.u3,x.u4,x.u5,x.u6,.bool x.en.pk.ess,.bool x.en.cfg,.bool x.en.hld]
theorem Ee.one (x:Ee):∀ u ∈ x.enc,u.oneCell' = true:=by
 intro u hu
 unfold Ee.enc at hu
 simp only [List.mem_cons,List.not_mem_nil,or_false] at hu
 have h:∀ v ∈ [x.u1,x.u2,x.u3,x.u4,x.u5,x.u6],v.oneCell' = true:=fun v hv=>by
  obtain ⟨a,n,c,e⟩:=x.sl v hv
  rw [e]; rfl
 simp only [List.mem_cons,List.not_mem_nil,or_false] at h
 rcases hu with rfl | rfl | e | e | e | e | e | e | rfl | rfl | rfl
 ·rfl
 ·rfl
 ·exact h u (.inl e)
 ·exact h u (.inr (.inl e))
 ·exact h u (.inr (.inr (.inl e)))
 ·exact h u (.inr (.inr (.inr (.inl e))))
 ·exact h u (.inr (.inr (.inr (.inr (.inl e)))))
 ·exact h u (.inr (.inr (.inr (.inr (.inr e)))))
 ·rfl
 ·rfl
 ·rfl
def Ee.Is (x:Ee) (w:World):Prop:=Has w x.en.pk x.u1 x.u2 x.u3 x.u4 x.u5 x.u6
theorem Ee.Is.below {x:Ee} {w w':World} (h:x.Is w) (hb:Below w.heap.size w w'):x.Is w':=Has.below h hb
theorem get_getD {α:Type} {l:List α} {i:Nat} {x:α} (h:l[i]? = some x) (z:α):l.getD i z = x:=by rw [List.getD_eq_getElem?_getD,h]; rfl
theorem ee_at {w:World} {B:Nat} {R rc n:Nat} {ds:List Ee} (h:w.ownsRow B 45 11 (.slice (some ⟨R,0,none⟩) n rc) n (ds.flatMap Ee.enc)) {i:Nat} {x:Ee} (hx:ds[i]? = some x) {j:Nat} {u:Value} (hj:x.enc[j]? = some u):w.cell? ⟨R,i * 11 + j,none⟩ = some u:=by
 rw [Nat.mul_comm i 11]
 exact Rl.own_cell h (by rw [Rl.flat_at Ee.enc 11 (fun _=>rfl) ds i j x hx (List.getElem?_eq_some_iff.1 hj).1]; exact hj)
theorem own_ees {w:World} {B:Nat} {v:Value} {ds:List Ee} {n:Nat} (h:w.ownsRow B 45 11 v n (ds.flatMap Ee.enc)) (hn:ds.length = n) (hh:∀ x ∈ ds,x.Is w) (hl:n ≤ 1152921504606846976):Ens w v (ds.map Ee.en):=by
 obtain ⟨a,cap,rfl,hc⟩:=Rl.own_shape h
 refine ⟨by rw [List.length_map]; omega,a,cap,by rw [List.length_map,hn],by rw [List.length_map]; omega,fun h0=>?_⟩
 rw [List.length_map] at h0
 obtain ⟨R,c2,e,_⟩:=Rl.own_slice h (by omega)
 simp only [Value.slice.injEq,true_and] at e
 obtain ⟨rfl,rfl⟩:=e
 refine ⟨R,0,rfl,fun i hi=>?_⟩
 rw [List.length_map] at hi
 obtain ⟨x,hx⟩:∃ x,ds[i]? = some x:=⟨ds[i],List.getElem?_eq_getElem hi⟩
 have e:(ds.map Ee.en).getD i nEn = x.en:=get_getD (by rw [List.getElem?_map,hx]; rfl) _
 rw [e]
 refine ⟨x.enc,⟨_,_,_,_,_,_,rfl,hh x (List.mem_of_getElem? hx)⟩,fun j u hj=>?_⟩
 rw [Nat.zero_add,Nat.mul_comm 11 i]
 exact ee_at h hx hj
end Sa
end Go.Proofs.YtgpcilepkmckeaaGreatDoor

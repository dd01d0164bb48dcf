/-
The mathematics of states: which wholes are healthy; what fewer relations, holds make of what is wrong. Violations compared: SameWrong, slices.Index, slices.Contains, Within and the reference's.
-/
import Derived.Test.YtgpcilepkmckeaaGreatDoorCStaDef
import Derived.Test.YtgpcilepkmckeaaGreatDoorCIxSat
import Derived.Test.YtgpcilepkmckeaaGreatDoorCStaUnm
import Derived.Test.YtgpcilepkmckeaaGreatDoorCRelJoin
import Derived.BigQuiet
namespace Go.Proofs.YtgpcilepkmckeaaGreatDoor
open Go.RowKit
set_option linter.unusedSimpArgs false
set_option linter.unusedVariables false
namespace Sa
open Ver (Bs li S)
open Rl (At Pv Slc nA mem_getD)
open Rc (Pk nPk En nEn mayK)
open Ix (sat against clash)
/-! ### healthy wholes -/
theorem flat_nil {α:Type} {f:Nat → List α} {k:Nat}:(List.range k).flatMap f = [] ↔ ∀ i,i < k → f i = []:=by
 rw [List.flatMap_eq_nil_iff]
 exact ⟨fun h i hi=>h i (List.mem_range.2 hi),fun h i hi=>h i (List.mem_range.1 hi)⟩
theorem unm_nil {s:List En} {cs:List (List At)} {nm:Bs} {pr:Bool}:unm s cs nm pr = [] ↔ ∀ c ∈ cs,metB s c = true:=by
 unfold unm unmN
 rw [flat_nil]
 constructor
 ·intro h c hc
  obtain ⟨i,hi,rfl⟩:=List.mem_iff_getElem.1 hc
  have:=h i hi
  unfold unm1 at this
  rw [List.getD_eq_getElem?_getD,List.getElem?_eq_getElem hi,Option.getD_some] at this
  by_cases e:metB s cs[i] = true
  ·exact e
  ·rw [if_neg e] at this; cases this
 ·intro h i hi
  unfold unm1
  rw [if_pos (h _ (mem_getD hi))]
theorem cla_nil {s:List En} {p:Nat} {ls:List At} {kd:Int}:cla s p ls kd = [] ↔ ∀ a ∈ ls,∀ j,j < s.length → hit s p kd a j = false:=by
 unfold cla claN
 rw [flat_nil]
 have one:∀ i a,claJ s p kd i a s.length = [] ↔ ∀ j,j < s.length → hit s p kd a j = false:=fun i a=>by
  unfold claJ
  rw [flat_nil]
  refine forall_congr' fun j=>forall_congr' fun _=>?_
  unfold cla1
  cases hit s p kd a j <;> simp
 constructor
 ·intro h a ha
  obtain ⟨i,hi,rfl⟩:=List.mem_iff_getElem.1 ha
  have:=h i hi
  rw [List.getD_eq_getElem?_getD,List.getElem?_eq_getElem hi,Option.getD_some] at this
  exact (one _ _).1 this
 ·intro h i hi
  exact (one _ _).2 (h _ (mem_getD hi))
theorem wr_nil {s:List En}:wr s = [] ↔ ∀ p,p < s.length → (∀ c ∈ (pkA s p).pre,metB s c = true) ∧ (cfA s p = true → ∀ c ∈ (pkA s p).dep,metB s c = true) ∧ (∀ a ∈ (pkA s p).con,∀ j,j < s.length → hit s p 2 a j = false) ∧ ∀ a ∈ (pkA s p).brk,∀ j,j < s.length → hit s p 3 a j = false:=by
 unfold wr wrN
 rw [flat_nil]
 refine forall_congr' fun p=>forall_congr' fun _=>?_
 unfold wrA
 rw [List.append_eq_nil_iff,List.append_eq_nil_iff,List.append_eq_nil_iff,unm_nil,cla_nil,cla_nil]
 by_cases h:cfA s p = true
 ·rw [if_pos h,unm_nil]; simp [h]
 ·rw [if_neg h]; simp [h]
def conf (l:List Pk):List En:=l.map fun p=>⟨p,true,false⟩
def AllC (s:List En) (l:List Pk):Prop:=s.map En.pk = l ∧ ∀ x ∈ s,x.cfg = true
theorem conf_all (l:List Pk):AllC (conf l) l:=by
 unfold conf
 refine ⟨by simp [Function.comp_def],fun x hx=>?_⟩
 obtain ⟨p,_,rfl⟩:=List.mem_map.1 hx
 rfl
theorem AllC.len {s:List En} {l:List Pk} (h:AllC s l):s.length = l.length:=by rw [← h.1,List.length_map]
theorem AllC.pk {s:List En} {l:List Pk} (h:AllC s l) {j:Nat} (hj:j < l.length):pkA s j = l.getD j nPk:=by
 have hs:j < s.length:=by rw [h.len]; exact hj
 unfold pkA
 rw [← h.1,List.getD_eq_getElem?_getD,List.getD_eq_getElem?_getD,List.getElem?_map,List.getElem?_eq_getElem hs]; rfl
theorem AllC.cf {s:List En} {l:List Pk} (h:AllC s l) {j:Nat} (hj:j < l.length):cfA s j = true:=by
 have hs:j < s.length:=by rw [h.len]; exact hj
 exact h.2 _ (mem_getD hs)
def metR (l:List Pk) (c:List At):Bool:=c.any fun a=>l.any fun p=>sat p a
theorem metR_iff {l:List Pk} {c:List At}:metR l c = true ↔ ∃ p ∈ l,cmet p c = true:=by
 unfold metR cmet
 simp only [List.any_eq_true]
 constructor
 ·rintro ⟨a,ha,p,hp,h⟩; exact ⟨p,hp,a,ha,h⟩
 ·rintro ⟨p,hp,a,ha,h⟩; exact ⟨a,ha,p,hp,h⟩
theorem metB_iff {s:List En} {c:List At}:metB s c = true ↔ ∃ x ∈ s,x.cfg = true ∧ cmet x.pk c = true:=by
 unfold metB metJ cfA pkA
 rw [List.any_eq_true]
 constructor
 ·rintro ⟨j,hj,h⟩
  rw [Bool.and_eq_true] at h
  exact ⟨_,mem_getD (List.mem_range.1 hj),h⟩
 ·rintro ⟨x,hx,h⟩
  obtain ⟨j,hj,rfl⟩:=List.mem_iff_getElem.1 hx
  refine ⟨j,List.mem_range.2 hj,?_⟩
  rw [List.getD_eq_getElem?_getD,List.getElem?_eq_getElem hj,Option.getD_some,Bool.and_eq_true]
  exact h
def done (s:List En):List Pk:=(s.filter fun x=>x.cfg).map En.pk
theorem met_done (s:List En) (c:List At):metR (done s) c = metB s c:=by
 rw [Bool.eq_iff_iff,metR_iff,metB_iff]
 unfold done
 constructor
 ·rintro ⟨p,hp,h⟩
  obtain ⟨x,hx,rfl⟩:=List.mem_map.1 hp
  obtain ⟨h1,h2⟩:=List.mem_filter.1 hx
  exact ⟨x,h1,h2,h⟩
 ·rintro ⟨x,h1,h2,h⟩
  exact ⟨x.pk,List.mem_map.2 ⟨x,List.mem_filter.2 ⟨h1,h2⟩,rfl⟩,h⟩
theorem AllC.done {s:List En} {l:List Pk} (h:AllC s l):done s = l:=by
 unfold Sa.done
 rw [List.filter_eq_self.2 h.2,h.1]
theorem AllC.met {s:List En} {l:List Pk} (h:AllC s l) (c:List At):metB s c = metR l c:=by rw [← met_done,h.done]
theorem AllC.hit {s:List En} {l:List Pk} (h:AllC s l) {p j:Nat} (hj:j < l.length) (kd:Int) (a:At):Sa.hit s p kd a j = (!decide (j = p) && sat (l.getD j nPk) a):=by
 unfold Sa.hit
 rw [h.cf hj,h.pk hj]; simp
def Peace (l:List Pk):Prop:=∀ p,p < l.length → ∀ j,j < l.length → j ≠ p → against (l.getD p nPk) (l.getD j nPk) = false
def Fed (l:List Pk):Prop:=∀ p,p < l.length → (∀ c ∈ (l.getD p nPk).pre,metR l c = true) ∧ ∀ c ∈ (l.getD p nPk).dep,metR l c = true
theorem against_no {p q:Pk}:against p q = false ↔ (∀ a ∈ p.con,sat q a = false) ∧ ∀ a ∈ p.brk,sat q a = false:=by
 unfold against
 simp [List.any_eq_false]
theorem AllC.wr_nil {s:List En} {l:List Pk} (h:AllC s l):wr s = [] ↔ Fed l ∧ Peace l:=by
 rw [Sa.wr_nil,h.len]
 constructor
 ·intro g
  refine ⟨fun p hp=>?_,fun p hp j hj hne=>?_⟩
  ·obtain ⟨g1,g2,_,_⟩:=g p hp
   rw [h.pk hp] at g1 g2
   exact ⟨fun c hc=>by rw [← h.met]; exact g1 c hc,fun c hc=>by rw [← h.met]; exact g2 (h.cf hp) c hc⟩
  ·obtain ⟨_,_,g3,g4⟩:=g p hp
   rw [h.pk hp] at g3 g4
   rw [against_no]
   refine ⟨fun a ha=>?_,fun a ha=>?_⟩
   ·have:=g3 a ha j hj
    rw [h.hit hj] at this
    simpa [hne] using this
   ·have:=g4 a ha j hj
    rw [h.hit hj] at this
    simpa [hne] using this
 ·rintro ⟨g1,g2⟩ p hp
  rw [h.pk hp]
  refine ⟨fun c hc=>by rw [h.met]; exact (g1 p hp).1 c hc,fun _ c hc=>by rw [h.met]; exact (g1 p hp).2 c hc,fun a ha j hj=>?_,fun a ha j hj=>?_⟩
  ·rw [h.hit hj]
   by_cases e:j = p
   ·simp [e]
   ·have:=(against_no.1 (g2 p hp j hj e)).1 a ha
    rw [this,Bool.and_false]
  ·rw [h.hit hj]
   by_cases e:j = p
   ·simp [e]
   ·have:=(against_no.1 (g2 p hp j hj e)).2 a ha
    rw [this,Bool.and_false]
def Whol (l:List Pk):Prop:=(∀ p ∈ l,mayK p = 0) ∧ (l.map Pk.nm).Nodup
def Hea (l:List Pk):Prop:=Whol l ∧ Fed l ∧ Peace l
def okR (l:List Pk) (i:Nat):Prop:=mayK (l.getD i nPk) = 0 ∧ (∀ j,j < i → (l.getD j nPk).nm ≠ (l.getD i nPk).nm ∧ clash (l.getD i nPk) (l.getD j nPk) = false) ∧ (∀ c ∈ (l.getD i nPk).pre,metR l c = true) ∧ ∀ c ∈ (l.getD i nPk).dep,metR l c = true
theorem getD_of {α:Type} {l:List α} {z:α} {i:Nat} (hi:i < l.length):l.getD i z = l[i]:=by
 rw [List.getD_eq_getElem?_getD,List.getElem?_eq_getElem hi]; rfl
theorem nodup_iff {l:List Pk}:(l.map Pk.nm).Nodup ↔ ∀ i,i < l.length → ∀ j,j < i → (l.getD j nPk).nm ≠ (l.getD i nPk).nm:=by
 unfold List.Nodup
 rw [List.pairwise_iff_getElem]
 constructor
 ·intro h i hi j hj
  have:=h j i (by rw [List.length_map]; omega) (by rw [List.length_map]; omega) hj
  rw [List.getElem_map,List.getElem_map] at this
  rwa [getD_of (by omega),getD_of hi]
 ·intro h i j hi hj hij
  rw [List.length_map] at hi hj
  have:=h j hj i hij
  rw [getD_of hi,getD_of hj] at this
  rwa [List.getElem_map,List.getElem_map]
theorem clash_two {p q:Pk} (h:p.nm ≠ q.nm):clash p q = false ↔ against p q = false ∧ against q p = false:=by
 unfold clash
 simp [h]
theorem hea_iff {l:List Pk}:Hea l ↔ ∀ i,i < l.length → okR l i:=by
 constructor
 ·rintro ⟨⟨h1,h2⟩,h3,h4⟩ i hi
  have h2':=nodup_iff.1 h2 i hi
  refine ⟨h1 _ (mem_getD hi),fun j hj=>⟨h2' j hj,?_⟩,h3 i hi⟩
  rw [clash_two (fun e=>h2' j hj e.symm)]
  exact ⟨h4 i hi j (by omega) (by omega),h4 j (by omega) i hi (by omega)⟩
 ·intro h
  have hn:∀ i,i < l.length → ∀ j,j < i → (l.getD j nPk).nm ≠ (l.getD i nPk).nm:=fun i hi j hj=>((h i hi).2.1 j hj).1
  refine ⟨⟨fun p hp=>?_,nodup_iff.2 hn⟩,fun p hp=>(h p hp).2.2,fun p hp j hj hne=>?_⟩
  ·obtain ⟨i,hi,rfl⟩:=List.mem_iff_getElem.1 hp
   have:=(h i hi).1
   rwa [getD_of hi] at this
  ·rcases Nat.lt_or_gt_of_ne hne with hlt | hgt
   ·exact ((clash_two fun e=>hn p hp j hlt e.symm).1 ((h p hp).2.1 j hlt).2).1
   ·exact ((clash_two fun e=>hn j hj p hgt e.symm).1 ((h j hj).2.1 p hgt).2).2
end Sa
end Go.Proofs.YtgpcilepkmckeaaGreatDoor
namespace Go.Proofs.YtgpcilepkmckeaaGreatDoor
open Go.RowKit
set_option linter.unusedSimpArgs false
set_option linter.unusedVariables false
namespace Sa
open Ver (Bs li li_len S S_self S_size S_li)
open Rl (At Pv Ats Pvs Clss Slc LimA LimP LimC Vars aV nA mem_getD S_eq S_beq)
set_option maxRecDepth 100000 in
theorem eqVi (x y:Vi) (w:World):(Op.equalIn 10000 58 (viV x) (viV y)).run Tryz.prog w = .ok (decide (x = y)) w:=by
 obtain ⟨a0,a1,a2,a3,a4⟩:=x
 obtain ⟨b0,b1,b2,b3,b4⟩:=y
 unfold viV
 have hu:Tryz.prog.underlying 58 = some (.struct (Tryz.prog.fieldsOf 58)):=by kernel_rfl
 have hp:Tryz.prog.stoodInHeld 58 = false:=by kernel_rfl
 rw [run_equalIn_struct w 9999 58 _ _ hu hp]
 have h1:=S_eq a1 b1
 have h2:=S_eq a4 b4
 simp only [go_sem,Tryz.underlying58]
 simp [go_sem,h1,h2]
 by_cases e0:a0 = b0 <;> by_cases e1:a1 = b1 <;> by_cases e2:a2 = b2 <;> by_cases e3:a3 = b3 <;> by_cases e4:a4 = b4 <;> simp [e0,e1,e2,e3,e4]
theorem eqVi2 (x y:Vi) (w:World):(binOp .eql 58 (viV x) (viV y)).run Tryz.prog w = .ok (.bool (decide (x = y))) w:=by
 have h:=eqVi x y w
 unfold viV at h ⊢
 rw [run_eql_struct,h]; rfl
theorem guardVi:Tryz.prog.eqGuardType Tryz.prog.depth 58 = false:=by kernel_rfl
end Sa
end Go.Proofs.YtgpcilepkmckeaaGreatDoor

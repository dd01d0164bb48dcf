/-
The mathematics of states: which wholes are healthy; what fewer relations, holds make of what is wrong.
-/
import Derived.Test.YtgpcilepkmckeaaDoorAStaDef
import Derived.Test.YtgpcilepkmckeaaDoorAIxSat
namespace Go.Proofs.YtgpcilepkmckeaaDoor
open Go.RowKit
set_option linter.unusedSimpArgs false
set_option linter.unusedVariables false
namespace Sa
open Ver (Bs li S)
open Rl (At Pv Slc nA mem_getD)
open Rc (Pk nPk En nEn)
open Ix (sat)
/-! ### healthy wholes -/
theorem flat_nil {α:Type} {f:Nat → List α} {k:Nat}:(List.range k).flatMap f = [] ↔ ∀ i,i < k → f i = []:=by
 rw [List.flatMap_eq_nil_iff]
 exact ⟨fun h i hi=>h i (List.mem_range.2 hi),fun h i hi=>h i (List.mem_range.1 hi)⟩
theorem unm_nil {s:List En} {cs:List (List At)} {nm:Bs} {pr:Bool}:unm s cs nm pr = [] ↔ ∀ c ∈ cs,metB s c = true:=by
 unfold unm unmN
 rw [flat_nil]
 constructor
 ·intro h c hc
  obtain ⟨i,hi,rfl⟩:=List.mem_iff_getElem.1 hc
  have:=h i hi
  unfold unm1 at this
  rw [List.getD_eq_getElem?_getD,List.getElem?_eq_getElem hi,Option.getD_some] at this
  by_cases e:metB s cs[i] = true
  ·exact e
  ·rw [if_neg e] at this; cases this
 ·intro h i hi
  unfold unm1
  rw [if_pos (h _ (mem_getD hi))]
theorem cla_nil {s:List En} {p:Nat} {ls:List At} {kd:Int}:cla s p ls kd = [] ↔ ∀ a ∈ ls,∀ j,j < s.length → hit s p kd a j = false:=by
 unfold cla claN
 rw [flat_nil]
 have one:∀ i a,claJ s p kd i a s.length = [] ↔ ∀ j,j < s.length → hit s p kd a j = false:=fun i a=>by
  unfold claJ
  rw [flat_nil]
  refine forall_congr' fun j=>forall_congr' fun _=>?_
  unfold cla1
  cases hit s p kd a j <;> simp
 constructor
 ·intro h a ha
  obtain ⟨i,hi,rfl⟩:=List.mem_iff_getElem.1 ha
  have:=h i hi
  rw [List.getD_eq_getElem?_getD,List.getElem?_eq_getElem hi,Option.getD_some] at this
  exact (one _ _).1 this
 ·intro h i hi
  exact (one _ _).2 (h _ (mem_getD hi))
theorem wr_nil {s:List En}:wr s = [] ↔ ∀ p,p < s.length → (∀ c ∈ (pkA s p).pre,metB s c = true) ∧ (cfA s p = true → ∀ c ∈ (pkA s p).dep,metB s c = true) ∧ (∀ a ∈ (pkA s p).con,∀ j,j < s.length → hit s p 2 a j = false) ∧ ∀ a ∈ (pkA s p).brk,∀ j,j < s.length → hit s p 3 a j = false:=by
 unfold wr wrN
 rw [flat_nil]
 refine forall_congr' fun p=>forall_congr' fun _=>?_
 unfold wrA
 rw [List.append_eq_nil_iff,List.append_eq_nil_iff,List.append_eq_nil_iff,unm_nil,cla_nil,cla_nil]
 by_cases h:cfA s p = true
 ·rw [if_pos h,unm_nil]; simp [h]
 ·rw [if_neg h]; simp [h]
def metR (l:List Pk) (c:List At):Bool:=c.any fun a=>l.any fun p=>sat p a
theorem metR_iff {l:List Pk} {c:List At}:metR l c = true ↔ ∃ p ∈ l,cmet p c = true:=by
 unfold metR cmet
 simp only [List.any_eq_true]
 constructor
 ·rintro ⟨a,ha,p,hp,h⟩; exact ⟨p,hp,a,ha,h⟩
 ·rintro ⟨p,hp,a,ha,h⟩; exact ⟨a,ha,p,hp,h⟩
theorem metB_iff {s:List En} {c:List At}:metB s c = true ↔ ∃ x ∈ s,x.cfg = true ∧ cmet x.pk c = true:=by
 unfold metB metJ cfA pkA
 rw [List.any_eq_true]
 constructor
 ·rintro ⟨j,hj,h⟩
  rw [Bool.and_eq_true] at h
  exact ⟨_,mem_getD (List.mem_range.1 hj),h⟩
 ·rintro ⟨x,hx,h⟩
  obtain ⟨j,hj,rfl⟩:=List.mem_iff_getElem.1 hx
  refine ⟨j,List.mem_range.2 hj,?_⟩
  rw [List.getD_eq_getElem?_getD,List.getElem?_eq_getElem hj,Option.getD_some,Bool.and_eq_true]
  exact h
def done (s:List En):List Pk:=(s.filter fun x=>x.cfg).map En.pk
theorem met_done (s:List En) (c:List At):metR (done s) c = metB s c:=by
 rw [Bool.eq_iff_iff,metR_iff,metB_iff]
 unfold done
 constructor
 ·rintro ⟨p,hp,h⟩
  obtain ⟨x,hx,rfl⟩:=List.mem_map.1 hp
  obtain ⟨h1,h2⟩:=List.mem_filter.1 hx
  exact ⟨x,h1,h2,h⟩
 ·rintro ⟨x,h1,h2,h⟩
  exact ⟨x.pk,List.mem_map.2 ⟨x,List.mem_filter.2 ⟨h1,h2⟩,rfl⟩,h⟩
theorem getD_of {α:Type} {l:List α} {z:α} {i:Nat} (hi:i < l.length):l.getD i z = l[i]:=by
 rw [List.getD_eq_getElem?_getD,List.getElem?_eq_getElem hi]; rfl
/-! ### with fewer relations nothing more is wrong; holds make no difference -/
structure Like (s t:List En):Prop where
 len:s.length = t.length
 cf:∀ j,cfA s j = cfA t j
 nm:∀ j,(pkA s j).nm = (pkA t j).nm
 vs:∀ j,(pkA s j).vs = (pkA t j).vs
 prv:∀ j,(pkA s j).prv = (pkA t j).prv
theorem Like.sat {s t:List En} (h:Like s t) (j:Nat) (a:At):Ix.sat (pkA s j) a = Ix.sat (pkA t j) a:=by
 unfold Ix.sat
 rw [h.nm,h.vs,h.prv]
theorem Like.met {s t:List En} (h:Like s t) (c:List At):metB s c = metB t c:=by
 unfold metB
 rw [h.len]
 congr 1
 funext j
 unfold metJ cmet
 rw [h.cf]
 congr 1
 congr 1
 funext a
 exact h.sat j a
theorem Like.hit {s t:List En} (h:Like s t) (p:Nat) (kd:Int) (a:At) (j:Nat):Sa.hit s p kd a j = Sa.hit t p kd a j:=by
 unfold Sa.hit
 rw [h.cf,h.sat]
theorem Like.unm {s t:List En} (h:Like s t) (cs:List (List At)) (nm:Bs) (pr:Bool):Sa.unm s cs nm pr = Sa.unm t cs nm pr:=by
 unfold Sa.unm unmN
 congr 1
 funext i
 unfold unm1
 rw [h.met]
theorem Like.cla {s t:List En} (h:Like s t) (p:Nat) (ls:List At) (kd:Int):Sa.cla s p ls kd = Sa.cla t p ls kd:=by
 unfold Sa.cla claN
 congr 1
 funext i
 unfold claJ
 rw [h.len]
 congr 1
 funext j
 unfold cla1
 rw [h.hit,h.nm,h.nm]
structure Part (s t:List En):Prop where
 like:Like s t
 pre:∀ j,(pkA s j).pre = (pkA t j).pre ∨ (pkA s j).pre = []
 dep:∀ j,(pkA s j).dep = (pkA t j).dep ∨ (pkA s j).dep = []
 con:∀ j,(pkA s j).con = (pkA t j).con ∨ (pkA s j).con = []
 brk:∀ j,(pkA s j).brk = (pkA t j).brk ∨ (pkA s j).brk = []
theorem wr_less {s t:List En} (h:Part s t):∀ x ∈ wr s,x ∈ wr t:=by
 intro x hx
 unfold wr wrN at hx ⊢
 rw [List.mem_flatMap] at hx ⊢
 obtain ⟨p,hp,hx⟩:=hx
 refine ⟨p,by rw [← h.like.len]; exact hp,?_⟩
 unfold wrA at hx ⊢
 rw [← h.like.cf,← h.like.nm,← h.like.unm,← h.like.unm,← h.like.cla,← h.like.cla]
 simp only [List.mem_append] at hx ⊢
 rcases hx with hx | hx | hx | hx
 ·rcases h.pre p with e | e
  ·rw [← e]; exact .inl hx
  ·rw [e] at hx; cases hx
 ·refine .inr (.inl ?_)
  by_cases hc:cfA s p = true
  ·rw [if_pos hc] at hx ⊢
   rcases h.dep p with e | e
   ·rw [← e]; exact hx
   ·rw [e] at hx; cases hx
  ·rw [if_neg hc] at hx; cases hx
 ·rcases h.con p with e | e
  ·rw [← e]; exact .inr (.inr (.inl hx))
  ·rw [e] at hx; cases hx
 ·rcases h.brk p with e | e
  ·rw [← e]; exact .inr (.inr (.inr hx))
  ·rw [e] at hx; cases hx
structure Alike (s t:List En):Prop where
 like:Like s t
 pre:∀ j,(pkA s j).pre = (pkA t j).pre
 dep:∀ j,(pkA s j).dep = (pkA t j).dep
 con:∀ j,(pkA s j).con = (pkA t j).con
 brk:∀ j,(pkA s j).brk = (pkA t j).brk
theorem wr_same {s t:List En} (h:Alike s t):wr s = wr t:=by
 unfold wr wrN
 rw [h.like.len]
 congr 1
 funext p
 unfold wrA
 rw [h.like.cf,h.like.nm,h.pre,h.dep,h.con,h.brk,h.like.unm,h.like.unm,h.like.cla,h.like.cla]
theorem wr_bare {s:List En} (h:∀ j,(pkA s j).pre = [] ∧ (pkA s j).dep = [] ∧ (pkA s j).con = [] ∧ (pkA s j).brk = []):wr s = []:=by
 rw [wr_nil]
 intro p _
 obtain ⟨h1,h2,h3,h4⟩:=h p
 rw [h1,h2,h3,h4]
 exact ⟨(fun c hc=>nomatch hc),(fun _ c hc=>nomatch hc),(fun a ha=>nomatch ha),(fun a ha=>nomatch ha)⟩
/-! ### is each in the other -/
def within (a b:List Vi):Bool:=a.all fun x=>b.any fun y=>decide (x = y)
theorem within_iff {a b:List Vi}:within a b = true ↔ ∀ x ∈ a,x ∈ b:=by
 unfold within
 rw [List.all_eq_true]
 refine forall_congr' fun x=>forall_congr' fun _=>?_
 rw [List.any_eq_true]
 constructor
 ·rintro ⟨y,hy,h⟩
  rw [of_decide_eq_true h]; exact hy
 ·intro h
  exact ⟨x,h,decide_eq_true rfl⟩
end Sa
end Go.Proofs.YtgpcilepkmckeaaDoor

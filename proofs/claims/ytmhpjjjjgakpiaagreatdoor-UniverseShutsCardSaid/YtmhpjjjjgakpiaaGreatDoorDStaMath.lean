/-
The reference's names: put where they belong, each once, rising. The mathematics of states: what is wrong with entries, which wholes are healthy. The mathematics of states: which wholes are healthy; what fewer relations, holds make of what is wrong.
-/
import Derived.Test.YtmhpjjjjgakpiaaGreatDoorDIxIns
import Derived.Test.YtmhpjjjjgakpiaaGreatDoorDIxSat
import Derived.Test.YtmhpjjjjgakpiaaGreatDoorDRecMay
namespace Go.Proofs.YtmhpjjjjgakpiaaGreatDoor
open Go.RowKit
set_option linter.unusedSimpArgs false
set_option linter.unusedVariables false
namespace Ix
open Ver (Bs Tri orr sgn)
open Go.Sort
def below (nm x:Bs):Bool:=decide (Lib.compareBytes x nm < 0)
def slotN (nm:Bs) (l:List Bs):Nat:=(l.takeWhile (below nm)).length
def insN (nm:Bs) (l:List Bs):List Bs:=if l[slotN nm l]? = some nm then l else l.take (slotN nm l) ++ [nm] ++ l.drop (slotN nm l)
def insNs:List Bs → List Bs → List Bs
 | [],out=>out
 | p :: r,out=>insNs r (insN p out)
theorem takeN (nm:Bs) (l:List Bs):l.take (slotN nm l) = l.takeWhile (below nm):=by
 unfold slotN
 exact (List.prefix_iff_eq_take.1 (List.takeWhile_prefix _)).symm
theorem dropN (nm:Bs) (l:List Bs):l.drop (slotN nm l) = l.dropWhile (below nm):=by
 have h:=List.takeWhile_append_dropWhile (p:=below nm) (l:=l)
 have e:(l.takeWhile (below nm) ++ l.dropWhile (below nm)).drop (slotN nm l) = l.dropWhile (below nm):=by
  unfold slotN
  exact List.drop_left
 rwa [h] at e
theorem insN_mem (nm:Bs) (l:List Bs) (x:Bs):x ∈ insN nm l ↔ x = nm ∨ x ∈ l:=by
 unfold insN
 split
 ·rename_i h
  constructor
  ·exact .inr
  ·rintro (rfl | h1)
   ·exact List.mem_of_getElem? h
   ·exact h1
 ·have e:x ∈ l ↔ x ∈ l.take (slotN nm l) ∨ x ∈ l.drop (slotN nm l):=by
   rw [← List.mem_append,List.take_append_drop]
  rw [List.mem_append,List.mem_append,List.mem_singleton,e]
  constructor
  ·rintro ((h | h) | h)
   ·exact .inr (.inl h)
   ·exact .inl h
   ·exact .inr (.inr h)
  ·rintro (h | h | h)
   ·exact .inl (.inr h)
   ·exact .inl (.inl h)
   ·exact .inr h
def Up (l:List Bs):Prop:=l.Pairwise fun a b=>Lib.compareBytes a b < 0
theorem up_ins {nm:Bs} {l:List Bs} (h:Up l):Up (insN nm l):=by
 unfold insN
 split
 ·exact h
 ·rename_i hne
  unfold Up at h ⊢
  have hsplit:=List.takeWhile_append_dropWhile (p:=below nm) (l:=l)
  have h0:=h
  rw [← hsplit,List.pairwise_append] at h
  obtain ⟨h1,h2,h3⟩:=h
  rw [takeN,dropN]
  have ht:∀ x ∈ l.takeWhile (below nm),Lib.compareBytes x nm < 0:=fun x hx=>by
   have:=List.all_eq_true.1 (List.all_takeWhile (l:=l) (p:=below nm)) x hx
   unfold below at this
   simpa using this
  have hd:∀ x ∈ l.dropWhile (below nm),Lib.compareBytes nm x < 0:=by
   cases hdw:l.dropWhile (below nm) with
   | nil=>intro x hx; cases hx
   | cons y r =>
    have hy:¬ below nm y = true:=by
     have:=List.head_dropWhile_not (p:=below nm) (l:=l) (by rw [hdw]; simp)
     simpa [hdw] using this
    have hyn:y ≠ nm:=fun e=>by
     apply hne
     have:(l.drop (slotN nm l))[0]? = some y:=by rw [dropN,hdw]; rfl
     rw [List.getElem?_drop,Nat.add_zero] at this
     rw [this,e]
    have hy2:Lib.compareBytes nm y < 0:=by
     unfold below at hy
     rw [decide_eq_true_eq] at hy
     have t:=cb_turn nm y
     have z:Lib.compareBytes nm y ≠ 0:=fun e=>hyn (cb_zero e).symm
     omega
    intro x hx
    rcases List.mem_cons.1 hx with rfl | hx
    ·exact hy2
    ·rw [hdw,List.pairwise_cons] at h2
     have hyx:=h2.1 x hx
     have t:=cb_tri nm y x
     have a1:=one_cb nm y
     have a2:=one_cb y x
     unfold Tri One at *
     omega
  rw [List.append_assoc,List.pairwise_append]
  refine ⟨h1,?_,fun x hx y hy=>?_⟩
  ·rw [List.singleton_append,List.pairwise_cons]
   exact ⟨hd,h2⟩
  ·rw [List.singleton_append,List.mem_cons] at hy
   rcases hy with rfl | hy
   ·exact ht x hx
   ·exact h3 x hx y hy
theorem insNs_up:∀ (l out:List Bs),Up out → Up (insNs l out)
 | [],_,h=>h
 | p :: r,out,h=>insNs_up r _ (up_ins h)
theorem insNs_mem:∀ (l out:List Bs) (x:Bs),x ∈ insNs l out ↔ x ∈ l ∨ x ∈ out
 | [],out,x=>by unfold insNs; simp
 | p :: r,out,x=>by
  unfold insNs
  rw [insNs_mem r,insN_mem,List.mem_cons]
  constructor
  ·rintro (h | h | h)
   ·exact .inl (.inr h)
   ·exact .inl (.inl h)
   ·exact .inr h
  ·rintro ((h | h) | h)
   ·exact .inr (.inl h)
   ·exact .inl h
   ·exact .inr (.inr h)
theorem up_nodup {l:List Bs} (h:Up l):l.Nodup:=h.imp fun {a b} hab e=>by
 subst e
 rw [cb_self] at hab
 omega
theorem lt_cb:∀ a b:Bs,a < b ↔ Lib.compareBytes a b < 0
 | [],[]=>by rw [cb_nn]; simp
 | [],y :: b=>by rw [cb_nc]; simp
 | x :: a,[]=>by rw [cb_cn]; simp
 | x :: a,y :: b=>by
  rw [cb_cc,List.cons_lt_cons_iff,lt_cb a b]
  rcases Nat.lt_trichotomy x.toNat y.toNat with h | h | h
  ·have e:sgn (x.toNat:Int) (y.toNat:Int) = -1:=by unfold sgn; rw [if_pos (by omega)]
   have h1:x < y:=h
   rw [e]
   simp [h1,orr]
  ·have e:sgn (x.toNat:Int) (y.toNat:Int) = 0:=by unfold sgn; rw [if_neg (by omega),if_neg (by omega)]
   have h1:x = y:=UInt8.toNat_inj.1 h
   subst h1
   rw [e]
   simp [orr]
  ·have e:sgn (x.toNat:Int) (y.toNat:Int) = 1:=by unfold sgn; rw [if_neg (by omega),if_pos (by omega)]
   have h1:¬ x < y:=fun hh=>by have:x.toNat < y.toNat:=hh; omega
   have h2:¬ x = y:=fun hh=>by rw [hh] at h; omega
   rw [e]
   simp [h1,h2,orr]
theorem le_cb (a b:Bs):a ≤ b ↔ Lib.compareBytes a b ≤ 0:=by
 rw [← List.not_lt,lt_cb]
 have:=cb_turn a b
 omega
theorem names_one {ns l:List Bs} (hn:ns.Nodup) (hm:∀ x,x ∈ ns ↔ x ∈ l):insNs l [] = rising ns:=by
 have hu:Up (insNs l []):=insNs_up l [] List.Pairwise.nil
 have hp:(insNs l []).Perm (rising ns):=by
  refine List.Perm.trans ?_ (List.mergeSort_perm ns leB).symm
  refine (List.perm_ext_iff_of_nodup (up_nodup hu) hn).2 fun x=>?_
  rw [insNs_mem,hm x]
  simp
 have tr:∀ a b c:Bs,leB a b = true → leB b c = true → leB a c = true:=fun a b c h1 h2=>by simp only [leB,decide_eq_true_eq] at *; exact List.le_trans h1 h2
 have tot:∀ a b:Bs,(leB a b || leB b a) = true:=fun a b=>by simp only [leB,Bool.or_eq_true,decide_eq_true_eq]; exact List.le_total a b
 refine List.Perm.eq_of_pairwise (le:=fun a b=>leB a b = true) (fun a b _ _ h1 h2=>?_) (hu.imp fun {a b} hab=>?_) (List.pairwise_mergeSort tr tot ns) hp
 ·simp only [leB,decide_eq_true_eq] at h1 h2
  exact List.le_antisymm h1 h2
 ·simp only [leB,decide_eq_true_eq]
  rw [le_cb]
  omega
end Ix
end Go.Proofs.YtmhpjjjjgakpiaaGreatDoor
namespace Go.Proofs.YtmhpjjjjgakpiaaGreatDoor
open Go.RowKit
set_option linter.unusedSimpArgs false
set_option linter.unusedVariables false
namespace Sa
open Ver (Bs)
open Rl (At nA)
open Rc (Pk En nEn)
open Ix (sat)
abbrev Vi:=Int × Bs × Bool × Int × Bs
/-! ### what is wrong -/
def cmet (p:Pk) (c:List At):Bool:=c.any (sat p)
def pkA (s:List En) (j:Nat):Pk:=(s.getD j nEn).pk
def cfA (s:List En) (j:Nat):Bool:=(s.getD j nEn).cfg
def metJ (s:List En) (c:List At) (j:Nat):Bool:=cfA s j && cmet (pkA s j) c
def metB (s:List En) (c:List At):Bool:=(List.range s.length).any (metJ s c)
def unm1 (s:List En) (cs:List (List At)) (nm:Bs) (pr:Bool) (i:Nat):List Vi:=if metB s (cs.getD i []) = true then [] else [(1,nm,pr,(i:Int),[])]
def unmN (s:List En) (cs:List (List At)) (nm:Bs) (pr:Bool) (k:Nat):List Vi:=(List.range k).flatMap (unm1 s cs nm pr)
def unm (s:List En) (cs:List (List At)) (nm:Bs) (pr:Bool):List Vi:=unmN s cs nm pr cs.length
def hit (s:List En) (p:Nat) (kd:Int) (a:At) (j:Nat):Bool:=!(decide (j = p) || (decide (kd = 3) && !cfA s j)) && sat (pkA s j) a
def cla1 (s:List En) (p:Nat) (kd:Int) (i:Nat) (a:At) (j:Nat):List Vi:=if hit s p kd a j = true then [(kd,(pkA s p).nm,false,(i:Int),(pkA s j).nm)] else []
def claJ (s:List En) (p:Nat) (kd:Int) (i:Nat) (a:At) (m:Nat):List Vi:=(List.range m).flatMap (cla1 s p kd i a)
def claN (s:List En) (p:Nat) (ls:List At) (kd:Int) (k:Nat):List Vi:=(List.range k).flatMap fun i=>claJ s p kd i (ls.getD i nA) s.length
def cla (s:List En) (p:Nat) (ls:List At) (kd:Int):List Vi:=claN s p ls kd ls.length
def wrA (s:List En) (p:Nat):List Vi:=unm s (pkA s p).pre (pkA s p).nm true ++ ((if cfA s p = true then unm s (pkA s p).dep (pkA s p).nm false else []) ++ (cla s p (pkA s p).con 2 ++ cla s p (pkA s p).brk 3))
def wrN (s:List En) (k:Nat):List Vi:=(List.range k).flatMap (wrA s)
def wr (s:List En):List Vi:=wrN s s.length
structure Few (s:List En):Prop where
 len:s.length ≤ 26
 pre:∀ x ∈ s,x.pk.pre.length ≤ 20
 dep:∀ x ∈ s,x.pk.dep.length ≤ 20
 con:∀ x ∈ s,x.pk.con.length + x.pk.brk.length ≤ 50
/-! ### texts are not too long -/
def LimS (s:List En):Prop:=∀ x ∈ s,x.pk.Lim
end Sa
end Go.Proofs.YtmhpjjjjgakpiaaGreatDoor
namespace Go.Proofs.YtmhpjjjjgakpiaaGreatDoor
open Go.RowKit
set_option linter.unusedSimpArgs false
set_option linter.unusedVariables false
namespace Sa
open Ver (Bs)
open Rl (At mem_getD)
open Rc (Pk nPk En mayK)
open Ix (sat against clash)
/-! ### healthy wholes -/
theorem flat_nil {α:Type} {f:Nat → List α} {k:Nat}:(List.range k).flatMap f = [] ↔ ∀ i,i < k → f i = []:=by
 rw [List.flatMap_eq_nil_iff]
 exact ⟨fun h i hi=>h i (List.mem_range.2 hi),fun h i hi=>h i (List.mem_range.1 hi)⟩
theorem unm_nil {s:List En} {cs:List (List At)} {nm:Bs} {pr:Bool}:unm s cs nm pr = [] ↔ ∀ c ∈ cs,metB s c = true:=by
 unfold unm unmN
 rw [flat_nil]
 constructor
 ·intro h c hc
  obtain ⟨i,hi,rfl⟩:=List.mem_iff_getElem.1 hc
  have:=h i hi
  unfold unm1 at this
  rw [List.getD_eq_getElem?_getD,List.getElem?_eq_getElem hi,Option.getD_some] at this
  by_cases e:metB s cs[i] = true
  ·exact e
  ·rw [if_neg e] at this; cases this
 ·intro h i hi
  unfold unm1
  rw [if_pos (h _ (mem_getD hi))]
theorem cla_nil {s:List En} {p:Nat} {ls:List At} {kd:Int}:cla s p ls kd = [] ↔ ∀ a ∈ ls,∀ j,j < s.length → hit s p kd a j = false:=by
 unfold cla claN
 rw [flat_nil]
 have one:∀ i a,claJ s p kd i a s.length = [] ↔ ∀ j,j < s.length → hit s p kd a j = false:=fun i a=>by
  unfold claJ
  rw [flat_nil]
  refine forall_congr' fun j=>forall_congr' fun _=>?_
  unfold cla1
  cases hit s p kd a j <;> simp
 constructor
 ·intro h a ha
  obtain ⟨i,hi,rfl⟩:=List.mem_iff_getElem.1 ha
  have:=h i hi
  rw [List.getD_eq_getElem?_getD,List.getElem?_eq_getElem hi,Option.getD_some] at this
  exact (one _ _).1 this
 ·intro h i hi
  exact (one _ _).2 (h _ (mem_getD hi))
theorem wr_nil {s:List En}:wr s = [] ↔ ∀ p,p < s.length → (∀ c ∈ (pkA s p).pre,metB s c = true) ∧ (cfA s p = true → ∀ c ∈ (pkA s p).dep,metB s c = true) ∧ (∀ a ∈ (pkA s p).con,∀ j,j < s.length → hit s p 2 a j = false) ∧ ∀ a ∈ (pkA s p).brk,∀ j,j < s.length → hit s p 3 a j = false:=by
 unfold wr wrN
 rw [flat_nil]
 refine forall_congr' fun p=>forall_congr' fun _=>?_
 unfold wrA
 rw [List.append_eq_nil_iff,List.append_eq_nil_iff,List.append_eq_nil_iff,unm_nil,cla_nil,cla_nil]
 by_cases h:cfA s p = true
 ·rw [if_pos h,unm_nil]; simp [h]
 ·rw [if_neg h]; simp [h]
def conf (l:List Pk):List En:=l.map fun p=>⟨p,true,false⟩
def AllC (s:List En) (l:List Pk):Prop:=s.map En.pk = l ∧ ∀ x ∈ s,x.cfg = true
theorem conf_all (l:List Pk):AllC (conf l) l:=by
 unfold conf
 refine ⟨by simp [Function.comp_def],fun x hx=>?_⟩
 obtain ⟨p,_,rfl⟩:=List.mem_map.1 hx
 rfl
theorem AllC.len {s:List En} {l:List Pk} (h:AllC s l):s.length = l.length:=by rw [← h.1,List.length_map]
theorem AllC.pk {s:List En} {l:List Pk} (h:AllC s l) {j:Nat} (hj:j < l.length):pkA s j = l.getD j nPk:=by
 have hs:j < s.length:=by rw [h.len]; exact hj
 unfold pkA
 rw [← h.1,List.getD_eq_getElem?_getD,List.getD_eq_getElem?_getD,List.getElem?_map,List.getElem?_eq_getElem hs]; rfl
theorem AllC.cf {s:List En} {l:List Pk} (h:AllC s l) {j:Nat} (hj:j < l.length):cfA s j = true:=by
 have hs:j < s.length:=by rw [h.len]; exact hj
 exact h.2 _ (mem_getD hs)
def metR (l:List Pk) (c:List At):Bool:=c.any fun a=>l.any fun p=>sat p a
theorem metR_iff {l:List Pk} {c:List At}:metR l c = true ↔ ∃ p ∈ l,cmet p c = true:=by
 unfold metR cmet
 simp only [List.any_eq_true]
 constructor
 ·rintro ⟨a,ha,p,hp,h⟩; exact ⟨p,hp,a,ha,h⟩
 ·rintro ⟨p,hp,a,ha,h⟩; exact ⟨a,ha,p,hp,h⟩
theorem metB_iff {s:List En} {c:List At}:metB s c = true ↔ ∃ x ∈ s,x.cfg = true ∧ cmet x.pk c = true:=by
 unfold metB metJ cfA pkA
 rw [List.any_eq_true]
 constructor
 ·rintro ⟨j,hj,h⟩
  rw [Bool.and_eq_true] at h
  exact ⟨_,mem_getD (List.mem_range.1 hj),h⟩
 ·rintro ⟨x,hx,h⟩
  obtain ⟨j,hj,rfl⟩:=List.mem_iff_getElem.1 hx
  refine ⟨j,List.mem_range.2 hj,?_⟩
  rw [List.getD_eq_getElem?_getD,List.getElem?_eq_getElem hj,Option.getD_some,Bool.and_eq_true]
  exact h
def done (s:List En):List Pk:=(s.filter fun x=>x.cfg).map En.pk
theorem met_done (s:List En) (c:List At):metR (done s) c = metB s c:=by
 rw [Bool.eq_iff_iff,metR_iff,metB_iff]
 unfold done
 constructor
 ·rintro ⟨p,hp,h⟩
  obtain ⟨x,hx,rfl⟩:=List.mem_map.1 hp
  obtain ⟨h1,h2⟩:=List.mem_filter.1 hx
  exact ⟨x,h1,h2,h⟩
 ·rintro ⟨x,h1,h2,h⟩
  exact ⟨x.pk,List.mem_map.2 ⟨x,List.mem_filter.2 ⟨h1,h2⟩,rfl⟩,h⟩
theorem AllC.done {s:List En} {l:List Pk} (h:AllC s l):done s = l:=by
 unfold Sa.done
 rw [List.filter_eq_self.2 h.2,h.1]
theorem AllC.met {s:List En} {l:List Pk} (h:AllC s l) (c:List At):metB s c = metR l c:=by rw [← met_done,h.done]
theorem AllC.hit {s:List En} {l:List Pk} (h:AllC s l) {p j:Nat} (hj:j < l.length) (kd:Int) (a:At):Sa.hit s p kd a j = (!decide (j = p) && sat (l.getD j nPk) a):=by
 unfold Sa.hit
 rw [h.cf hj,h.pk hj]; simp
def Peace (l:List Pk):Prop:=∀ p,p < l.length → ∀ j,j < l.length → j ≠ p → against (l.getD p nPk) (l.getD j nPk) = false
def Fed (l:List Pk):Prop:=∀ p,p < l.length → (∀ c ∈ (l.getD p nPk).pre,metR l c = true) ∧ ∀ c ∈ (l.getD p nPk).dep,metR l c = true
theorem against_no {p q:Pk}:against p q = false ↔ (∀ a ∈ p.con,sat q a = false) ∧ ∀ a ∈ p.brk,sat q a = false:=by
 unfold against
 simp [List.any_eq_false]
theorem AllC.wr_nil {s:List En} {l:List Pk} (h:AllC s l):wr s = [] ↔ Fed l ∧ Peace l:=by
 rw [Sa.wr_nil,h.len]
 constructor
 ·intro g
  refine ⟨fun p hp=>?_,fun p hp j hj hne=>?_⟩
  ·obtain ⟨g1,g2,_,_⟩:=g p hp
   rw [h.pk hp] at g1 g2
   exact ⟨fun c hc=>by rw [← h.met]; exact g1 c hc,fun c hc=>by rw [← h.met]; exact g2 (h.cf hp) c hc⟩
  ·obtain ⟨_,_,g3,g4⟩:=g p hp
   rw [h.pk hp] at g3 g4
   rw [against_no]
   refine ⟨fun a ha=>?_,fun a ha=>?_⟩
   ·have:=g3 a ha j hj
    rw [h.hit hj] at this
    simpa [hne] using this
   ·have:=g4 a ha j hj
    rw [h.hit hj] at this
    simpa [hne] using this
 ·rintro ⟨g1,g2⟩ p hp
  rw [h.pk hp]
  refine ⟨fun c hc=>by rw [h.met]; exact (g1 p hp).1 c hc,fun _ c hc=>by rw [h.met]; exact (g1 p hp).2 c hc,fun a ha j hj=>?_,fun a ha j hj=>?_⟩
  ·rw [h.hit hj]
   by_cases e:j = p
   ·simp [e]
   ·have:=(against_no.1 (g2 p hp j hj e)).1 a ha
    rw [this,Bool.and_false]
  ·rw [h.hit hj]
   by_cases e:j = p
   ·simp [e]
   ·have:=(against_no.1 (g2 p hp j hj e)).2 a ha
    rw [this,Bool.and_false]
def Whol (l:List Pk):Prop:=(∀ p ∈ l,mayK p = 0) ∧ (l.map Pk.nm).Nodup
def Hea (l:List Pk):Prop:=Whol l ∧ Fed l ∧ Peace l
def okR (l:List Pk) (i:Nat):Prop:=mayK (l.getD i nPk) = 0 ∧ (∀ j,j < i → (l.getD j nPk).nm ≠ (l.getD i nPk).nm ∧ clash (l.getD i nPk) (l.getD j nPk) = false) ∧ (∀ c ∈ (l.getD i nPk).pre,metR l c = true) ∧ ∀ c ∈ (l.getD i nPk).dep,metR l c = true
theorem getD_of {α:Type} {l:List α} {z:α} {i:Nat} (hi:i < l.length):l.getD i z = l[i]:=by
 rw [List.getD_eq_getElem?_getD,List.getElem?_eq_getElem hi]; rfl
theorem nodup_iff {l:List Pk}:(l.map Pk.nm).Nodup ↔ ∀ i,i < l.length → ∀ j,j < i → (l.getD j nPk).nm ≠ (l.getD i nPk).nm:=by
 unfold List.Nodup
 rw [List.pairwise_iff_getElem]
 constructor
 ·intro h i hi j hj
  have:=h j i (by rw [List.length_map]; omega) (by rw [List.length_map]; omega) hj
  rw [List.getElem_map,List.getElem_map] at this
  rwa [getD_of (by omega),getD_of hi]
 ·intro h i j hi hj hij
  rw [List.length_map] at hi hj
  have:=h j hj i hij
  rw [getD_of hi,getD_of hj] at this
  rwa [List.getElem_map,List.getElem_map]
theorem clash_two {p q:Pk} (h:p.nm ≠ q.nm):clash p q = false ↔ against p q = false ∧ against q p = false:=by
 unfold clash
 simp [h]
theorem hea_iff {l:List Pk}:Hea l ↔ ∀ i,i < l.length → okR l i:=by
 constructor
 ·rintro ⟨⟨h1,h2⟩,h3,h4⟩ i hi
  have h2':=nodup_iff.1 h2 i hi
  refine ⟨h1 _ (mem_getD hi),fun j hj=>⟨h2' j hj,?_⟩,h3 i hi⟩
  rw [clash_two (fun e=>h2' j hj e.symm)]
  exact ⟨h4 i hi j (by omega) (by omega),h4 j (by omega) i hi (by omega)⟩
 ·intro h
  have hn:∀ i,i < l.length → ∀ j,j < i → (l.getD j nPk).nm ≠ (l.getD i nPk).nm:=fun i hi j hj=>((h i hi).2.1 j hj).1
  refine ⟨⟨fun p hp=>?_,nodup_iff.2 hn⟩,fun p hp=>(h p hp).2.2,fun p hp j hj hne=>?_⟩
  ·obtain ⟨i,hi,rfl⟩:=List.mem_iff_getElem.1 hp
   have:=(h i hi).1
   rwa [getD_of hi] at this
  ·rcases Nat.lt_or_gt_of_ne hne with hlt | hgt
   ·exact ((clash_two fun e=>hn p hp j hlt e.symm).1 ((h p hp).2.1 j hlt).2).1
   ·exact ((clash_two fun e=>hn j hj p hgt e.symm).1 ((h j hj).2.1 p hgt).2).2
end Sa
end Go.Proofs.YtmhpjjjjgakpiaaGreatDoor

/-
A row of the call's own of things whose lists lie in memory of their own: what appends leave of it. The mathematics of an index: who meets an atom, which clash, in which order packages stand, where they stand by their names.
-/
import Derived.Test.YtmhpjjjjgakpiaaGreatDoorCTextTexts
import Derived.Test.YtmhpjjjjgakpiaaGreatDoorCRecMay
import Derived.Test.YtmhpjjjjgakpiaaGreatDoorCVerRefParse
import Derived.Deep.WholeRow
import Derived.Deep.RegionHeld3
import Derived.BigFrame
import Derived.Test.YtmhpjjjjgakpiaaGreatDoorCVerParse2
import Derived.Laws.Concat
import Derived.StillTailTactics
import Derived.Lib.SlBytesConst
import Derived.Deep.CutRange
import Derived.Test.YtmhpjjjjgakpiaaGreatDoorCRecAll2
namespace Go.Proofs.YtmhpjjjjgakpiaaGreatDoor
open Go.RowKit
set_option linter.unusedSimpArgs false
set_option linter.unusedVariables false
namespace Rc
open Rl (Slc)
def In (b m:Nat) (w:World) (Q:World → Prop):Prop:=∀ u,Blk.Chg (fun k=>k < b ∨ m ≤ k) w u → Q u
theorem In.on {b m:Nat} {w w':World} {Q:World → Prop} (h:In b m w Q) (hc:Blk.Chg (fun k=>k < b ∨ m ≤ k) w w'):In b m w' Q:=fun u hu=>h u (hc.trans hu)
theorem In.here {b m:Nat} {w:World} {Q:World → Prop} (h:In b m w Q):Q w:=h w (Blk.Chg.refl _ _)
theorem flat_row (m:Nat):∀ (l:List (List Value)) (i j:Nat) (x:List Value),(∀ r ∈ l,r.length = m) → l[i]? = some x → j < m → l.flatten[m * i + j]? = x[j]?
 | [],i,j,x,_,h,_=>by simp at h
 | y :: l,0,j,x,hf,h,hj=>by
  simp at h
  subst h
  rw [List.flatten_cons,Nat.mul_zero,Nat.zero_add,List.getElem?_append_left (by rw [hf _ List.mem_cons_self]; exact hj)]
 | y :: l,i + 1,j,x,hf,h,hj=>by
  simp at h
  have hy:=hf y List.mem_cons_self
  rw [List.flatten_cons,List.getElem?_append_right (by rw [hy,Nat.mul_add]; omega),hy,show m * (i + 1) + j - m = m * i + j by rw [Nat.mul_add]; omega]
  exact flat_row m l i j x (fun r hr=>hf r (List.mem_cons_of_mem _ hr)) h hj
structure It {β:Type} (C:World → List Value → β → Prop) (sz L:Nat) (w:World) (v:Value) (p:List Value × β):Prop where
 len:p.1.length = sz
 has:∃ b m,L ≤ b ∧ In b m w (fun u=>C u p.1 p.2) ∧ m ≤ w.heap.size ∧ ∀ g,v.ownBlock = some g → g < b ∨ m ≤ g
def Acc {β:Type} (C:World → List Value → β → Prop) (sz:Nat) (e:TypeId) (B L:Nat) (w:World) (v:Value) (xs:List β):Prop :=
 ∃ l:List (List Value × β),l.map (·.2) = xs ∧ w.ownsRow B e sz v xs.length (l.map (·.1)).flatten ∧ ∀ p ∈ l,It C sz L w v p
theorem Acc.nil {β:Type} (C:World → List Value → β → Prop) (sz:Nat) (e:TypeId) (B L:Nat) (w:World):Acc C sz e B L w (.slice none 0 0) [] :=
 ⟨[],rfl,World.ownsRow_nil w B e sz,fun p hp=>by cases hp⟩
theorem Acc.on {β:Type} {C:World → List Value → β → Prop} {sz:Nat} {e:TypeId} {B L:Nat} {w w':World} {v:Value} {xs:List β} (h:Acc C sz e B L w v xs) (hb:Below w.heap.size w w'):Acc C sz e B L w' v xs:=by
 obtain ⟨l,h1,h2,h3⟩:=h
 refine ⟨l,h1,Own.owns_below h2 hb,fun p hp=>⟨(h3 p hp).len,?_⟩⟩
 obtain ⟨b,m,hB,hi,hm,hg⟩:=(h3 p hp).has
 exact ⟨b,m,hB,hi.on (Blk.Chg.ofBelow' hb),Nat.le_trans hm hb.size,hg⟩
theorem Acc.own {β:Type} {C:World → List Value → β → Prop} {sz:Nat} {e:TypeId} {B L:Nat} {w:World} {v:Value} {xs:List β} (h:Acc C sz e B L w v xs):∃ cs,w.ownsRow B e sz v xs.length cs:=by
 obtain ⟨l,_,h2,_⟩:=h
 exact ⟨_,h2⟩
theorem Acc.shape {β:Type} {C:World → List Value → β → Prop} {sz:Nat} {e:TypeId} {B L:Nat} {w:World} {v:Value} {xs:List β} (h:Acc C sz e B L w v xs):∃ a cap,v = .slice a xs.length cap:=by
 obtain ⟨cs,h2⟩:=h.own
 obtain ⟨a,cap,e1,_⟩:=Rl.own_shape h2
 exact ⟨a,cap,e1⟩
theorem Acc.more {β:Type} {C:World → List Value → β → Prop} {sz:Nat} {e:TypeId} {B L:Nat} {w w':World} {v v':Value} {xs:List β} (h:Acc C sz e B L w v xs) {cs:List Value} {x:β} {b m:Nat} (hlen:cs.length = sz) (hx:In b m w (fun u=>C u cs x)) (hm:m ≤ w.heap.size) (hb:∀ g,v.ownBlock = some g → g < b ∨ m ≤ g) (hBb:L ≤ b)
  (hown:∀ ys,w.ownsRow B e sz v xs.length ys → w'.ownsRow B e sz v' (xs.length + 1) (ys ++ cs)) (hg:w.grownBy w' v.ownBlock) (hw:∀ k,v'.ownBlock = some k → v.ownBlock = some k ∨ w.heap.size ≤ k):Acc C sz e B L w' v' (xs ++ [x]):=by
 obtain ⟨l,h1,h2,h3⟩:=h
 refine ⟨l ++ [(cs,x)],by simp [h1],?_,fun p hp=>?_⟩
 ·have:=hown _ h2
  simpa using this
 ·have key:∀ (q:List Value × β) (b m:Nat),L ≤ b → In b m w (fun u=>C u q.1 q.2) → m ≤ w.heap.size → (∀ g,v.ownBlock = some g → g < b ∨ m ≤ g) → ∃ b m,L ≤ b ∧ In b m w' (fun u=>C u q.1 q.2) ∧ m ≤ w'.heap.size ∧ ∀ g,v'.ownBlock = some g → g < b ∨ m ≤ g:=fun q b m hB hi hm hb=>by
   refine ⟨b,m,hB,hi.on ((Blk.Chg.refl _ w).grown hg fun k hk _=>hb k hk),Nat.le_trans hm hg.size,fun g hgv=>?_⟩
   rcases hw g hgv with h4 | h4
   ·exact hb g h4
   ·exact .inr (by omega)
  rcases List.mem_append.1 hp with hp | hp
  ·obtain ⟨b,m,hB,hi,hm,hg'⟩:=(h3 p hp).has
   exact ⟨(h3 p hp).len,key p b m hB hi hm hg'⟩
  ·rw [List.mem_singleton.1 hp]
   exact ⟨hlen,key (cs,x) b m hBb hx hm hb⟩
theorem Acc.slc {β:Type} {C:World → List Value → β → Prop} {sz:Nat} {e:TypeId} {B L:Nat} {w:World} {v:Value} {xs:List β} (z:β) (h:Acc C sz e B L w v xs) (hn:xs.length ≤ 1152921504606846976):Slc sz z (CAt C) w v xs:=by
 obtain ⟨l,h1,h2,h3⟩:=h
 obtain ⟨a,cap,rfl,hc⟩:=Rl.own_shape h2
 refine ⟨hn,a,cap,rfl,hc,fun h0=>?_⟩
 obtain ⟨g,cap',e1,_⟩:=Rl.own_slice h2 h0
 simp only [Value.slice.injEq,true_and] at e1
 obtain ⟨rfl,rfl⟩:=e1
 refine ⟨g,0,rfl,fun i hi=>?_⟩
 have hl:l.length = xs.length:=by rw [← h1,List.length_map]
 have hil:i < l.length:=by omega
 obtain ⟨p,hp⟩:∃ p,l[i]? = some p:=⟨l[i],List.getElem?_eq_getElem hil⟩
 have hmem:p ∈ l:=List.mem_iff_getElem?.2 ⟨i,hp⟩
 have hx:xs.getD i z = p.2:=by
  rw [List.getD_eq_getElem?_getD,← h1,List.getElem?_map,hp]; rfl
 obtain ⟨b,m,_,hi',_,_⟩:=(h3 p hmem).has
 refine ⟨p.1,by rw [hx]; exact hi'.here,fun j u hj=>?_⟩
 have hlp:=(h3 p hmem).len
 have hjs:j < sz:=by rw [← hlp]; exact (List.getElem?_eq_some_iff.1 hj).1
 rw [Nat.zero_add]
 refine Rl.own_cell h2 ?_
 rw [flat_row sz (l.map (·.1)) i j p.1 (fun r hr=>by
  obtain ⟨q,hq,rfl⟩:=List.mem_map.1 hr
  exact (h3 q hq).len) (by rw [List.getElem?_map,hp]; rfl) hjs]
 exact hj
theorem infoPk:(Tryz.prog.info? 40).map (fun i=>(i.zero,i.size,i.bytes)) = some (some (.agg #[.string ByteArray.empty,.string ByteArray.empty,.slice none 0 0,.slice none 0 0,.slice none 0 0,.slice none 0 0,.slice none 0 0,.slice none 0 0,.bool false]),9,184):=by kernel_rfl
end Rc
end Go.Proofs.YtmhpjjjjgakpiaaGreatDoor
namespace Go.Proofs.YtmhpjjjjgakpiaaGreatDoor
open Go.RowKit
set_option linter.unusedSimpArgs false
set_option linter.unusedVariables false
namespace Ix
open Ver (cmpV holdsV orr)
open Rl (At Pv may)
open Rc (Pk)
def pmeets (a:At) (v:Pv):Bool:=decide (v.1 = a.1) && (decide (a.2.1 = 0) || holdsV a.2.1 v.2 a.2.2)
def sat (p:Pk) (a:At):Bool:=may a && ((decide (p.nm = a.1) && holdsV a.2.1 p.vs a.2.2) || p.prv.any (pmeets a))
def LimAt (a:At):Prop:=a.1.length ≤ 140737488351232 ∧ a.2.2.length ≤ 140737488351232
def LimPv (v:Pv):Prop:=v.1.length ≤ 140737488351232 ∧ v.2.length ≤ 140737488351232
def cmpP (p q:Pk):Int:=orr (Lib.compareBytes p.nm q.nm) (cmpV q.vs p.vs)
end Ix
end Go.Proofs.YtmhpjjjjgakpiaaGreatDoor

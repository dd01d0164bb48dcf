/-
Which clauses, and which packages may be. Regions that draw their order: a load of one cell may be taken first where every world of the class has that cell; and what never looks at the world. May: a whole package: may it be? Rows of bytes: what a slice of bytes reads as; rows of the call's own; what an append of them leaves. MayAll, MayEntries: packages, entries: may they be? A row of the call's own of things whose lists lie in memory of their own: what appends leave of it. The mathematics of an index: who meets an atom, which clash, in which order packages stand, where they stand by their names.
-/
import Derived.Test.YtgpcilepkmckeaaGreatDoorERecMem
import Derived.Test.YtgpcilepkmckeaaGreatDoorEVerRefParse
import Derived.Test.YtgpcilepkmckeaaGreatDoorEVerSignsK
import Derived.Test.YtgpcilepkmckeaaGreatDoorEReg
import Derived.OrdersHeld
import Derived.Deep.MidRow
import Derived.WalkKit
import Derived.Test.YtgpcilepkmckeaaGreatDoorEOwn
import Derived.Test.YtgpcilepkmckeaaGreatDoorProg
import Derived.IntWalk
import Derived.OpenShut
import Derived.Test.YtgpcilepkmckeaaGreatDoorERelUni
import Derived.Test.YtgpcilepkmckeaaGreatDoorEVerParse2
import Derived.Test.YtgpcilepkmckeaaGreatDoorShelf
import Derived.Test.YtgpcilepkmckeaaGreatDoorERelDef
import Derived.Test.YtgpcilepkmckeaaGreatDoorERelOwn
import Derived.Laws.Concat
import Derived.Lib.AppendIntMem
import Derived.Deep.QuietTactic
import Derived.StillTailTactics
import Derived.Lib.SlBytesConst
import Derived.Deep.RegionHeld3
import Derived.BigQuiet
import Derived.Deep.WholeRow
import Derived.BigFrame
import Derived.Deep.CutRange
namespace Go.Proofs.YtgpcilepkmckeaaGreatDoor
open Go.RowKit
set_option linter.unusedSimpArgs false
set_option linter.unusedVariables false
namespace Rc
open Ver (Bs S S_size S_li)
open Rl (At Ats Clss LimA LimC Vars nA mem_getD may isV aV)
theorem any_at {α:Type} {z:α} {l:List α} {p:α → Bool} {j:Nat} (hj:j < l.length) (h:p (l.getD j z) = true):l.any p = true:=List.any_eq_true.2 ⟨_,mem_getD hj,h⟩
theorem any_no {α:Type} {z:α} {l:List α} {p:α → Bool} (h:∀ j,j < l.length → p (l.getD j z) = false):l.any p = false:=by
 cases hq:l.any p with
 | false=>rfl
 | true =>
  obtain ⟨x,hx,hp⟩:=List.any_eq_true.1 hq
  obtain ⟨i,hi,rfl⟩:=List.mem_iff_getElem.1 hx
  have:=h i hi
  rw [List.getD_eq_getElem?_getD,List.getElem?_eq_getElem hi] at this
  simp only [Option.getD_some] at this
  rw [this] at hp
  cases hp
end Rc
end Go.Proofs.YtgpcilepkmckeaaGreatDoor
namespace Go.Proofs.YtgpcilepkmckeaaGreatDoor
open Go.RowKit
namespace Held
theorem run_load_one {P:Program} {w:World} {b o:Nat} {v:Value} {ty:TypeId} {d:TypeDesc} (hc:w.cell? ⟨b,o,none⟩ = some v) (hu:P.underlying ty = some d) (hd:d.isRow = false):(Instr.loadAt ty (.pointer (some ⟨b,o,none⟩))).run P w = .ok v w:=by
 have hagg:(isAgg ty).run P w = .ok false w:=by
  unfold isAgg
  rw [Sem.run_bind,run_underlying hu w]
  cases d <;> simp_all
 simp only [Instr.loadAt,Instr.sureAddr,Sem.run_bind,Sem.run_pure,Result.andThen_ok,loadVar,hagg]
 simp [hc]
theorem load1 {P:Program} {ops:Array Oper} {S:World → Prop} {op:Oper} {a:Act} (hw:Region.wanted op (yielded ops a.tmps) = true) (ty:TypeId) (x:Operand) (ho:op.op = .load ty x)
  (b o:Nat) (hx:a.eval x = .pointer (some ⟨b,o,none⟩)) (v:Value) (d:TypeDesc) (hS:∀ w,S w → w.cell? ⟨b,o,none⟩ = some v)
  (hu:P.underlying ty = some d) (hd:d.isRow = false):YieldsIf P ops S op v a :=
 .inl ⟨hw,fun w hw'=>by
  unfold execOp
  simp only [ho,hx]
  rw [Sem.run_bind,run_load_one (hS w hw') hu hd]
  rfl⟩
theorem run_index_one {P:Program} {T e:TypeId} {n:Nat} {d:TypeDesc} (hu:P.underlying T = some (.array n e)) (he:P.underlying e = some d) (hd:d.isRow = false) (hsz:(P.info? e).map (·.size) = some 1) {cs:Array Value} {j:Nat} (hj:j < n) {v:Value} (hv:cs[j]? = some v) (w:World) :
  (Instr.index T (.agg cs) (.int .i64 j)).run P w = .ok v w:=by
 have hs:∀ w,(sizeOf e).run P w = .ok 1 w:=fun w=>by
  cases hq:P.info? e with
  | none=>simp [hq] at hsz
  | some i =>
   have:i.size = 1:=by simpa [hq] using hsz
   simp [sizeOf,typeInfo,hq,this]
 have hj':(0:Int) ≤ j ∧ (j:Int) < (n:Nat):=by omega
 have ha:∀ w,(isAgg e).run P w = .ok false w:=fun w=>by
  unfold isAgg
  simp only [Sem.run_bind,run_underlying he,Result.andThen_ok]
  cases d <;> simp_all
 simp only [Instr.index,asIntOf,Sem.run_bind,Sem.run_pure,Result.andThen_ok,run_underlying hu,hj',and_self,if_true,hs,Int.toNat_natCast,Go.part,ha]
 simp [hv]
end Held
end Go.Proofs.YtgpcilepkmckeaaGreatDoor
namespace Go.Proofs.YtgpcilepkmckeaaGreatDoor
open Go.RowKit
set_option linter.unusedSimpArgs false
set_option linter.unusedVariables false
namespace Rc
open Ver (S)
open Rl (Vars may nmB isV)
def PkV (w:World) (v:Value) (p:Pk):Prop:=∃ u1 u2 u3 u4 u5 u6,v = .agg #[.string (S p.nm),.string (S p.vs),u1,u2,u3,u4,u5,u6,.bool p.ess] ∧ Has w p u1 u2 u3 u4 u5 u6
theorem PkV.below {w w':World} {v:Value} {p:Pk} (h:PkV w v p) (hb:Below w.heap.size w w'):PkV w' v p:=by
 obtain ⟨u1,u2,u3,u4,u5,u6,e,h1⟩:=h
 exact ⟨u1,u2,u3,u4,u5,u6,e,h1.below hb⟩
end Rc
end Go.Proofs.YtgpcilepkmckeaaGreatDoor
namespace Go.Proofs.YtgpcilepkmckeaaGreatDoor
open Go.RowKit
set_option linter.unusedVariables false

def bcells (zs:List Int):List Value:=zs.map (Value.int .u8)
@[simp] theorem bcells_length (zs:List Int):(bcells zs).length = zs.length:=by simp [bcells]
end Go.Proofs.YtgpcilepkmckeaaGreatDoor
namespace Go.Proofs.YtgpcilepkmckeaaGreatDoor
open Go.RowKit
set_option linter.unusedSimpArgs false
set_option linter.unusedVariables false
namespace Rc
open Ver (S)
open Rl (Slc may)
def PkB (w:World) (g:Nat) (x:Pk):Prop:=∃ a1 n1 c1 a2 n2 c2 a3 n3 c3 a4 n4 c4 a5 n5 c5 a6 n6 c6,Blk.Is w g 40 #[.string (S x.nm),.string (S x.vs),.slice a1 n1 c1,.slice a2 n2 c2,.slice a3 n3 c3,.slice a4 n4 c4,.slice a5 n5 c5,.slice a6 n6 c6,.bool x.ess] ∧ Has w x (.slice a1 n1 c1) (.slice a2 n2 c2) (.slice a3 n3 c3) (.slice a4 n4 c4) (.slice a5 n5 c5) (.slice a6 n6 c6)
theorem PkB.below {w w':World} {g:Nat} {x:Pk} (h:PkB w g x) (hb:Below w.heap.size w w'):PkB w' g x:=by
 obtain ⟨a1,n1,c1,a2,n2,c2,a3,n3,c3,a4,n4,c4,a5,n5,c5,a6,n6,c6,h1,h2⟩:=h
 exact ⟨a1,n1,c1,a2,n2,c2,a3,n3,c3,a4,n4,c4,a5,n5,c5,a6,n6,c6,Rl.is_on h1 hb,h2.below hb⟩
end Rc
end Go.Proofs.YtgpcilepkmckeaaGreatDoor
namespace Go.Proofs.YtgpcilepkmckeaaGreatDoor
open Go.RowKit
set_option linter.unusedSimpArgs false
set_option linter.unusedVariables false
namespace Rc
open Rl (Slc)
def In (b m:Nat) (w:World) (Q:World → Prop):Prop:=∀ u,Blk.Chg (fun k=>k < b ∨ m ≤ k) w u → Q u
theorem In.on {b m:Nat} {w w':World} {Q:World → Prop} (h:In b m w Q) (hc:Blk.Chg (fun k=>k < b ∨ m ≤ k) w w'):In b m w' Q:=fun u hu=>h u (hc.trans hu)
theorem In.here {b m:Nat} {w:World} {Q:World → Prop} (h:In b m w Q):Q w:=h w (Blk.Chg.refl _ _)
theorem flat_row (m:Nat):∀ (l:List (List Value)) (i j:Nat) (x:List Value),(∀ r ∈ l,r.length = m) → l[i]? = some x → j < m → l.flatten[m * i + j]? = x[j]?
 | [],i,j,x,_,h,_=>by simp at h
 | y :: l,0,j,x,hf,h,hj=>by
  simp at h
  subst h
  rw [List.flatten_cons,Nat.mul_zero,Nat.zero_add,List.getElem?_append_left (by rw [hf _ List.mem_cons_self]; exact hj)]
 | y :: l,i + 1,j,x,hf,h,hj=>by
  simp at h
  have hy:=hf y List.mem_cons_self
  rw [List.flatten_cons,List.getElem?_append_right (by rw [hy,Nat.mul_add]; omega),hy,show m * (i + 1) + j - m = m * i + j by rw [Nat.mul_add]; omega]
  exact flat_row m l i j x (fun r hr=>hf r (List.mem_cons_of_mem _ hr)) h hj
structure It {β:Type} (C:World → List Value → β → Prop) (sz L:Nat) (w:World) (v:Value) (p:List Value × β):Prop where
 len:p.1.length = sz
 has:∃ b m,L ≤ b ∧ In b m w (fun u=>C u p.1 p.2) ∧ m ≤ w.heap.size ∧ ∀ g,v.ownBlock = some g → g < b ∨ m ≤ g
def Acc {β:Type} (C:World → List Value → β → Prop) (sz:Nat) (e:TypeId) (B L:Nat) (w:World) (v:Value) (xs:List β):Prop :=
 ∃ l:List (List Value × β),l.map (·.2) = xs ∧ w.ownsRow B e sz v xs.length (l.map (·.1)).flatten ∧ ∀ p ∈ l,It C sz L w v p
theorem Acc.nil {β:Type} (C:World → List Value → β → Prop) (sz:Nat) (e:TypeId) (B L:Nat) (w:World):Acc C sz e B L w (.slice none 0 0) [] :=
 ⟨[],rfl,World.ownsRow_nil w B e sz,fun p hp=>by cases hp⟩
theorem Acc.on {β:Type} {C:World → List Value → β → Prop} {sz:Nat} {e:TypeId} {B L:Nat} {w w':World} {v:Value} {xs:List β} (h:Acc C sz e B L w v xs) (hb:Below w.heap.size w w'):Acc C sz e B L w' v xs:=by
 obtain ⟨l,h1,h2,h3⟩:=h
 refine ⟨l,h1,Own.owns_below h2 hb,fun p hp=>⟨(h3 p hp).len,?_⟩⟩
 obtain ⟨b,m,hB,hi,hm,hg⟩:=(h3 p hp).has
 exact ⟨b,m,hB,hi.on (Blk.Chg.ofBelow' hb),Nat.le_trans hm hb.size,hg⟩
theorem Acc.own {β:Type} {C:World → List Value → β → Prop} {sz:Nat} {e:TypeId} {B L:Nat} {w:World} {v:Value} {xs:List β} (h:Acc C sz e B L w v xs):∃ cs,w.ownsRow B e sz v xs.length cs:=by
 obtain ⟨l,_,h2,_⟩:=h
 exact ⟨_,h2⟩
theorem Acc.shape {β:Type} {C:World → List Value → β → Prop} {sz:Nat} {e:TypeId} {B L:Nat} {w:World} {v:Value} {xs:List β} (h:Acc C sz e B L w v xs):∃ a cap,v = .slice a xs.length cap:=by
 obtain ⟨cs,h2⟩:=h.own
 obtain ⟨a,cap,e1,_⟩:=Rl.own_shape h2
 exact ⟨a,cap,e1⟩
theorem Acc.more {β:Type} {C:World → List Value → β → Prop} {sz:Nat} {e:TypeId} {B L:Nat} {w w':World} {v v':Value} {xs:List β} (h:Acc C sz e B L w v xs) {cs:List Value} {x:β} {b m:Nat} (hlen:cs.length = sz) (hx:In b m w (fun u=>C u cs x)) (hm:m ≤ w.heap.size) (hb:∀ g,v.ownBlock = some g → g < b ∨ m ≤ g) (hBb:L ≤ b)
  (hown:∀ ys,w.ownsRow B e sz v xs.length ys → w'.ownsRow B e sz v' (xs.length + 1) (ys ++ cs)) (hg:w.grownBy w' v.ownBlock) (hw:∀ k,v'.ownBlock = some k → v.ownBlock = some k ∨ w.heap.size ≤ k):Acc C sz e B L w' v' (xs ++ [x]):=by
 obtain ⟨l,h1,h2,h3⟩:=h
 refine ⟨l ++ [(cs,x)],by simp [h1],?_,fun p hp=>?_⟩
 ·have:=hown _ h2
  simpa using this
 ·have key:∀ (q:List Value × β) (b m:Nat),L ≤ b → In b m w (fun u=>C u q.1 q.2) → m ≤ w.heap.size → (∀ g,v.ownBlock = some g → g < b ∨ m ≤ g) → ∃ b m,L ≤ b ∧ In b m w' (fun u=>C u q.1 q.2) ∧ m ≤ w'.heap.size ∧ ∀ g,v'.ownBlock = some g → g < b ∨ m ≤ g:=fun q b m hB hi hm hb=>by
   refine ⟨b,m,hB,hi.on ((Blk.Chg.refl _ w).grown hg fun k hk _=>hb k hk),Nat.le_trans hm hg.size,fun g hgv=>?_⟩
   rcases hw g hgv with h4 | h4
   ·exact hb g h4
   ·exact .inr (by omega)
  rcases List.mem_append.1 hp with hp | hp
  ·obtain ⟨b,m,hB,hi,hm,hg'⟩:=(h3 p hp).has
   exact ⟨(h3 p hp).len,key p b m hB hi hm hg'⟩
  ·rw [List.mem_singleton.1 hp]
   exact ⟨hlen,key (cs,x) b m hBb hx hm hb⟩
theorem Acc.slc {β:Type} {C:World → List Value → β → Prop} {sz:Nat} {e:TypeId} {B L:Nat} {w:World} {v:Value} {xs:List β} (z:β) (h:Acc C sz e B L w v xs) (hn:xs.length ≤ 1152921504606846976):Slc sz z (CAt C) w v xs:=by
 obtain ⟨l,h1,h2,h3⟩:=h
 obtain ⟨a,cap,rfl,hc⟩:=Rl.own_shape h2
 refine ⟨hn,a,cap,rfl,hc,fun h0=>?_⟩
 obtain ⟨g,cap',e1,_⟩:=Rl.own_slice h2 h0
 simp only [Value.slice.injEq,true_and] at e1
 obtain ⟨rfl,rfl⟩:=e1
 refine ⟨g,0,rfl,fun i hi=>?_⟩
 have hl:l.length = xs.length:=by rw [← h1,List.length_map]
 have hil:i < l.length:=by omega
 obtain ⟨p,hp⟩:∃ p,l[i]? = some p:=⟨l[i],List.getElem?_eq_getElem hil⟩
 have hmem:p ∈ l:=List.mem_iff_getElem?.2 ⟨i,hp⟩
 have hx:xs.getD i z = p.2:=by
  rw [List.getD_eq_getElem?_getD,← h1,List.getElem?_map,hp]; rfl
 obtain ⟨b,m,_,hi',_,_⟩:=(h3 p hmem).has
 refine ⟨p.1,by rw [hx]; exact hi'.here,fun j u hj=>?_⟩
 have hlp:=(h3 p hmem).len
 have hjs:j < sz:=by rw [← hlp]; exact (List.getElem?_eq_some_iff.1 hj).1
 rw [Nat.zero_add]
 refine Rl.own_cell h2 ?_
 rw [flat_row sz (l.map (·.1)) i j p.1 (fun r hr=>by
  obtain ⟨q,hq,rfl⟩:=List.mem_map.1 hr
  exact (h3 q hq).len) (by rw [List.getElem?_map,hp]; rfl) hjs]
 exact hj
theorem infoPk:(Tryz.prog.info? 40).map (fun i=>(i.zero,i.size,i.bytes)) = some (some (.agg #[.string ByteArray.empty,.string ByteArray.empty,.slice none 0 0,.slice none 0 0,.slice none 0 0,.slice none 0 0,.slice none 0 0,.slice none 0 0,.bool false]),9,184):=by kernel_rfl
theorem infoEn:(Tryz.prog.info? 45).map (fun i=>(i.zero,i.size,i.bytes)) = some (some (.agg #[.string ByteArray.empty,.string ByteArray.empty,.slice none 0 0,.slice none 0 0,.slice none 0 0,.slice none 0 0,.slice none 0 0,.slice none 0 0,.bool false,.bool false,.bool false]),11,192):=by kernel_rfl
end Rc
end Go.Proofs.YtgpcilepkmckeaaGreatDoor
namespace Go.Proofs.YtgpcilepkmckeaaGreatDoor
open Go.RowKit
set_option linter.unusedSimpArgs false
set_option linter.unusedVariables false
namespace Ix
open Ver (holdsV)
open Rl (At Pv may)
open Rc (Pk)
def pmeets (a:At) (v:Pv):Bool:=decide (v.1 = a.1) && (decide (a.2.1 = 0) || holdsV a.2.1 v.2 a.2.2)
def sat (p:Pk) (a:At):Bool:=may a && ((decide (p.nm = a.1) && holdsV a.2.1 p.vs a.2.2) || p.prv.any (pmeets a))
def LimAt (a:At):Prop:=a.1.length ≤ 140737488351232 ∧ a.2.2.length ≤ 140737488351232
def LimPv (v:Pv):Prop:=v.1.length ≤ 140737488351232 ∧ v.2.length ≤ 140737488351232
end Ix
end Go.Proofs.YtgpcilepkmckeaaGreatDoor

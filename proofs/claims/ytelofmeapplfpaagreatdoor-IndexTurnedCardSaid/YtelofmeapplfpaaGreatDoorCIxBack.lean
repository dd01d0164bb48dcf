/-
The packages that every program must know: in memory, in order. Slices of packages that a law writes out. Packages, the last first: a row of the call's own of packages whose lists came in.
-/
import Derived.Test.YtelofmeapplfpaaGreatDoorCIxUniq
import Derived.Test.YtelofmeapplfpaaGreatDoorCIxMeets
namespace Go.Proofs.YtelofmeapplfpaaGreatDoor
open Go.RowKit
set_option linter.unusedSimpArgs false
set_option linter.unusedVariables false
namespace Ix
open Ver (Bs S)
open Rl (At Pv Slc Pvs Ats Clss)
open Rc (Pk nPk mayAll Pks PkC CAt Has)
def aw1:Pk:=⟨[97,97],[49],[],[],[],[],[],[],false⟩
def aw2:Pk:=⟨[98,98],[49],[],[],[],[],[],[([97,97],[51])],false⟩
def aw3:Pk:=⟨[97,97],[50],[],[],[],[],[],[],false⟩
def awA:At:=([97,97],4,[50])
theorem aw_may:mayAll [aw1,aw2,aw3] = 0:=by decide +kernel
theorem aw_sorts:Sorts [aw1,aw2,aw3] [aw3,aw1,aw2]:=by
 refine ⟨(List.perm_append_comm (l₁:=[aw3]) (l₂:=[aw1,aw2])),fun i j hij hj=>?_⟩
 have hj3:j < 3:=hj
 rcases i with _ | _ | i
 ·rcases j with _ | _ | _ | j
  ·omega
  ·decide +kernel
  ·decide +kernel
  ·omega
 ·rcases j with _ | _ | _ | j
  ·omega
  ·omega
  ·decide +kernel
  ·omega
 ·omega
theorem aw_one {xs:List Pk} (h:Sorts [aw1,aw2,aw3] xs):xs = [aw3,aw1,aw2]:=sorts_one (mayAll_of aw_may) (List.Perm.refl _) h aw_sorts
theorem aw_mt:mt [aw3,aw1,aw2] awA = [0,2]:=by decide +kernel
theorem aw_lim:∀ x ∈ [aw1,aw2,aw3],x.Lim:=by
 intro x hx
 simp only [List.mem_cons,List.not_mem_nil,or_false] at hx
 rcases hx with rfl | rfl | rfl
 all_goals
  refine ⟨by decide,by decide,?_,?_,?_,?_,?_,?_⟩
  all_goals
   intro y hy
   first
    | (cases hy; done)
    | (simp only [aw2,List.mem_singleton] at hy; subst hy; exact ⟨by decide,by decide⟩)
theorem slc_nil {α:Type} (sz:Nat) (z:α) (P:World → Nat → Nat → α → Prop) (w:World):Slc sz z P w (.slice none 0 0) []:=⟨by simp,none,0,rfl,by simp,fun h=>absurd h (by simp)⟩
def awC1:List Value:=[.string (S [97,97]),.string (S [49]),.slice none 0 0,.slice none 0 0,.slice none 0 0,.slice none 0 0,.slice none 0 0,.slice none 0 0,.bool false]
def awC2 (b:Nat):List Value:=[.string (S [98,98]),.string (S [49]),.slice none 0 0,.slice none 0 0,.slice none 0 0,.slice none 0 0,.slice none 0 0,.slice (some ⟨b,0,none⟩) 1 1,.bool false]
def awC3:List Value:=[.string (S [97,97]),.string (S [50]),.slice none 0 0,.slice none 0 0,.slice none 0 0,.slice none 0 0,.slice none 0 0,.slice none 0 0,.bool false]
def awR (b:Nat):Array Value:=(awC1 ++ awC2 b ++ awC3).toArray
theorem at_of {w:World} {b:Nat} {T:TypeId} {cs:Array Value} (h:Blk.Is w b T cs) {o:Nat} {xs:List Value} (hx:∀ j,j < xs.length → cs[o + j]? = xs[j]?):∀ j u,xs[j]? = some u → w.cell? ⟨b,o + j,none⟩ = some u:=fun j u hj =>
 h.at ((hx j (List.getElem?_eq_some_iff.1 hj).1).trans hj)
theorem aw_row (w:World):∃ W1 W,w.alloc (.cells #[.string (S [97,97]),.string (S [51])] 63) = W1 ∧ W1.alloc (.cells (awR w.heap.size) 26) = W ∧ W1.heap.size = w.heap.size + 1 ∧ Below w.heap.size w W ∧ Pks W (.slice (some ⟨w.heap.size + 1,0,none⟩) 3 3) [aw1,aw2,aw3]:=by
 have h1:(w.alloc (.cells #[.string (S [97,97]),.string (S [51])] 63)).heap.size = w.heap.size + 1:=by simp
 have b1:=(Below.refl w.heap.size w).alloc (Nat.le_refl _) (.cells #[.string (S [97,97]),.string (S [51])] 63)
 have b2:=b1.alloc b1.size (.cells (awR w.heap.size) 26)
 have i1:=Blk.Is.new w 63 #[.string (S [97,97]),.string (S [51])]
 have i1':=i1.alloc (.cells (awR w.heap.size) 26)
 have i2:=Blk.Is.new (w.alloc (.cells #[.string (S [97,97]),.string (S [51])] 63)) 26 (awR w.heap.size)
 rw [h1] at i2
 refine ⟨_,_,rfl,rfl,h1,b2,by decide,some ⟨w.heap.size + 1,0,none⟩,3,rfl,by decide,fun _=>⟨w.heap.size + 1,0,rfl,fun i hi=>?_⟩⟩
 have hi3:i < 3:=hi
 have nc:∀ W,Clss W (.slice none 0 0) []:=fun W=>slc_nil _ _ _ _
 have na:∀ W,Ats W (.slice none 0 0) []:=fun W=>slc_nil _ _ _ _
 have np:∀ W,Pvs W (.slice none 0 0) []:=fun W=>slc_nil _ _ _ _
 rcases i with _ | _ | _ | i
 ·refine ⟨awC1,⟨_,_,_,_,_,_,rfl,nc _,nc _,nc _,na _,na _,np _⟩,at_of i2 fun j hj=>?_⟩
  have hj9:j < 9:=hj
  rcases j with _ | _ | _ | _ | _ | _ | _ | _ | _ | j
  all_goals first | rfl | omega
 ·refine ⟨awC2 w.heap.size,⟨_,_,_,_,_,_,rfl,nc _,nc _,nc _,na _,na _,⟨by decide,some ⟨w.heap.size,0,none⟩,1,rfl,by decide,fun _=>⟨w.heap.size,0,rfl,fun i hi=>?_⟩⟩⟩,at_of i2 fun j hj=>?_⟩
  ·have:i = 0:=by have:i < 1:=hi; omega
   subst this
   exact ⟨i1'.at (i:=0) rfl,i1'.at (i:=1) rfl⟩
  ·have hj9:j < 9:=hj
   rcases j with _ | _ | _ | _ | _ | _ | _ | _ | _ | j
   all_goals first | rfl | omega
 ·refine ⟨awC3,⟨_,_,_,_,_,_,rfl,nc _,nc _,nc _,na _,na _,np _⟩,at_of i2 fun j hj=>?_⟩
  have hj9:j < 9:=hj
  rcases j with _ | _ | _ | _ | _ | _ | _ | _ | _ | j
  all_goals first | rfl | omega
 ·omega
end Ix
end Go.Proofs.YtelofmeapplfpaaGreatDoor
namespace Go.Proofs.YtelofmeapplfpaaGreatDoor
open Go.RowKit
set_option linter.unusedSimpArgs false
set_option linter.unusedVariables false
namespace Ix
open Ver (Bs S)
open Rl (At Pv Slc)
open Rc (Pk nPk Pks PkC CAt Has)
theorem range_of {w:World} {g:Nat} {T:TypeId} {cs:Array Value} (hg:Blk.Is w g T cs):w.rangeAt g 0 cs.toList:=fun j v hj=>by
 rw [Nat.zero_add]
 exact hg.at (by rw [← Array.getElem?_toList]; exact hj)
end Ix
end Go.Proofs.YtelofmeapplfpaaGreatDoor
namespace Go.Proofs.YtelofmeapplfpaaGreatDoor
open Go.RowKit
set_option linter.unusedSimpArgs false
set_option linter.unusedVariables false
namespace Ix
open Ver (Bs S)
open Rl (At Pv Slc)
open Rc (Pk nPk Pks PkC CAt Has infoPk)
theorem append_pk {w:World} {ops:Array Oper} {rest:List Oper} {o:Oper} {a:Act} {Q:Exit → Act → World → Prop} (hgd:o.guard = none) (s x:Operand)
  (ho:o.op = .call { callee:=.builtin .append,args:=#[s,x],argTypes:=#[34,34] })
  (B:Nat) (v:Value) (n:Nat) (xs:List Value) (hv:a.eval s = v) (hown:w.ownsRow B 26 9 v n xs) (k:Nat) (c:Nat) (hx:a.eval x = .slice (some ⟨k,0,none⟩) 1 c) (news:List Value) (hnl:news.length = 9) (hc:∀ (j:Nat) u,news[j]? = some u → w.cell? ⟨k,j,none⟩ = some u)
  (ho1:∀ u ∈ news,u.oneCell' = true) (hn:n + 1 ≤ 70000) (hB:B ≤ w.heap.size)
  (h:∀ v' w',w'.ownsRow B 26 9 v' (n + 1) (xs ++ news) → w.grownBy w' v.ownBlock → wpList Tryz.prog ops Q rest (a.put o.dst v') w'):wpList Tryz.prog ops Q (o :: rest) a w:=by
 obtain ⟨i0,hi,hz0,hz1,hz2⟩:=info_parts infoPk
 have hsrc:Src Tryz.prog 9 34 (.slice (some ⟨k,0,none⟩) 1 c) 1 news w:=by
  refine Src.ofSlice w Tryz.underlying34 ⟨k,0,none⟩ 1 c news (by rw [hnl]) (fun j u hj=>?_) ho1
  have:=hc j u hj
  have e:(⟨k,0,none⟩:Addr).add j = ⟨k,j,none⟩:=by cases j <;> simp [Addr.add]
  rw [e]; exact this
 have hmul:(n + 1) * 184 ≤ 70000 * 184:=Nat.mul_le_mul_right _ hn
 refine wpList_plain hgd fun K hK=>?_
 obtain ⟨v',w',hr,h2,h3,h4⟩:=Own.run_append_src (P:=Tryz.prog) 34 34 o.type B 26 i0 _ 9 184 Tryz.underlying34 hi hz0 hz1 hz2 rfl v n xs hown _ 1 news hsrc (by simp only [maxLen]; omega) (by omega) hB
 unfold Oper.wp execOp
 simp only [ho,resolve,invoke,builtin,Sem.run_bind,Sem.run_pure,Result.andThen_ok,List.map_toArray,List.map_cons,List.map_nil,hv,hx,hr]
 exact hK _ _ (h v' w' h2 h3)
def Bk (w0:World) (B:Nat) (w:World) (v:Value) (ys:List Pk):Prop :=
 ∃ cs:List (List Value),cs.length = ys.length ∧ w.ownsRow B 26 9 v ys.length cs.flatten ∧ ∀ (i:Nat) c,cs[i]? = some c → c.length = 9 ∧ ∀ u,Below w0.heap.size w0 u → PkC u c (ys.getD i nPk)
theorem Bk.nil (w0:World) (B:Nat) (w:World):Bk w0 B w (.slice none 0 0) []:=⟨[],rfl,World.ownsRow_nil _ _ _ _,fun i c h=>by simp at h⟩
theorem Bk.pks {w0:World} {B:Nat} {w:World} {v:Value} {ys:List Pk} (h:Bk w0 B w v ys) (hb:Below w0.heap.size w0 w) (hn:ys.length ≤ 60000):Pks w v ys:=by
 obtain ⟨cs,h1,h2,h3⟩:=h
 obtain ⟨a,cap,rfl,hc⟩:=Rl.own_shape h2
 refine ⟨by omega,a,cap,rfl,hc,fun h0=>?_⟩
 obtain ⟨g,cap',e1,_⟩:=Rl.own_slice h2 h0
 simp only [Value.slice.injEq,true_and] at e1
 obtain ⟨rfl,rfl⟩:=e1
 refine ⟨g,0,rfl,fun i hi=>?_⟩
 obtain ⟨c,hc⟩:∃ c,cs[i]? = some c:=⟨cs[i]'(by omega),List.getElem?_eq_getElem _⟩
 obtain ⟨h9,hp⟩:=h3 i c hc
 refine ⟨c,hp w hb,fun j u hj=>?_⟩
 rw [Nat.zero_add]
 refine Rl.own_cell h2 ?_
 have hj9:j < 9:=by rw [← h9]; exact (List.getElem?_eq_some_iff.1 hj).1
 rw [Rc.flat_row 9 cs i j c (fun r hr=>by
  obtain ⟨q,hq⟩:=List.mem_iff_getElem?.1 hr
  exact (h3 q r hq).1) hc hj9]
 exact hj
theorem Bk.more {w0:World} {B:Nat} {w':World} {v':Value} {ys:List Pk} {cs:List (List Value)} (h1:cs.length = ys.length) (h3:∀ (i:Nat) c,cs[i]? = some c → c.length = 9 ∧ ∀ u,Below w0.heap.size w0 u → PkC u c (ys.getD i nPk)) {c:List Value} {p:Pk} (ho:w'.ownsRow B 26 9 v' (ys.length + 1) (cs.flatten ++ c)) (h9:c.length = 9) (hp:∀ u,Below w0.heap.size w0 u → PkC u c p):Bk w0 B w' v' (ys ++ [p]):=by
 refine ⟨cs ++ [c],by simp [h1],by simpa using ho,fun i d hd=>?_⟩
 by_cases hi:i < cs.length
 ·rw [List.getElem?_append_left hi] at hd
  obtain ⟨k1,k2⟩:=h3 i d hd
  refine ⟨k1,fun u hu=>?_⟩
  have e:(ys ++ [p]).getD i nPk = ys.getD i nPk:=by rw [List.getD_eq_getElem?_getD,List.getElem?_append_left (by omega),← List.getD_eq_getElem?_getD]
  rw [e]; exact k2 u hu
 ·rw [List.getElem?_append_right (by omega)] at hd
  have hi0:i = cs.length:=by
   by_cases e:i - cs.length = 0
   ·omega
   ·rw [List.getElem?_eq_none (by simp; omega)] at hd; cases hd
  subst hi0
  simp at hd
  subst hd
  refine ⟨h9,fun u hu=>?_⟩
  have e:(ys ++ [p]).getD cs.length nPk = p:=by rw [h1,List.getD_eq_getElem?_getD,List.getElem?_concat_length]; rfl
  rw [e]; exact hp u hu
end Ix
end Go.Proofs.YtelofmeapplfpaaGreatDoor

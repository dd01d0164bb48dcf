/-
The packages that every program must know: in memory, in order. Slices of packages that a law writes out. Packages, the last first: a row of the call's own of packages whose lists came in.
-/
import Derived.Test.YtmhpjjjjgakpiaaGreatDoorAIxUniq
import Derived.Test.YtmhpjjjjgakpiaaGreatDoorAIxNames
namespace Go.Proofs.YtmhpjjjjgakpiaaGreatDoor
open Go.RowKit
set_option linter.unusedSimpArgs false
set_option linter.unusedVariables false
namespace Ix
open Rl (Slc)
theorem slc_nil {α:Type} (sz:Nat) (z:α) (P:World → Nat → Nat → α → Prop) (w:World):Slc sz z P w (.slice none 0 0) []:=⟨by simp,none,0,rfl,by simp,fun h=>absurd h (by simp)⟩
end Ix
end Go.Proofs.YtmhpjjjjgakpiaaGreatDoor
namespace Go.Proofs.YtmhpjjjjgakpiaaGreatDoor
open Go.RowKit
set_option linter.unusedSimpArgs false
set_option linter.unusedVariables false
namespace Ix
theorem range_of {w:World} {g:Nat} {T:TypeId} {cs:Array Value} (hg:Blk.Is w g T cs):w.rangeAt g 0 cs.toList:=fun j v hj=>by
 rw [Nat.zero_add]
 exact hg.at (by rw [← Array.getElem?_toList]; exact hj)
end Ix
end Go.Proofs.YtmhpjjjjgakpiaaGreatDoor
namespace Go.Proofs.YtmhpjjjjgakpiaaGreatDoor
open Go.RowKit
set_option linter.unusedSimpArgs false
set_option linter.unusedVariables false
namespace Ix
open Rc (infoPk)
theorem append_pk {w:World} {ops:Array Oper} {rest:List Oper} {o:Oper} {a:Act} {Q:Exit → Act → World → Prop} (hgd:o.guard = none) (s x:Operand)
  (ho:o.op = .call { callee:=.builtin .append,args:=#[s,x],argTypes:=#[22,22] })
  (B:Nat) (v:Value) (n:Nat) (xs:List Value) (hv:a.eval s = v) (hown:w.ownsRow B 40 9 v n xs) (k:Nat) (c:Nat) (hx:a.eval x = .slice (some ⟨k,0,none⟩) 1 c) (news:List Value) (hnl:news.length = 9) (hc:∀ (j:Nat) u,news[j]? = some u → w.cell? ⟨k,j,none⟩ = some u)
  (ho1:∀ u ∈ news,u.oneCell' = true) (hn:n + 1 ≤ 70000) (hB:B ≤ w.heap.size)
  (h:∀ v' w',w'.ownsRow B 40 9 v' (n + 1) (xs ++ news) → w.grownBy w' v.ownBlock → wpList Tryz.prog ops Q rest (a.put o.dst v') w'):wpList Tryz.prog ops Q (o :: rest) a w:=by
 obtain ⟨i0,hi,hz0,hz1,hz2⟩:=info_parts infoPk
 have hsrc:Src Tryz.prog 9 22 (.slice (some ⟨k,0,none⟩) 1 c) 1 news w:=by
  refine Src.ofSlice w Tryz.underlying22 ⟨k,0,none⟩ 1 c news (by rw [hnl]) (fun j u hj=>?_) ho1
  have:=hc j u hj
  have e:(⟨k,0,none⟩:Addr).add j = ⟨k,j,none⟩:=by cases j <;> simp [Addr.add]
  rw [e]; exact this
 have hmul:(n + 1) * 184 ≤ 70000 * 184:=Nat.mul_le_mul_right _ hn
 refine wpList_plain hgd fun K hK=>?_
 obtain ⟨v',w',hr,h2,h3,h4⟩:=Own.run_append_src (P:=Tryz.prog) 22 22 o.type B 40 i0 _ 9 184 Tryz.underlying22 hi hz0 hz1 hz2 rfl v n xs hown _ 1 news hsrc (by simp only [maxLen]; omega) (by omega) hB
 unfold Oper.wp execOp
 simp only [ho,resolve,invoke,builtin,Sem.run_bind,Sem.run_pure,Result.andThen_ok,List.map_toArray,List.map_cons,List.map_nil,hv,hx,hr]
 exact hK _ _ (h v' w' h2 h3)
end Ix
end Go.Proofs.YtmhpjjjjgakpiaaGreatDoor

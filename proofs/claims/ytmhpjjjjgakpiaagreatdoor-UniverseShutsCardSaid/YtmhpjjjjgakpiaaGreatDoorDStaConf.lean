/-
The packages of entries: the law's bare. Entries in a row of the call's own that is written in place: the cells of each, and where their lists lie. isWhole: each may be, each name stands once; configured: packages as entries. Which entries meet a clause: meets, isMet. configured: packages as entries that are all configured; Healthy.
-/
import Derived.Test.YtmhpjjjjgakpiaaGreatDoorDIxMap
import Derived.Test.YtmhpjjjjgakpiaaGreatDoorDRecAll2
import Derived.Test.YtmhpjjjjgakpiaaGreatDoorDStaMath
import Derived.Deep.MidRow
import Derived.Test.YtmhpjjjjgakpiaaGreatDoorDTextTexts
import Derived.Test.YtmhpjjjjgakpiaaGreatDoorDRecMay
import Derived.Test.YtmhpjjjjgakpiaaGreatDoorShelf
import Derived.Shelf.Slices.CompactS
import Derived.OrdersHeld
namespace Go.Proofs.YtmhpjjjjgakpiaaGreatDoor
open Go.RowKit
set_option linter.unusedSimpArgs false
set_option linter.unusedVariables false
namespace Rc
open Ver (S)
theorem append_big {tS e:TypeId} {z:Value} {sz bytes:Nat} (hu:Tryz.prog.underlying tS = some (.slice e)) (hi:(Tryz.prog.info? e).map (fun i=>(i.zero,i.size,i.bytes)) = some (some z,sz,bytes)) (hz:z.cells.size = sz)
  {w:World} {ops:Array Oper} {rest:List Oper} {o:Oper} {a:Act} {Q:Exit → Act → World → Prop} (hgd:o.guard = none) (s x:Operand)
  (ho:o.op = .call { callee:=.builtin .append,args:=#[s,x],argTypes:=#[tS,tS] })
  (B:Nat) (v:Value) (n:Nat) (hv:a.eval s = v) (hown:∃ xs,w.ownsRow B e sz v n xs) (k:Nat) (c:Nat) (hx:a.eval x = .slice (some ⟨k,0,none⟩) 1 c) (news:List Value) (hnl:news.length = sz) (hc:∀ (j:Nat) u,news[j]? = some u → w.cell? ⟨k,j,none⟩ = some u)
  (ho1:∀ u ∈ news,u.oneCell' = true) (hn:(n + 1) * bytes ≤ 140737488355328) (hn2:n + 1 ≤ 4611686018427387904) (hB:B ≤ w.heap.size)
  (h:∀ v' w',(∀ xs,w.ownsRow B e sz v n xs → w'.ownsRow B e sz v' (n + 1) (xs ++ news)) → w.grownBy w' v.ownBlock → (∀ k,v'.ownBlock = some k → v.ownBlock = some k ∨ w.heap.size ≤ k) → wpList Tryz.prog ops Q rest (a.put o.dst v') w'):wpList Tryz.prog ops Q (o :: rest) a w:=by
 obtain ⟨i0,hi,hz0,hz1,hz2⟩:=info_parts hi
 have hsrc:Src Tryz.prog sz tS (.slice (some ⟨k,0,none⟩) 1 c) 1 news w:=by
  refine Src.ofSlice w hu ⟨k,0,none⟩ 1 c news (by rw [hnl,Nat.one_mul]) (fun j u hj=>?_) ho1
  have:=hc j u hj
  have e:(⟨k,0,none⟩:Addr).add j = ⟨k,j,none⟩:=by cases j <;> simp [Addr.add]
  rw [e]; exact this
 obtain ⟨xs,hown⟩:=hown
 refine wpList_plain hgd fun K hK=>?_
 obtain ⟨v',w',hr,h2,h3,h4⟩:=Own.run_append_src (P:=Tryz.prog) tS tS o.type B e i0 z sz bytes hu hi hz0 hz1 hz2 hz v n xs hown _ 1 news hsrc (by simp only [maxLen]; omega) hn hB
 unfold Oper.wp execOp
 simp only [ho,resolve,invoke,builtin,Sem.run_bind,Sem.run_pure,Result.andThen_ok,List.map_toArray,List.map_cons,List.map_nil,hv,hx,hr]
 refine hK _ _ (h v' w' (fun ys hys=>?_) h3 h4)
 have hxy:ys = xs:=by
  rcases hown.2 with ⟨e1,e2⟩ | ⟨g,cap,cur,e1,_,hh,_,_,_,ht⟩
  ·have h5:=hown.1
   have h6:=hys.1
   rw [e2,Nat.zero_mul] at h5 h6
   rw [List.eq_nil_of_length_eq_zero h5,List.eq_nil_of_length_eq_zero h6]
  ·subst e1
   rcases hys.2 with ⟨e3,_⟩ | ⟨g',cap',cur',e3,_,hh',_,_,_,ht'⟩
   ·cases e3
   ·simp only [Value.slice.injEq,Option.some.injEq,Addr.mk.injEq,and_true,true_and] at e3
    obtain ⟨rfl,rfl⟩:=e3
    rw [hh] at hh'
    cases hh'
    rw [← ht,← ht']
 rw [hxy]
 exact h2
theorem in_low {w:World} {Q:World → Prop} (h:∀ u,Below w.heap.size w u → Q u):In 0 w.heap.size w Q:=fun u hu=>h u ⟨hu.os,hu.tape,hu.output,hu.size,fun k hk=>hu.block k hk (by omega)⟩
end Rc
end Go.Proofs.YtmhpjjjjgakpiaaGreatDoor
namespace Go.Proofs.YtmhpjjjjgakpiaaGreatDoor
open Go.RowKit
set_option linter.unusedSimpArgs false
set_option linter.unusedVariables false
namespace Sa
open Ver (S)
open Rc (En nEn Has)
structure Ee where
 en:En
 u1:Value
 u2:Value
 u3:Value
 u4:Value
 u5:Value
 u6:Value
 sl:∀ u ∈ [u1,u2,u3,u4,u5,u6],∃ a n c,u = Value.slice a n c
instance:Inhabited Ee:=⟨⟨nEn,.slice none 0 0,.slice none 0 0,.slice none 0 0,.slice none 0 0,.slice none 0 0,.slice none 0 0,fun u hu=>by simp at hu; exact ⟨none,0,0,hu⟩⟩⟩
theorem get_getD {α:Type} {l:List α} {i:Nat} {x:α} (h:l[i]? = some x) (z:α):l.getD i z = x:=by rw [List.getD_eq_getElem?_getD,h]; rfl
end Sa
end Go.Proofs.YtmhpjjjjgakpiaaGreatDoor
namespace Go.Proofs.YtmhpjjjjgakpiaaGreatDoor
open Go.RowKit
set_option linter.unusedSimpArgs false
set_option linter.unusedVariables false
namespace Sa
open Ver (Bs)
open Rc (Pk mayK)
def whB (l:List Pk):Bool:=(l.all fun p=>decide (mayK p = 0)) && decide (l.map Pk.nm).Nodup
theorem whB_iff {l:List Pk}:whB l = true ↔ Whol l:=by
 unfold whB Whol
 rw [Bool.and_eq_true,List.all_eq_true,decide_eq_true_eq]
 simp
end Sa
end Go.Proofs.YtmhpjjjjgakpiaaGreatDoor
namespace Go.Proofs.YtmhpjjjjgakpiaaGreatDoor
open Go.RowKit
set_option linter.unusedSimpArgs false
set_option linter.unusedVariables false
namespace Sa
open Ver (S)
open Rl (At Ats LimA Vars aV nA mem_getD)
open Rc (Pk PkV PkB)
open Ix (sat LimAt satisfies_any)
end Sa
end Go.Proofs.YtmhpjjjjgakpiaaGreatDoor
namespace Go.Proofs.YtmhpjjjjgakpiaaGreatDoor
open Go.RowKit
set_option linter.unusedSimpArgs false
set_option linter.unusedVariables false
namespace Sa
open Rc (Pk)
theorem take_snoc {α:Type} {l:List α} {z:α} {k:Nat} (hk:k < l.length):l.take (k + 1) = l.take k ++ [l.getD k z]:=by
 rw [List.getD_eq_getElem?_getD,List.getElem?_eq_getElem hk,Option.getD_some,List.take_append_getElem hk]
def heaB (l:List Pk):Bool:=whB l && decide (Sa.wr (conf l) = [])
theorem heaB_iff {l:List Pk}:heaB l = true ↔ Hea l:=by
 unfold heaB Hea
 rw [Bool.and_eq_true,decide_eq_true_eq,whB_iff,AllC.wr_nil (conf_all l)]
end Sa
end Go.Proofs.YtmhpjjjjgakpiaaGreatDoor

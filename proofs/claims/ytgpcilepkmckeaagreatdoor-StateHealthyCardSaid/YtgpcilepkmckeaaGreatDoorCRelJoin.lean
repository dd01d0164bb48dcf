/-
A region that draws its order: whatever class of worlds its first operations keep, its last ones in the order of the text. No program is named here. SameAtoms, SameClauses, SameProvides. What the six ways of reading tell, in one form. Packages and entries: what they are, which may be. How long written texts may be; reading two texts with a comma between. The reference's Text (made by gen/relytext.py). Clauses that lie somewhere, appended onto a row of the call's own. Not too many: light.
-/
import Derived.StillTail
import Derived.BigQuiet
import Derived.Deep.MidRow
import Derived.Below
import Derived.Test.YtgpcilepkmckeaaGreatDoorCRelLists
import Derived.Laws.StructEq
import Derived.Deep.QuietTactic
import Derived.Test.YtgpcilepkmckeaaGreatDoorCVerRefParse
import Derived.Test.YtgpcilepkmckeaaGreatDoorCRelOwn
import Derived.StillTailTactics
import Derived.Test.YtgpcilepkmckeaaGreatDoorCRelDef
import Derived.Laws.Concat
import Derived.Deep.AppendSrc
namespace Go.Proofs.YtgpcilepkmckeaaGreatDoor
open Go.RowKit
namespace Reg
section
variable {P:Program} {ops:Array Oper} {md:Region.Mode} {C:World → Prop}

end
section
variable {P:Program} {ops:Array Oper} {md:Region.Mode} {C:World → Prop}

def midK (K:Act → World → Prop) (Q:Exit → Act → World → Prop):Exit → Act → World → Prop
 | .normal,a,w=>K a w
 | e,a,w=>Q e a w
theorem LetsOut.ofMidK {Q:Exit → Act → World → Prop} {K:Act → World → Prop} (h:LetsOut (midK K Q)):LetsOut Q:=by
 obtain ⟨a,w,h⟩:=h; exact ⟨a,w,h⟩
theorem upon_midK {Q:Exit → Act → World → Prop} {K K':Act → World → Prop} {o:Oper} {a:Act} {r:Result Next} (h:o.upon P a K' (midK K Q) r):o.upon P a K' Q r:=by
 cases r with
 | ok x w' =>
  cases x <;> simp only [Oper.upon] at h ⊢
  case enter f args =>
   refine Calls.mono h fun e w'' he=>?_
   cases e with
   | returned v=>exact he
   | panicked c=>exact he
   | outgrown=>exact LetsOut.ofMidK he
  all_goals exact h
 | halt x w' =>
  cases x <;> simp only [Oper.upon] at h ⊢
  all_goals exact h
theorem wpOp_list {i:Nat} {o:Oper} {Q:Exit → Act → World → Prop} {K:Act → World → Prop} {a:Act} {w:World} (ho:ops[i]? = some o) (h:wpList P ops (midK K Q) [o] a w):wpOp P ops Q i K a w:=by
 unfold wpOp
 simp only [ho]
 simp only [wpList] at h
 split
 ·rename_i hw
  rw [if_pos hw] at h
  rcases h with h | ⟨h1,h2⟩
  ·exact .inl (upon_midK h)
  ·exact .inr ⟨h1,LetsOut.ofMidK h2⟩
 ·rename_i hw
  rw [if_neg hw] at h
  exact h
end
end Reg
end Go.Proofs.YtgpcilepkmckeaaGreatDoor
namespace Go.Proofs.YtgpcilepkmckeaaGreatDoor
open Go.RowKit
set_option linter.unusedSimpArgs false
set_option linter.unusedVariables false
namespace Rl
open Ver (Bs li S S_li below_drewN)
theorem S_beq (a c:Bs):((S a).toList == (S c).toList) = decide (a = c):=by
 rw [Lib.toList_data,Lib.toList_data]
 show (li (S a) == li (S c)) = _
 rw [S_li,S_li,Bool.eq_iff_iff,beq_iff_eq,decide_eq_true_eq]
theorem S_eq (a c:Bs):(S a).toList = (S c).toList ↔ a = c:=by
 have:=S_beq a c
 rw [Bool.eq_iff_iff,beq_iff_eq,decide_eq_true_eq] at this
 exact this
end Rl
end Go.Proofs.YtgpcilepkmckeaaGreatDoor
namespace Go.Proofs.YtgpcilepkmckeaaGreatDoor
open Go.RowKit
set_option linter.unusedSimpArgs false
set_option linter.unusedVariables false
namespace Rl
open Ver (Bs li S S_li below_drewN)
section
variable (s:ByteArray) (w:World) (hs:s.size ≤ 4611686018427387904)
include hs
end
end Rl
end Go.Proofs.YtgpcilepkmckeaaGreatDoor
namespace Go.Proofs.YtgpcilepkmckeaaGreatDoor
open Go.RowKit
set_option linter.unusedSimpArgs false
set_option linter.unusedVariables false
namespace Rc
open Ver (Bs)
open Rl (At Pv may nmB isV pvA)
structure Pk where
 nm:Bs
 vs:Bs
 pre:List (List At)
 dep:List (List At)
 rcm:List (List At)
 con:List At
 brk:List At
 prv:List Pv
 ess:Bool
structure En where
 pk:Pk
 cfg:Bool
 hld:Bool
def nPk:Pk:=⟨[],[],[],[],[],[],[],[],false⟩
def nEn:En:=⟨nPk,false,false⟩
/-! ### which may be -/
def mayC (l:List (List At)):Int :=
 if l.any (fun c=>decide (6 < c.length)) = true then 12
 else if 12 < l.length then 12
 else if l.all (fun c=>decide (0 < c.length) && c.all may) = true then 0 else 3
def mayA (l:List At):Int:=if 12 < l.length then 12 else if l.all may = true then 0 else 3
def mayPv (p:Pv):Bool:=may (pvA p)
def mayP (l:List Pv):Int:=if 12 < l.length then 12 else if l.all mayPv = true then 0 else 3
def orI:List Int → Int
 | []=>0
 | x :: r=>if x ≠ 0 then x else orI r
def mayK (p:Pk):Int:=if (nmB p.nm && isV p.vs) = true then orI [mayC p.pre,mayC p.dep,mayC p.rcm,mayA p.con,mayA p.brk,mayP p.prv] else 3
end Rc
end Go.Proofs.YtgpcilepkmckeaaGreatDoor
namespace Go.Proofs.YtgpcilepkmckeaaGreatDoor
open Go.RowKit
set_option linter.unusedSimpArgs false
set_option linter.unusedVariables false
namespace Rl
open Ver (Bs S S_size empty_no)
theorem S_none {x:Bs} (h:x = []):(S x).toList.isEmpty = true:=by subst h; exact isEmpty_S []
theorem S_some {x:Bs} (h:x ≠ []):(S x).toList.isEmpty = false:=(empty_no (by rw [S_size]; exact fun e=>h (List.eq_nil_of_length_eq_zero e))).1
end Rl
end Go.Proofs.YtgpcilepkmckeaaGreatDoor
namespace Go.Proofs.YtgpcilepkmckeaaGreatDoor
open Go.RowKit
set_option linter.unusedSimpArgs false
set_option linter.unusedVariables false
namespace Rl
open Ver (Bs)
section
variable {α:Type} {f:α → Bs} {sep:Bs} {xs:List α}
theorem take_getD {i:Nat} (z:α) (h:i < xs.length):xs.take (i + 1) = xs.take i ++ [xs.getD i z]:=by
 rw [List.take_succ_eq_append_getElem h]
 simp [List.getD,List.getElem?_eq_getElem h]
end
theorem s2:(⟨#[44,32]⟩:ByteArray).size = 2:=rfl
theorem s3:(⟨#[32,124,32]⟩:ByteArray).size = 3:=rfl
end Rl
end Go.Proofs.YtgpcilepkmckeaaGreatDoor
namespace Go.Proofs.YtgpcilepkmckeaaGreatDoor
open Go.RowKit
set_option linter.unusedSimpArgs false
set_option linter.unusedVariables false
namespace Rl
end Rl
end Go.Proofs.YtgpcilepkmckeaaGreatDoor
namespace Go.Proofs.YtgpcilepkmckeaaGreatDoor
open Go.RowKit
set_option linter.unusedSimpArgs false
set_option linter.unusedVariables false
namespace Rl
def lightB (l:List (List At)):Bool:=decide (l.length ≤ 30) && l.all fun c=>decide (c.length ≤ 30)
theorem light_many {l:List (List At)} (h:30 < l.length):lightB l = false:=by
 unfold lightB
 rw [decide_eq_false (by omega)]
 rfl
theorem light_at {l:List (List At)} {i:Nat} (hi:i < l.length) (h:30 < (l.getD i []).length):lightB l = false:=by
 unfold lightB
 rw [Bool.and_eq_false_iff]
 right
 rw [List.all_eq_false]
 exact ⟨l[i],List.getElem_mem hi,by rw [show l[i] = l.getD i [] by simp [List.getD,List.getElem?_eq_getElem hi]]; simp only [decide_eq_true_eq]; omega⟩
theorem light_yes {l:List (List At)} (hl:l.length ≤ 30) (h:∀ i,i < l.length → (l.getD i []).length ≤ 30):lightB l = true:=by
 unfold lightB
 rw [decide_eq_true hl,Bool.true_and,List.all_eq_true]
 intro s hs
 obtain ⟨i,hi,rfl⟩:=List.mem_iff_getElem.1 hs
 have:=h i hi
 simpa [List.getD,List.getElem?_eq_getElem hi] using this
end Rl
end Go.Proofs.YtgpcilepkmckeaaGreatDoor

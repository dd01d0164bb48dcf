/-
A row of the call's own of things whose lists lie in memory of their own: what appends leave of it. The mathematics of an index: who meets an atom, which clash, in which order packages stand, where they stand by their names.
-/
import Derived.Test.YtelofmeapplfpaaGreatDoorCTextTexts
import Derived.Test.YtelofmeapplfpaaGreatDoorCRecMem
import Derived.Test.YtelofmeapplfpaaGreatDoorCHeld
import Derived.Test.YtelofmeapplfpaaGreatDoorCVerRefParse
import Derived.Deep.WholeRow
import Derived.Deep.RegionHeld3
import Derived.BigFrame
import Derived.Test.YtelofmeapplfpaaGreatDoorCRelUni
import Derived.Test.YtelofmeapplfpaaGreatDoorCTextSmallK
import Derived.Laws.Concat
import Derived.StillTailTactics
import Derived.Lib.SlBytesConst
import Derived.Deep.CutRange
import Derived.Test.YtelofmeapplfpaaGreatDoorCRecAll2
namespace Go.Proofs.YtelofmeapplfpaaGreatDoor
open Go.RowKit
set_option linter.unusedSimpArgs false
set_option linter.unusedVariables false
namespace Rc

theorem flat_row (m:Nat):∀ (l:List (List Value)) (i j:Nat) (x:List Value),(∀ r ∈ l,r.length = m) → l[i]? = some x → j < m → l.flatten[m * i + j]? = x[j]?
 | [],i,j,x,_,h,_=>by simp at h
 | y :: l,0,j,x,hf,h,hj=>by
  simp at h
  subst h
  rw [List.flatten_cons,Nat.mul_zero,Nat.zero_add,List.getElem?_append_left (by rw [hf _ List.mem_cons_self]; exact hj)]
 | y :: l,i + 1,j,x,hf,h,hj=>by
  simp at h
  have hy:=hf y List.mem_cons_self
  rw [List.flatten_cons,List.getElem?_append_right (by rw [hy,Nat.mul_add]; omega),hy,show m * (i + 1) + j - m = m * i + j by rw [Nat.mul_add]; omega]
  exact flat_row m l i j x (fun r hr=>hf r (List.mem_cons_of_mem _ hr)) h hj
theorem infoPk:(Tryz.prog.info? 26).map (fun i=>(i.zero,i.size,i.bytes)) = some (some (.agg #[.string ByteArray.empty,.string ByteArray.empty,.slice none 0 0,.slice none 0 0,.slice none 0 0,.slice none 0 0,.slice none 0 0,.slice none 0 0,.bool false]),9,184):=by kernel_rfl
end Rc
end Go.Proofs.YtelofmeapplfpaaGreatDoor
namespace Go.Proofs.YtelofmeapplfpaaGreatDoor
open Go.RowKit
set_option linter.unusedSimpArgs false
set_option linter.unusedVariables false
namespace Ix
open Ver (cmpV holdsV orr)
open Rl (At Pv may)
open Rc (Pk)
def pmeets (a:At) (v:Pv):Bool:=decide (v.1 = a.1) && (decide (a.2.1 = 0) || holdsV a.2.1 v.2 a.2.2)
def sat (p:Pk) (a:At):Bool:=may a && ((decide (p.nm = a.1) && holdsV a.2.1 p.vs a.2.2) || p.prv.any (pmeets a))
def LimAt (a:At):Prop:=a.1.length ≤ 140737488351232 ∧ a.2.2.length ≤ 140737488351232
def LimPv (v:Pv):Prop:=v.1.length ≤ 140737488351232 ∧ v.2.length ≤ 140737488351232
def cmpP (p q:Pk):Int:=orr (Lib.compareBytes p.nm q.nm) (cmpV q.vs p.vs)
end Ix
end Go.Proofs.YtelofmeapplfpaaGreatDoor

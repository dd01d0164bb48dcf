/-
Which clauses, and which packages may be. Regions that draw their order: a load of one cell may be taken first where every world of the class has that cell; and what never looks at the world. May: a whole package: may it be? Rows of bytes: what a slice of bytes reads as; rows of the call's own; what an append of them leaves. MayAll, MayEntries: packages, entries: may they be?
-/
import Derived.Test.YtgpcilepkmckeaaDoorARecMem
import Derived.Test.YtgpcilepkmckeaaDoorARelMay
import Derived.Test.YtgpcilepkmckeaaDoorAVerSignsK
import Derived.Test.YtgpcilepkmckeaaDoorARelJoin
import Derived.OrdersHeld
import Derived.Deep.MidRow
import Derived.WalkKit
import Derived.Test.YtgpcilepkmckeaaDoorAOwn
import Derived.Test.YtgpcilepkmckeaaDoorABlk
import Derived.Test.YtgpcilepkmckeaaDoorProg
import Derived.IntWalk
import Derived.OpenShut
import Derived.Test.YtgpcilepkmckeaaDoorATextSmallK
import Derived.Test.YtgpcilepkmckeaaDoorShelf
import Derived.Test.YtgpcilepkmckeaaDoorARelLists
import Derived.Test.YtgpcilepkmckeaaDoorARelReadA
import Derived.Lib.AppendIntMem
import Derived.Deep.QuietTactic
import Derived.Test.YtgpcilepkmckeaaDoorARelDef
import Derived.Laws.Concat
import Derived.StillTailTactics
import Derived.Lib.SlBytesConst
import Derived.Deep.RegionHeld3
import Derived.BigQuiet
namespace Go.Proofs.YtgpcilepkmckeaaDoor
open Go.RowKit
set_option linter.unusedSimpArgs false
set_option linter.unusedVariables false
namespace Rc
open Ver (Bs S S_size S_li)
open Rl (At Ats Clss LimA LimC Vars nA mem_getD may isV aV)
theorem any_at {α:Type} {z:α} {l:List α} {p:α → Bool} {j:Nat} (hj:j < l.length) (h:p (l.getD j z) = true):l.any p = true:=List.any_eq_true.2 ⟨_,mem_getD hj,h⟩
theorem any_no {α:Type} {z:α} {l:List α} {p:α → Bool} (h:∀ j,j < l.length → p (l.getD j z) = false):l.any p = false:=by
 cases hq:l.any p with
 | false=>rfl
 | true =>
  obtain ⟨x,hx,hp⟩:=List.any_eq_true.1 hq
  obtain ⟨i,hi,rfl⟩:=List.mem_iff_getElem.1 hx
  have:=h i hi
  rw [List.getD_eq_getElem?_getD,List.getElem?_eq_getElem hi] at this
  simp only [Option.getD_some] at this
  rw [this] at hp
  cases hp
end Rc
end Go.Proofs.YtgpcilepkmckeaaDoor
namespace Go.Proofs.YtgpcilepkmckeaaDoor
open Go.RowKit
namespace Held
theorem run_load_one {P:Program} {w:World} {b o:Nat} {v:Value} {ty:TypeId} {d:TypeDesc} (hc:w.cell? ⟨b,o,none⟩ = some v) (hu:P.underlying ty = some d) (hd:d.isRow = false):(Instr.loadAt ty (.pointer (some ⟨b,o,none⟩))).run P w = .ok v w:=by
 have hagg:(isAgg ty).run P w = .ok false w:=by
  unfold isAgg
  rw [Sem.run_bind,run_underlying hu w]
  cases d <;> simp_all
 simp only [Instr.loadAt,Instr.sureAddr,Sem.run_bind,Sem.run_pure,Result.andThen_ok,loadVar,hagg]
 simp [hc]
theorem load1 {P:Program} {ops:Array Oper} {S:World → Prop} {op:Oper} {a:Act} (hw:Region.wanted op (yielded ops a.tmps) = true) (ty:TypeId) (x:Operand) (ho:op.op = .load ty x)
  (b o:Nat) (hx:a.eval x = .pointer (some ⟨b,o,none⟩)) (v:Value) (d:TypeDesc) (hS:∀ w,S w → w.cell? ⟨b,o,none⟩ = some v)
  (hu:P.underlying ty = some d) (hd:d.isRow = false):YieldsIf P ops S op v a :=
 .inl ⟨hw,fun w hw'=>by
  unfold execOp
  simp only [ho,hx]
  rw [Sem.run_bind,run_load_one (hS w hw') hu hd]
  rfl⟩
theorem run_index_one {P:Program} {T e:TypeId} {n:Nat} {d:TypeDesc} (hu:P.underlying T = some (.array n e)) (he:P.underlying e = some d) (hd:d.isRow = false) (hsz:(P.info? e).map (·.size) = some 1) {cs:Array Value} {j:Nat} (hj:j < n) {v:Value} (hv:cs[j]? = some v) (w:World) :
  (Instr.index T (.agg cs) (.int .i64 j)).run P w = .ok v w:=by
 have hs:∀ w,(sizeOf e).run P w = .ok 1 w:=fun w=>by
  cases hq:P.info? e with
  | none=>simp [hq] at hsz
  | some i =>
   have:i.size = 1:=by simpa [hq] using hsz
   simp [sizeOf,typeInfo,hq,this]
 have hj':(0:Int) ≤ j ∧ (j:Int) < (n:Nat):=by omega
 have ha:∀ w,(isAgg e).run P w = .ok false w:=fun w=>by
  unfold isAgg
  simp only [Sem.run_bind,run_underlying he,Result.andThen_ok]
  cases d <;> simp_all
 simp only [Instr.index,asIntOf,Sem.run_bind,Sem.run_pure,Result.andThen_ok,run_underlying hu,hj',and_self,if_true,hs,Int.toNat_natCast,Go.part,ha]
 simp [hv]
end Held
end Go.Proofs.YtgpcilepkmckeaaDoor
namespace Go.Proofs.YtgpcilepkmckeaaDoor
open Go.RowKit
set_option linter.unusedSimpArgs false
set_option linter.unusedVariables false
namespace Rc
open Ver (S)
open Rl (Vars may nmB isV)
def PkV (w:World) (v:Value) (p:Pk):Prop:=∃ u1 u2 u3 u4 u5 u6,v = .agg #[.string (S p.nm),.string (S p.vs),u1,u2,u3,u4,u5,u6,.bool p.ess] ∧ Has w p u1 u2 u3 u4 u5 u6
theorem PkV.below {w w':World} {v:Value} {p:Pk} (h:PkV w v p) (hb:Below w.heap.size w w'):PkV w' v p:=by
 obtain ⟨u1,u2,u3,u4,u5,u6,e,h1⟩:=h
 exact ⟨u1,u2,u3,u4,u5,u6,e,h1.below hb⟩
end Rc
end Go.Proofs.YtgpcilepkmckeaaDoor
namespace Go.Proofs.YtgpcilepkmckeaaDoor
open Go.RowKit
set_option linter.unusedVariables false

def bcells (zs:List Int):List Value:=zs.map (Value.int .u8)
@[simp] theorem bcells_length (zs:List Int):(bcells zs).length = zs.length:=by simp [bcells]
end Go.Proofs.YtgpcilepkmckeaaDoor
namespace Go.Proofs.YtgpcilepkmckeaaDoor
open Go.RowKit
set_option linter.unusedSimpArgs false
set_option linter.unusedVariables false
namespace Rc
open Ver (S)
open Rl (Slc may)
def PkB (w:World) (g:Nat) (x:Pk):Prop:=∃ a1 n1 c1 a2 n2 c2 a3 n3 c3 a4 n4 c4 a5 n5 c5 a6 n6 c6,Blk.Is w g 36 #[.string (S x.nm),.string (S x.vs),.slice a1 n1 c1,.slice a2 n2 c2,.slice a3 n3 c3,.slice a4 n4 c4,.slice a5 n5 c5,.slice a6 n6 c6,.bool x.ess] ∧ Has w x (.slice a1 n1 c1) (.slice a2 n2 c2) (.slice a3 n3 c3) (.slice a4 n4 c4) (.slice a5 n5 c5) (.slice a6 n6 c6)
theorem PkB.below {w w':World} {g:Nat} {x:Pk} (h:PkB w g x) (hb:Below w.heap.size w w'):PkB w' g x:=by
 obtain ⟨a1,n1,c1,a2,n2,c2,a3,n3,c3,a4,n4,c4,a5,n5,c5,a6,n6,c6,h1,h2⟩:=h
 exact ⟨a1,n1,c1,a2,n2,c2,a3,n3,c3,a4,n4,c4,a5,n5,c5,a6,n6,c6,Rl.is_on h1 hb,h2.below hb⟩
end Rc
end Go.Proofs.YtgpcilepkmckeaaDoor

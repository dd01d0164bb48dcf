/-
Rows of bytes: what a slice of bytes reads as; rows of the call's own; what an append of them leaves. Written packages and entries are read back as they were; their texts may be printed. Slices of strings that are read alone; the contract of the reference's SameTexts; append of one string. MayAll, MayEntries: packages, entries: may they be? A row of the call's own of things whose lists lie in memory of their own: what appends leave of it. The mathematics of an index: who meets an atom, which clash, in which order packages stand, where they stand by their names.
-/
import Derived.Test.YtgpcilepkmckeaaGreatDoorCOwn
import Derived.Test.YtgpcilepkmckeaaGreatDoorProg
import Derived.IntWalk
import Derived.OpenShut
import Derived.Test.YtgpcilepkmckeaaGreatDoorCRelJoin
import Derived.Test.YtgpcilepkmckeaaGreatDoorCTextSmallK
import Derived.Test.YtgpcilepkmckeaaGreatDoorShelf
import Derived.Test.YtgpcilepkmckeaaGreatDoorCRelSingles
import Derived.Test.YtgpcilepkmckeaaGreatDoorCRecMem
import Derived.Test.YtgpcilepkmckeaaGreatDoorCRelLists
import Derived.Lib.AppendIntMem
import Derived.Deep.QuietTactic
import Derived.Test.YtgpcilepkmckeaaGreatDoorCRelDef
import Derived.Laws.Concat
import Derived.StillTailTactics
import Derived.Lib.SlBytesConst
import Derived.Deep.RegionHeld3
import Derived.BigQuiet
import Derived.Test.YtgpcilepkmckeaaGreatDoorCRecMay3
import Derived.Test.YtgpcilepkmckeaaGreatDoorCVerSignsK
import Derived.Test.YtgpcilepkmckeaaGreatDoorCHeld
import Derived.Test.YtgpcilepkmckeaaGreatDoorCVerRefParse
import Derived.Deep.WholeRow
import Derived.BigFrame
import Derived.Deep.CutRange
namespace Go.Proofs.YtgpcilepkmckeaaGreatDoor
open Go.RowKit
set_option linter.unusedVariables false

def bcells (zs:List Int):List Value:=zs.map (Value.int .u8)
@[simp] theorem bcells_length (zs:List Int):(bcells zs).length = zs.length:=by simp [bcells]
end Go.Proofs.YtgpcilepkmckeaaGreatDoor
namespace Go.Proofs.YtgpcilepkmckeaaGreatDoor
open Go.RowKit
set_option linter.unusedSimpArgs false
set_option linter.unusedVariables false
namespace Rc
open Rl (may)
theorem orI_all:∀ {l:List Int},(∀ x ∈ l,x = 0) → orI l = 0
 | [],_=>rfl
 | y :: l,h=>by
  unfold orI
  rw [if_neg (by simpa using h y (by simp))]
  exact orI_all fun x hx=>h x (List.mem_cons_of_mem _ hx)
end Rc
end Go.Proofs.YtgpcilepkmckeaaGreatDoor
namespace Go.Proofs.YtgpcilepkmckeaaGreatDoor
open Go.RowKit
set_option linter.unusedVariables false
set_option linter.unusedSimpArgs false
namespace Txt
theorem infoText:(Tryz.prog.info? 9).map (fun i=>(i.zero,i.size,i.bytes)) = some (some (.string ByteArray.empty),1,16):=by kernel_rfl
end Txt
end Go.Proofs.YtgpcilepkmckeaaGreatDoor
namespace Go.Proofs.YtgpcilepkmckeaaGreatDoor
open Go.RowKit
set_option linter.unusedSimpArgs false
set_option linter.unusedVariables false
namespace Rc
open Ver (S)
open Rl (Slc may)
theorem orI_at:∀ {l:List Int} {i:Nat} {M:Int},(∀ j,j < i → l.getD j 0 = 0) → l[i]? = some M → M ≠ 0 → orI l = M
 | [],i,M,_,h,_=>by simp at h
 | x :: r,0,M,_,h,hM=>by
  simp only [List.getElem?_cons_zero,Option.some.injEq] at h
  subst h
  unfold orI
  rw [if_pos hM]
 | x :: r,i + 1,M,hz,h,hM=>by
  have hx:x = 0:=by simpa using hz 0 (by omega)
  unfold orI
  rw [if_neg (by simpa using hx)]
  exact orI_at (i:=i) (fun j hj=>by simpa using hz (j + 1) (by omega)) (by simpa using h) hM
theorem slc_take {α:Type} {sz:Nat} {z:α} {P:World → Nat → Nat → α → Prop} {w:World} {a:Option Addr} {n cap:Nat} {l:List α} (h:Slc sz z P w (.slice a n cap) l) {i:Nat} (hi:i ≤ n):Slc sz z P w (.slice a i cap) (l.take i):=by
 obtain ⟨h0,a',c',e,hc,hr⟩:=h
 simp only [Value.slice.injEq] at e
 obtain ⟨rfl,rfl,rfl⟩:=e
 have hl:(l.take i).length = i:=by rw [List.length_take]; omega
 refine ⟨by omega,a,cap,by rw [hl],by omega,fun hp=>?_⟩
 obtain ⟨k,off,rfl,hat⟩:=hr (by omega)
 refine ⟨k,off,rfl,fun j hj=>?_⟩
 have hjl:j < l.length:=by omega
 have:=hat j hjl
 have e2:(l.take i).getD j z = l.getD j z:=by
  rw [List.getD_eq_getElem?_getD,List.getD_eq_getElem?_getD,List.getElem?_take,if_pos (by omega)]
 rw [e2]
 exact this
def PkB (w:World) (g:Nat) (x:Pk):Prop:=∃ a1 n1 c1 a2 n2 c2 a3 n3 c3 a4 n4 c4 a5 n5 c5 a6 n6 c6,Blk.Is w g 40 #[.string (S x.nm),.string (S x.vs),.slice a1 n1 c1,.slice a2 n2 c2,.slice a3 n3 c3,.slice a4 n4 c4,.slice a5 n5 c5,.slice a6 n6 c6,.bool x.ess] ∧ Has w x (.slice a1 n1 c1) (.slice a2 n2 c2) (.slice a3 n3 c3) (.slice a4 n4 c4) (.slice a5 n5 c5) (.slice a6 n6 c6)
theorem PkB.below {w w':World} {g:Nat} {x:Pk} (h:PkB w g x) (hb:Below w.heap.size w w'):PkB w' g x:=by
 obtain ⟨a1,n1,c1,a2,n2,c2,a3,n3,c3,a4,n4,c4,a5,n5,c5,a6,n6,c6,h1,h2⟩:=h
 exact ⟨a1,n1,c1,a2,n2,c2,a3,n3,c3,a4,n4,c4,a5,n5,c5,a6,n6,c6,Rl.is_on h1 hb,h2.below hb⟩
end Rc
end Go.Proofs.YtgpcilepkmckeaaGreatDoor
namespace Go.Proofs.YtgpcilepkmckeaaGreatDoor
open Go.RowKit
set_option linter.unusedSimpArgs false
set_option linter.unusedVariables false
namespace Rc
open Rl (Slc)
theorem infoPk:(Tryz.prog.info? 40).map (fun i=>(i.zero,i.size,i.bytes)) = some (some (.agg #[.string ByteArray.empty,.string ByteArray.empty,.slice none 0 0,.slice none 0 0,.slice none 0 0,.slice none 0 0,.slice none 0 0,.slice none 0 0,.bool false]),9,184):=by kernel_rfl
theorem infoEn:(Tryz.prog.info? 45).map (fun i=>(i.zero,i.size,i.bytes)) = some (some (.agg #[.string ByteArray.empty,.string ByteArray.empty,.slice none 0 0,.slice none 0 0,.slice none 0 0,.slice none 0 0,.slice none 0 0,.slice none 0 0,.bool false,.bool false,.bool false]),11,192):=by kernel_rfl
end Rc
end Go.Proofs.YtgpcilepkmckeaaGreatDoor
namespace Go.Proofs.YtgpcilepkmckeaaGreatDoor
open Go.RowKit
set_option linter.unusedSimpArgs false
set_option linter.unusedVariables false
namespace Ix
open Ver (holdsV)
open Rl (At Pv may)
open Rc (Pk)
def pmeets (a:At) (v:Pv):Bool:=decide (v.1 = a.1) && (decide (a.2.1 = 0) || holdsV a.2.1 v.2 a.2.2)
def sat (p:Pk) (a:At):Bool:=may a && ((decide (p.nm = a.1) && holdsV a.2.1 p.vs a.2.2) || p.prv.any (pmeets a))
def against (p q:Pk):Bool:=p.con.any (sat q) || p.brk.any (sat q)
def clash (p q:Pk):Bool:=!decide (p.nm = q.nm) && (against p q || against q p)
def LimAt (a:At):Prop:=a.1.length ≤ 140737488351232 ∧ a.2.2.length ≤ 140737488351232
def LimPv (v:Pv):Prop:=v.1.length ≤ 140737488351232 ∧ v.2.length ≤ 140737488351232
end Ix
end Go.Proofs.YtgpcilepkmckeaaGreatDoor

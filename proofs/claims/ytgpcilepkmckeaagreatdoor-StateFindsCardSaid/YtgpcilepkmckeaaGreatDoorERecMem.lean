/-
Packages and entries: what they are, which may be. The reference's Text (made by gen/relytext.py). Clauses that lie somewhere, appended onto a row of the call's own. Not too many: light. Packages, entries, values of fields in memory.
-/
import Derived.Test.YtgpcilepkmckeaaGreatDoorERelUni
import Derived.Test.YtgpcilepkmckeaaGreatDoorERelDef
import Derived.Test.YtgpcilepkmckeaaGreatDoorEVerRefParse
import Derived.Test.YtgpcilepkmckeaaGreatDoorERelOwn
import Derived.Laws.Concat
import Derived.Test.YtgpcilepkmckeaaGreatDoorEReg
import Derived.Deep.AppendSrc
import Derived.Test.YtgpcilepkmckeaaGreatDoorEVerParse2
import Derived.Test.YtgpcilepkmckeaaGreatDoorShelf
import Derived.Lib.AppendIntMem
import Derived.Deep.QuietTactic
namespace Go.Proofs.YtgpcilepkmckeaaGreatDoor
open Go.RowKit
set_option linter.unusedSimpArgs false
set_option linter.unusedVariables false
namespace Rc
open Ver (Bs)
open Rl (At Pv may nmB isV)
structure Pk where
 nm:Bs
 vs:Bs
 pre:List (List At)
 dep:List (List At)
 rcm:List (List At)
 con:List At
 brk:List At
 prv:List Pv
 ess:Bool
structure En where
 pk:Pk
 cfg:Bool
 hld:Bool
def nPk:Pk:=⟨[],[],[],[],[],[],[],[],false⟩
def nEn:En:=⟨nPk,false,false⟩
end Rc
end Go.Proofs.YtgpcilepkmckeaaGreatDoor
namespace Go.Proofs.YtgpcilepkmckeaaGreatDoor
open Go.RowKit
set_option linter.unusedSimpArgs false
set_option linter.unusedVariables false
namespace Rl
open Ver (Bs)
section
variable {α:Type} {f:α → Bs} {sep:Bs} {xs:List α}
theorem take_getD {i:Nat} (z:α) (h:i < xs.length):xs.take (i + 1) = xs.take i ++ [xs.getD i z]:=by
 rw [List.take_succ_eq_append_getElem h]
 simp [List.getD,List.getElem?_eq_getElem h]
end
theorem s2:(⟨#[44,32]⟩:ByteArray).size = 2:=rfl
theorem s3:(⟨#[32,124,32]⟩:ByteArray).size = 3:=rfl
end Rl
end Go.Proofs.YtgpcilepkmckeaaGreatDoor
namespace Go.Proofs.YtgpcilepkmckeaaGreatDoor
open Go.RowKit
set_option linter.unusedSimpArgs false
set_option linter.unusedVariables false
namespace Rl
end Rl
end Go.Proofs.YtgpcilepkmckeaaGreatDoor
namespace Go.Proofs.YtgpcilepkmckeaaGreatDoor
open Go.RowKit
set_option linter.unusedSimpArgs false
set_option linter.unusedVariables false
namespace Rl
def lightB (l:List (List At)):Bool:=decide (l.length ≤ 30) && l.all fun c=>decide (c.length ≤ 30)
theorem light_many {l:List (List At)} (h:30 < l.length):lightB l = false:=by
 unfold lightB
 rw [decide_eq_false (by omega)]
 rfl
theorem light_at {l:List (List At)} {i:Nat} (hi:i < l.length) (h:30 < (l.getD i []).length):lightB l = false:=by
 unfold lightB
 rw [Bool.and_eq_false_iff]
 right
 rw [List.all_eq_false]
 exact ⟨l[i],List.getElem_mem hi,by rw [show l[i] = l.getD i [] by simp [List.getD,List.getElem?_eq_getElem hi]]; simp only [decide_eq_true_eq]; omega⟩
theorem light_yes {l:List (List At)} (hl:l.length ≤ 30) (h:∀ i,i < l.length → (l.getD i []).length ≤ 30):lightB l = true:=by
 unfold lightB
 rw [decide_eq_true hl,Bool.true_and,List.all_eq_true]
 intro s hs
 obtain ⟨i,hi,rfl⟩:=List.mem_iff_getElem.1 hs
 have:=h i hi
 simpa [List.getD,List.getElem?_eq_getElem hi] using this
end Rl
end Go.Proofs.YtgpcilepkmckeaaGreatDoor
namespace Go.Proofs.YtgpcilepkmckeaaGreatDoor
open Go.RowKit
set_option linter.unusedSimpArgs false
set_option linter.unusedVariables false
namespace Rc
open Ver (S)
open Rl (Ats Pvs Clss Slc LimA LimP LimC)
structure Has (w:World) (p:Pk) (u1 u2 u3 u4 u5 u6:Value):Prop where
 pre:Clss w u1 p.pre
 dep:Clss w u2 p.dep
 rcm:Clss w u3 p.rcm
 con:Ats w u4 p.con
 brk:Ats w u5 p.brk
 prv:Pvs w u6 p.prv
theorem Has.below {w w':World} {p:Pk} {u1 u2 u3 u4 u5 u6:Value} (h:Has w p u1 u2 u3 u4 u5 u6) (hb:Below w.heap.size w w'):Has w' p u1 u2 u3 u4 u5 u6 :=
 ⟨h.pre.below hb,h.dep.below hb,h.rcm.below hb,h.con.below hb,h.brk.below hb,h.prv.below hb⟩
def PkC (w:World) (cs:List Value) (p:Pk):Prop:=∃ u1 u2 u3 u4 u5 u6,cs = [.string (S p.nm),.string (S p.vs),u1,u2,u3,u4,u5,u6,.bool p.ess] ∧ Has w p u1 u2 u3 u4 u5 u6
def EnC (w:World) (cs:List Value) (x:En):Prop:=∃ u1 u2 u3 u4 u5 u6,cs = [.string (S x.pk.nm),.string (S x.pk.vs),u1,u2,u3,u4,u5,u6,.bool x.pk.ess,.bool x.cfg,.bool x.hld] ∧ Has w x.pk u1 u2 u3 u4 u5 u6
theorem PkC.below {w w':World} {cs:List Value} {p:Pk} (h:PkC w cs p) (hb:Below w.heap.size w w'):PkC w' cs p:=by
 obtain ⟨u1,u2,u3,u4,u5,u6,e,h1⟩:=h
 exact ⟨u1,u2,u3,u4,u5,u6,e,h1.below hb⟩
theorem EnC.below {w w':World} {cs:List Value} {p:En} (h:EnC w cs p) (hb:Below w.heap.size w w'):EnC w' cs p:=by
 obtain ⟨u1,u2,u3,u4,u5,u6,e,h1⟩:=h
 exact ⟨u1,u2,u3,u4,u5,u6,e,h1.below hb⟩
theorem PkC.len {w:World} {cs:List Value} {p:Pk} (h:PkC w cs p):cs.length = 9:=by
 obtain ⟨u1,u2,u3,u4,u5,u6,e,h1⟩:=h
 rw [e]; rfl
theorem EnC.len {w:World} {cs:List Value} {p:En} (h:EnC w cs p):cs.length = 11:=by
 obtain ⟨u1,u2,u3,u4,u5,u6,e,h1⟩:=h
 rw [e]; rfl
def CAt {α:Type} (C:World → List Value → α → Prop) (w:World) (k o:Nat) (x:α):Prop:=∃ cs,C w cs x ∧ ∀ j u,cs[j]? = some u → w.cell? ⟨k,o + j,none⟩ = some u
theorem CAt.below {α:Type} {C:World → List Value → α → Prop} (hC:∀ w w' cs x,C w cs x → Below w.heap.size w w' → C w' cs x) {w w':World} {k o:Nat} {x:α} (h:CAt C w k o x) (hb:Below w.heap.size w w'):CAt C w' k o x:=by
 obtain ⟨cs,h1,h2⟩:=h
 exact ⟨cs,hC _ _ _ _ h1 hb,fun j u hj=>Rl.cell_on (h2 j u hj) hb⟩
def Pks:World → Value → List Pk → Prop:=Slc 9 nPk (CAt PkC)
def Ens:World → Value → List En → Prop:=Slc 11 nEn (CAt EnC)
theorem Pks.below {w w':World} {v:Value} {l:List Pk} (h:Pks w v l) (hb:Below w.heap.size w w'):Pks w' v l :=
 Slc.below (P:=CAt PkC) (fun _ _ _ _ _ h hb=>CAt.below (C:=PkC) (fun _ _ _ _ h hb=>PkC.below h hb) h hb) h hb
theorem Ens.below {w w':World} {v:Value} {l:List En} (h:Ens w v l) (hb:Below w.heap.size w w'):Ens w' v l :=
 Slc.below (P:=CAt EnC) (fun _ _ _ _ _ h hb=>CAt.below (C:=EnC) (fun _ _ _ _ h hb=>EnC.below h hb) h hb) h hb
structure Pk.Lim (p:Pk):Prop where
 nm:p.nm.length ≤ 140737488351232
 vs:p.vs.length ≤ 140737488351232
 pre:LimC p.pre
 dep:LimC p.dep
 rcm:LimC p.rcm
 con:LimA p.con
 brk:LimA p.brk
 prv:LimP p.prv
theorem pk_read {w:World} {b o:Nat} {p:Pk} (h:CAt PkC w b o p):∃ a1 n1 c1 a2 n2 c2 a3 n3 c3 a4 n4 c4 a5 n5 c5 a6 n6 c6,(w.cell? ⟨b,o,none⟩ = some (.string (S p.nm)) ∧ w.cell? ⟨b,o + 1,none⟩ = some (.string (S p.vs)) ∧ w.cell? ⟨b,o + 2,none⟩ = some (.slice a1 n1 c1) ∧ w.cell? ⟨b,o + 3,none⟩ = some (.slice a2 n2 c2) ∧ w.cell? ⟨b,o + 4,none⟩ = some (.slice a3 n3 c3) ∧ w.cell? ⟨b,o + 5,none⟩ = some (.slice a4 n4 c4) ∧ w.cell? ⟨b,o + 6,none⟩ = some (.slice a5 n5 c5) ∧ w.cell? ⟨b,o + 7,none⟩ = some (.slice a6 n6 c6) ∧ w.cell? ⟨b,o + 8,none⟩ = some (.bool p.ess)) ∧ Has w p (.slice a1 n1 c1) (.slice a2 n2 c2) (.slice a3 n3 c3) (.slice a4 n4 c4) (.slice a5 n5 c5) (.slice a6 n6 c6):=by
 obtain ⟨cs,⟨u1,u2,u3,u4,u5,u6,rfl,h1⟩,h2⟩:=h
 obtain ⟨a1,c1,rfl⟩:=h1.pre.shape
 obtain ⟨a2,c2,rfl⟩:=h1.dep.shape
 obtain ⟨a3,c3,rfl⟩:=h1.rcm.shape
 obtain ⟨a4,c4,rfl⟩:=h1.con.shape
 obtain ⟨a5,c5,rfl⟩:=h1.brk.shape
 obtain ⟨a6,c6,rfl⟩:=h1.prv.shape
 exact ⟨_,_,_,_,_,_,_,_,_,_,_,_,_,_,_,_,_,_,⟨h2 0 _ rfl,h2 1 _ rfl,h2 2 _ rfl,h2 3 _ rfl,h2 4 _ rfl,h2 5 _ rfl,h2 6 _ rfl,h2 7 _ rfl,h2 8 _ rfl⟩,h1⟩
theorem en_read {w:World} {b o:Nat} {p:En} (h:CAt EnC w b o p):∃ a1 n1 c1 a2 n2 c2 a3 n3 c3 a4 n4 c4 a5 n5 c5 a6 n6 c6,(w.cell? ⟨b,o,none⟩ = some (.string (S p.pk.nm)) ∧ w.cell? ⟨b,o + 1,none⟩ = some (.string (S p.pk.vs)) ∧ w.cell? ⟨b,o + 2,none⟩ = some (.slice a1 n1 c1) ∧ w.cell? ⟨b,o + 3,none⟩ = some (.slice a2 n2 c2) ∧ w.cell? ⟨b,o + 4,none⟩ = some (.slice a3 n3 c3) ∧ w.cell? ⟨b,o + 5,none⟩ = some (.slice a4 n4 c4) ∧ w.cell? ⟨b,o + 6,none⟩ = some (.slice a5 n5 c5) ∧ w.cell? ⟨b,o + 7,none⟩ = some (.slice a6 n6 c6) ∧ w.cell? ⟨b,o + 8,none⟩ = some (.bool p.pk.ess) ∧ w.cell? ⟨b,o + 9,none⟩ = some (.bool p.cfg) ∧ w.cell? ⟨b,o + 10,none⟩ = some (.bool p.hld)) ∧ Has w p.pk (.slice a1 n1 c1) (.slice a2 n2 c2) (.slice a3 n3 c3) (.slice a4 n4 c4) (.slice a5 n5 c5) (.slice a6 n6 c6):=by
 obtain ⟨cs,⟨u1,u2,u3,u4,u5,u6,rfl,h1⟩,h2⟩:=h
 obtain ⟨a1,c1,rfl⟩:=h1.pre.shape
 obtain ⟨a2,c2,rfl⟩:=h1.dep.shape
 obtain ⟨a3,c3,rfl⟩:=h1.rcm.shape
 obtain ⟨a4,c4,rfl⟩:=h1.con.shape
 obtain ⟨a5,c5,rfl⟩:=h1.brk.shape
 obtain ⟨a6,c6,rfl⟩:=h1.prv.shape
 exact ⟨_,_,_,_,_,_,_,_,_,_,_,_,_,_,_,_,_,_,⟨h2 0 _ rfl,h2 1 _ rfl,h2 2 _ rfl,h2 3 _ rfl,h2 4 _ rfl,h2 5 _ rfl,h2 6 _ rfl,h2 7 _ rfl,h2 8 _ rfl,h2 9 _ rfl,h2 10 _ rfl⟩,h1⟩
end Rc
end Go.Proofs.YtgpcilepkmckeaaGreatDoor

/-
readList of atoms. The reader of package relation: a clause, what is provided. readList of what is provided. readList of clauses. Atoms, clauses, provides in memory, read alone.
-/
import Derived.Test.YtgpcilepkmckeaaDoorARelOwn
import Derived.Test.YtgpcilepkmckeaaDoorARelDef
namespace Go.Proofs.YtgpcilepkmckeaaDoor
open Go.RowKit
set_option linter.unusedSimpArgs false
set_option linter.unusedVariables false
namespace Rl
open Ver (Bs S)
def pre {α:Type} (ds:List α):Except Int (List α × Bs) → Except Int (List α × Bs)
 | .error e=>.error e
 | .ok (xs,r)=>.ok (ds ++ xs,r)
end Rl
end Go.Proofs.YtgpcilepkmckeaaDoor
namespace Go.Proofs.YtgpcilepkmckeaaDoor
open Go.RowKit
set_option linter.unusedSimpArgs false
set_option linter.unusedVariables false
namespace Rl
open Ver (Bs S)
def pV (a:Pv):Value:=.agg #[.string (S a.1),.string (S a.2)]
end Rl
end Go.Proofs.YtgpcilepkmckeaaDoor
namespace Go.Proofs.YtgpcilepkmckeaaDoor
open Go.RowKit
set_option linter.unusedSimpArgs false
set_option linter.unusedVariables false
namespace Rl
open Ver (Bs S)
end Rl
end Go.Proofs.YtgpcilepkmckeaaDoor
namespace Go.Proofs.YtgpcilepkmckeaaDoor
open Go.RowKit
set_option linter.unusedSimpArgs false
set_option linter.unusedVariables false
namespace Rl
open Ver (Bs S)
end Rl
end Go.Proofs.YtgpcilepkmckeaaDoor
namespace Go.Proofs.YtgpcilepkmckeaaDoor
open Go.RowKit
set_option linter.unusedSimpArgs false
set_option linter.unusedVariables false
namespace Rl
open Ver (Bs S)
def nA:At:=([],0,[])
def nP:Pv:=([],[])
def AtAt (w:World) (k o:Nat) (a:At):Prop:=w.cell? ⟨k,o,none⟩ = some (.string (S a.1)) ∧ w.cell? ⟨k,o + 1,none⟩ = some (.int .i64 a.2.1) ∧ w.cell? ⟨k,o + 2,none⟩ = some (.string (S a.2.2))
def PvAt (w:World) (k o:Nat) (a:Pv):Prop:=w.cell? ⟨k,o,none⟩ = some (.string (S a.1)) ∧ w.cell? ⟨k,o + 1,none⟩ = some (.string (S a.2))
def Slc {α:Type} (sz:Nat) (z:α) (P:World → Nat → Nat → α → Prop) (w:World) (v:Value) (l:List α):Prop :=
 l.length ≤ 1152921504606846976 ∧ ∃ a cap,v = .slice a l.length cap ∧ l.length ≤ cap ∧ (0 < l.length → ∃ k off,a = some ⟨k,off,none⟩ ∧ ∀ i,i < l.length → P w k (off + sz * i) (l.getD i z))
def Ats:World → Value → List At → Prop:=Slc 3 nA AtAt
def Pvs:World → Value → List Pv → Prop:=Slc 2 nP PvAt
def ClAt (w:World) (k o:Nat) (c:List At):Prop:=∃ u,w.cell? ⟨k,o,none⟩ = some u ∧ Ats w u c
def Clss:World → Value → List (List At) → Prop:=Slc 1 [] ClAt
theorem Slc.below {α:Type} {sz:Nat} {z:α} {P:World → Nat → Nat → α → Prop} (hP:∀ w w' k o x,P w k o x → Below w.heap.size w w' → P w' k o x) {w w':World} {v:Value} {l:List α} (h:Slc sz z P w v l) (hb:Below w.heap.size w w'):Slc sz z P w' v l:=by
 obtain ⟨h0,a,cap,h1,h2,h3⟩:=h
 refine ⟨h0,a,cap,h1,h2,fun hl=>?_⟩
 obtain ⟨k,off,h4,h5⟩:=h3 hl
 exact ⟨k,off,h4,fun i hi=>hP _ _ _ _ _ (h5 i hi) hb⟩
theorem cell_on {w w':World} {p:Addr} {v:Value} (h:w.cell? p = some v) (hb:Below w.heap.size w w'):w'.cell? p = some v:=by rw [hb.cell (Ver.lt_cell h)]; exact h
theorem AtAt.below {w w':World} {k o:Nat} {a:At} (h:AtAt w k o a) (hb:Below w.heap.size w w'):AtAt w' k o a:=⟨cell_on h.1 hb,cell_on h.2.1 hb,cell_on h.2.2 hb⟩
theorem PvAt.below {w w':World} {k o:Nat} {a:Pv} (h:PvAt w k o a) (hb:Below w.heap.size w w'):PvAt w' k o a:=⟨cell_on h.1 hb,cell_on h.2 hb⟩
theorem Ats.below {w w':World} {v:Value} {l:List At} (h:Ats w v l) (hb:Below w.heap.size w w'):Ats w' v l:=Slc.below (fun _ _ _ _ _ h hb=>h.below hb) h hb
theorem Pvs.below {w w':World} {v:Value} {l:List Pv} (h:Pvs w v l) (hb:Below w.heap.size w w'):Pvs w' v l:=Slc.below (fun _ _ _ _ _ h hb=>h.below hb) h hb
theorem ClAt.below {w w':World} {k o:Nat} {c:List At} (h:ClAt w k o c) (hb:Below w.heap.size w w'):ClAt w' k o c:=by
 obtain ⟨u,h1,h2⟩:=h
 exact ⟨u,cell_on h1 hb,h2.below hb⟩
theorem Clss.below {w w':World} {v:Value} {l:List (List At)} (h:Clss w v l) (hb:Below w.heap.size w w'):Clss w' v l:=Slc.below (fun _ _ _ _ _ h hb=>h.below hb) h hb
theorem Slc.shape {α:Type} {sz:Nat} {z:α} {P:World → Nat → Nat → α → Prop} {w:World} {v:Value} {l:List α} (h:Slc sz z P w v l):∃ a cap,v = .slice a l.length cap:=by
 obtain ⟨_,a,cap,h1,_⟩:=h
 exact ⟨a,cap,h1⟩
theorem Slc.none {α:Type} (sz:Nat) (z:α) (P:World → Nat → Nat → α → Prop) (w:World):Slc sz z P w (.slice none 0 0) []:=⟨by simp,_,_,rfl,Nat.le_refl _,fun h=>absurd h (by simp)⟩
theorem flat_at {α:Type} (f:α → List Value) (m:Nat) (hf:∀ x,(f x).length = m):∀ (l:List α) (i j:Nat) (x:α),l[i]? = some x → j < m → (l.flatMap f)[m * i + j]? = (f x)[j]?
 | [],i,j,x,h,_=>by simp at h
 | y :: l,0,j,x,h,hj=>by
  simp at h
  subst h
  rw [List.flatMap_cons,Nat.mul_zero,Nat.zero_add,List.getElem?_append_left (by rw [hf]; exact hj)]
 | y :: l,i + 1,j,x,h,hj=>by
  simp at h
  rw [List.flatMap_cons,List.getElem?_append_right (by rw [hf,Nat.mul_add]; omega),hf,show m * (i + 1) + j - m = m * i + j by rw [Nat.mul_add]; omega]
  exact flat_at f m hf l i j x h hj
theorem at_getD {α:Type} {l:List α} {z:α} {i:Nat} (hi:i < l.length):l[i]? = some (l.getD i z):=by simp [List.getD,List.getElem?_eq_getElem hi]
def LimA (l:List At):Prop:=∀ a ∈ l,a.1.length ≤ 140737488351232 ∧ a.2.2.length ≤ 140737488351232
def LimP (l:List Pv):Prop:=∀ a ∈ l,a.1.length ≤ 140737488351232 ∧ a.2.length ≤ 140737488351232
def LimC (l:List (List At)):Prop:=∀ c ∈ l,LimA c
theorem mem_getD {α:Type} {l:List α} {z:α} {i:Nat} (hi:i < l.length):l.getD i z ∈ l:=by simp [List.getD,List.getElem?_eq_getElem hi]
end Rl
end Go.Proofs.YtgpcilepkmckeaaDoor

/-
What is told of lists and packages in memory holds as long as the cells do.
-/
import Derived.Test.YtelofmeapplfpaaGreatDoorCIxDef
namespace Go.Proofs.YtelofmeapplfpaaGreatDoor
open Go.RowKit
set_option linter.unusedSimpArgs false
set_option linter.unusedVariables false
namespace Ix
open Rl (At Pv Ats Pvs Clss Slc AtAt PvAt ClAt)
open Rc (Pk nPk PkV PkC Pks Has CAt)
def Kp (w u:World):Prop:=∀ p v,w.cell? p = some v → u.cell? p = some v
theorem Kp.refl (w:World):Kp w w:=fun _ _ h=>h
theorem Kp.trans {a b c:World} (h:Kp a b) (k:Kp b c):Kp a c:=fun p v hv=>k p v (h p v hv)
theorem Kp.below {w u:World} (h:Below w.heap.size w u):Kp w u:=fun p v hv=>Rl.cell_on hv h
theorem Kp.maps {w u:World} {Q:Nat → Prop} (h:Blk.Chg Q w u) (hm:∀ k,k < w.heap.size → Q k → ∃ es c,w.heap[k]? = some (.map es c)):Kp w u:=fun p v hv=>by
 have hl:=Ver.lt_cell hv
 by_cases hq:Q p.block
 ·obtain ⟨es,c,e⟩:=hm _ hl hq
  unfold World.cell? at hv
  rw [e] at hv
  cases hv
 ·rw [World.cell?_of_block (h.block _ hl hq)]
  exact hv
theorem slc_kp {α:Type} {sz:Nat} {z:α} {P:World → Nat → Nat → α → Prop} {w u:World} (hP:∀ k o x,P w k o x → P u k o x) {v:Value} {l:List α} (h:Slc sz z P w v l):Slc sz z P u v l:=by
 obtain ⟨h0,a,cap,h1,h2,h3⟩:=h
 refine ⟨h0,a,cap,h1,h2,fun hl=>?_⟩
 obtain ⟨k,off,h4,h5⟩:=h3 hl
 exact ⟨k,off,h4,fun i hi=>hP _ _ _ (h5 i hi)⟩
theorem Kp.ats {w u:World} (h:Kp w u) {v:Value} {l:List At} (k:Ats w v l):Ats u v l:=slc_kp (P:=AtAt) (fun _ _ _ ⟨a,b,c⟩=>⟨h _ _ a,h _ _ b,h _ _ c⟩) k
theorem Kp.pvs {w u:World} (h:Kp w u) {v:Value} {l:List Pv} (k:Pvs w v l):Pvs u v l:=slc_kp (P:=PvAt) (fun _ _ _ ⟨a,b⟩=>⟨h _ _ a,h _ _ b⟩) k
theorem Kp.clss {w u:World} (h:Kp w u) {v:Value} {l:List (List At)} (k:Clss w v l):Clss u v l:=slc_kp (P:=ClAt) (fun _ _ _ ⟨x,a,b⟩=>⟨x,h _ _ a,h.ats b⟩) k
theorem Kp.has {w u:World} (h:Kp w u) {p:Pk} {u1 u2 u3 u4 u5 u6:Value} (k:Has w p u1 u2 u3 u4 u5 u6):Has u p u1 u2 u3 u4 u5 u6 :=
 ⟨h.clss k.pre,h.clss k.dep,h.clss k.rcm,h.ats k.con,h.ats k.brk,h.pvs k.prv⟩
theorem Kp.pkc {w u:World} (h:Kp w u) {cs:List Value} {p:Pk} (k:PkC w cs p):PkC u cs p:=by
 obtain ⟨u1,u2,u3,u4,u5,u6,e,hh⟩:=k
 exact ⟨u1,u2,u3,u4,u5,u6,e,h.has hh⟩
theorem Kp.pks {w u:World} (h:Kp w u) {v:Value} {l:List Pk} (k:Pks w v l):Pks u v l:=slc_kp (P:=CAt PkC) (fun _ _ _ ⟨cs,a,b⟩=>⟨cs,h.pkc a,fun j y hj=>h _ _ (b j y hj)⟩) k
end Ix
end Go.Proofs.YtelofmeapplfpaaGreatDoor

/-
Relations as lists of bytes: how an atom, a clause, a relation is read, by the code's way and by the reference's; that both tell the same. No program is named here. How atoms, clauses, relations are written, as lists of bytes. No program is named here.
-/
import Derived.Test.YtgpcilepkmckeaaGreatDoorCVerDef
import Derived.Lib.Join
namespace Go.Proofs.YtgpcilepkmckeaaGreatDoor
set_option linter.unusedSimpArgs false
set_option linter.unusedVariables false
namespace Rl
open Ver (Bs)
abbrev At:=Bs × Int × Bs
def wh (c:UInt8):Bool:=decide (c = 32) || decide (c = 9)
def sg (c:UInt8):Bool:=decide (c = 60) || decide (c = 61) || decide (c = 62)
def mk (c:UInt8):Bool:=decide (c = 44) || decide (c = 124) || decide (c = 40) || decide (c = 41)
def wd (c:UInt8):Bool:=!wh c && !sg c && !mk c
def lds (c:UInt8):Bool:=(decide (97 ≤ c) && decide (c ≤ 122)) || (decide (48 ≤ c) && decide (c ≤ 57))
def mrs (c:UInt8):Bool:=decide (c = 43) || decide (c = 45) || decide (c = 46)
def nch (c:UInt8):Bool:=lds c || mrs c
def nmB:Bs → Bool
 | []=>false
 | c :: r=>decide (1 ≤ r.length ∧ r.length ≤ 23) && lds c && r.all nch
def isV (v:Bs):Bool:=(Ver.parse v).isSome
def skip (l:Bs):Bs:=l.dropWhile wh
def relN (s:Bs):Int:=if s = [60,60] then 1 else if s = [60,61] then 2 else if s = [61] then 3 else if s = [62,61] then 4 else if s = [62,62] then 5 else 0
def sgnN (r:Int):Bs:=if r = 1 then [60,60] else if r = 2 then [60,61] else if r = 3 then [61] else if r = 4 then [62,61] else if r = 5 then [62,62] else []
def may (a:At):Bool:=nmB a.1 && (if a.2.1 = 0 then a.2.2.isEmpty else decide (1 ≤ a.2.1 ∧ a.2.1 ≤ 5) && isV a.2.2)
def tk (c:UInt8):Bs → Option Bs
 | []=>none
 | x :: r=>if x = c then some (skip r) else none
def atom (l:Bs):Option (At × Bs) :=
 match tk 40 (skip (l.dropWhile wd)) with
 | none=>if may (l.takeWhile wd,0,[]) = true then some ((l.takeWhile wd,0,[]),skip (l.dropWhile wd)) else none
 | some l2 =>
  if relN (l2.takeWhile sg) = 0 then none else
  match tk 41 (skip ((skip (l2.dropWhile sg)).dropWhile wd)) with
  | none=>none
  | some l5=>if may (l.takeWhile wd,relN (l2.takeWhile sg),(skip (l2.dropWhile sg)).takeWhile wd) = true then some ((l.takeWhile wd,relN (l2.takeWhile sg),(skip (l2.dropWhile sg)).takeWhile wd),l5) else none
section
variable {α:Type}
end
abbrev Pv:=Bs × Bs
def prv (e:Except Int (At × Bs)):Except Int (Pv × Bs):=match e with
 | .error _=>.error 3
 | .ok (a,r)=>if a.2.1 = 0 ∨ a.2.1 = 3 then .ok ((a.1,a.2.2),r) else .error 3
/-! ### the same -/
def Stuck (r:Bs):Prop:=r ≠ [] ∧ tk 44 r = none ∧ tk 124 r = none
def R {α:Type} (c y:Except Int (α × Bs)):Prop:=c = y ∨ (y = .error 3 ∧ ∃ x r,c = .ok (x,r) ∧ Stuck r)
/-! ### one atom -/
def one (s:Bs):Option At:=match atom (skip s) with
 | some (a,[])=>some a
 | _=>none
end Rl
end Go.Proofs.YtgpcilepkmckeaaGreatDoor
namespace Go.Proofs.YtgpcilepkmckeaaGreatDoor
set_option linter.unusedSimpArgs false
set_option linter.unusedVariables false
namespace Rl
open Ver (Bs)
def pvA (p:Pv):At:=(p.1,if p.2 = [] then 0 else 3,p.2)
end Rl
end Go.Proofs.YtgpcilepkmckeaaGreatDoor

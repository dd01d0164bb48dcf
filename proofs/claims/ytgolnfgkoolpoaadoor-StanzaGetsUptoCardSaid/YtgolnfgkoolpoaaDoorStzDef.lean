/-
Stanzas as lists of bytes: what reading takes from a line, what printing makes of a field, and why it refuses one. No program is named here.
-/
import Derived.Test.YtgolnfgkoolpoaaDoorWordsGo
namespace Go.Proofs.YtgolnfgkoolpoaaDoor
set_option linter.unusedSimpArgs false
set_option linter.unusedVariables false
namespace Stz
open Txt (W trimL trimRight trimLeft)
abbrev Bs := List UInt8
/-- A field: its name, its texts. -/
abbrev Fld := Bs × List Bs
/-- A stanza: its line, its fields. -/
abbrev Sz := Int × List Fld
def low (c : UInt8) : UInt8 := if 65 ≤ c ∧ c ≤ 90 then c + 32 else c
def sameB (a b : Bs) : Bool := a.map low == b.map low
def sgn (c : UInt8) : Bool := decide (33 ≤ c) && decide (c ≤ 126) && !decide (c = 58)
def nameB : Bs → Bool
  | [] => false
  | c :: r => sgn c && !decide (c = 35) && !decide (c = 45) && r.all sgn
/-- What stands ahead of the first colon, and behind it. -/
def cutL : Bs → Option (Bs × Bs)
  | [] => none
  | c :: r => if c = 58 then some ([], r) else (cutL r).map fun p => (c :: p.1, p.2)
def further (l : Bs) : Bs := if trimRight l = [46] then [] else trimRight l
/-- What has been read: the stanzas that are ended, and the one that is not: its line, its fields ahead of the last one, that one. -/
structure Zip where
  done : List Sz
  cur : Option (Int × List Fld × Fld)
def Zip.close (z : Zip) : Zip := match z.cur with
  | none => z
  | some (n, fs, f) => ⟨z.done ++ [(n, fs ++ [f])], none⟩
def Zip.all (z : Zip) : List Sz := z.close.done
/-- A line that goes on with the text behind its first sign. -/
def goOn (z : Zip) (x : Bs) : Except Nat Zip := match z.cur with
  | none => .error 3
  | some (n, fs, (nm, ls)) => .ok ⟨z.done, some (n, fs, (nm, ls ++ [further x]))⟩
def begin (z : Zip) (nm r : Bs) (n : Int) : Except Nat Zip := match z.cur with
  | none => if z.done.length = 200 then .error 12 else .ok ⟨z.done, some (n, [], (nm, [trimL r]))⟩
  | some (k, fs, f) => if fs.length + 1 = 40 then .error 12 else if (fs ++ [f]).any (fun g => sameB g.1 nm) then .error 4 else .ok ⟨z.done, some (k, fs ++ [f], (nm, [trimL r]))⟩
def field (z : Zip) (x : Bs) (n : Int) : Except Nat Zip := match cutL x with
  | none => .error 3
  | some (nm, r) => if nameB nm then begin z nm r n else .error 3
/-- One more line. -/
def take (z : Zip) (x : Bs) (n : Int) : Except Nat Zip :=
  if x.head? = some 35 then .ok z
  else if trimL x = [] then .ok z.close
  else if W (x.headD 0) = true then goOn z x.tail
  else field z x n
/-- Lines, from the nth on: the error and its line, or what has been read. -/
def run (z : Zip) : Nat → List Bs → Except (Nat × Nat) Zip
  | _, [] => .ok z
  | n, x :: r => match take z x n with
    | .error e => .error (e, n)
    | .ok z' => run z' (n + 1) r
def start : Zip := ⟨[], none⟩
/-- The stanzas of lines; the error and its line. -/
def parse (ls : List Bs) : List Sz × Nat × Nat := match run start 1 ls with
  | .error (e, n) => ([], e, n)
  | .ok z => (z.all, 0, 0)

/-! ### printing -/
def firstLine (nm x : Bs) : Bs := if x = [] then nm ++ [58] else nm ++ 58 :: 32 :: x
def nextLine (x : Bs) : Bs := if x = [] then [32, 46] else 32 :: x
def lineAt (f : Fld) (i : Nat) : Bs := if i = 0 then firstLine f.1 (f.2.getD 0 []) else nextLine (f.2.getD i [])
def fieldLines (f : Fld) : List Bs := match f.2 with
  | [] => []
  | x :: r => firstLine f.1 x :: r.map nextLine
def stanzaLines (fs : List Fld) : List Bs := fs.flatMap fieldLines
def allLines : List Sz → List Bs
  | [] => []
  | [s] => stanzaLines s.2
  | s :: t :: r => stanzaLines s.2 ++ [] :: allLines (t :: r)
def goodL (l : Bs) : Prop := Txt.good ⟨l.toArray⟩ = -1
instance (l : Bs) : Decidable (goodL l) := inferInstanceAs (Decidable (_ = _))
def firstOK (x : Bs) : Bool := decide (goodL x) && (trimL x == x)
def nextOK (x : Bs) : Bool := decide (goodL x) && (further x == x)
def textsOK : List Bs → Bool
  | [] => false
  | x :: r => firstOK x && r.all nextOK
/-- Why may f not stand behind these? -/
def fieldErr (ahead : List Fld) (f : Fld) : Nat :=
  if (nameB f.1 && textsOK f.2) = false then 3
  else if ahead.any (fun g => sameB g.1 f.1) = true then 4
  else if (fieldLines f).any (fun x => decide (1000 < x.length)) = true then 2
  else 0
def fieldsErr (ahead : List Fld) : List Fld → Nat
  | [] => 0
  | f :: r => if fieldErr ahead f ≠ 0 then fieldErr ahead f else fieldsErr (ahead ++ [f]) r
def stanzaErr (s : Sz) : Nat := if s.2 = [] ∨ 40 < s.2.length then 12 else fieldsErr [] s.2
def eachErr : List Sz → Nat
  | [] => 0
  | s :: r => if stanzaErr s ≠ 0 then stanzaErr s else eachErr r
def listErr (l : List Sz) : Nat := if 200 < l.length then 12 else eachErr l
/-- Lines put together. -/
def fl : List Bs → Bs
  | [] => []
  | x :: r => x ++ 10 :: fl r
def print (l : List Sz) : Bs × Nat := if listErr l ≠ 0 then ([], listErr l) else if 65536 < (fl (allLines l)).length then ([], 2) else (fl (allLines l), 0)
/-- The same but for the line. -/
def Like (a b : List Sz) : Prop := a.map (·.2) = b.map (·.2)
end Stz
end Go.Proofs.YtgolnfgkoolpoaaDoor

/-
Entries in a row of the call's own that is written in place: the cells of each, and where their lists lie. Which entries meet a clause: meets, isMet. configured: packages as entries that are all configured; Healthy.
-/
import Derived.Test.YtmhpjjjjgakpiaaGreatDoorCRecBare
import Derived.Deep.MidRow
import Derived.Test.YtmhpjjjjgakpiaaGreatDoorCTextTexts
import Derived.Test.YtmhpjjjjgakpiaaGreatDoorCRecMay
import Derived.Test.YtmhpjjjjgakpiaaGreatDoorShelf
import Derived.Shelf.Slices.CompactS
import Derived.OrdersHeld
namespace Go.Proofs.YtmhpjjjjgakpiaaGreatDoor
open Go.RowKit
set_option linter.unusedSimpArgs false
set_option linter.unusedVariables false
namespace Sa
open Ver (S)
open Rc (En nEn Has)
structure Ee where
 en:En
 u1:Value
 u2:Value
 u3:Value
 u4:Value
 u5:Value
 u6:Value
 sl:∀ u ∈ [u1,u2,u3,u4,u5,u6],∃ a n c,u = Value.slice a n c
instance:Inhabited Ee:=⟨⟨nEn,.slice none 0 0,.slice none 0 0,.slice none 0 0,.slice none 0 0,.slice none 0 0,.slice none 0 0,fun u hu=>by simp at hu; exact ⟨none,0,0,hu⟩⟩⟩
theorem get_getD {α:Type} {l:List α} {i:Nat} {x:α} (h:l[i]? = some x) (z:α):l.getD i z = x:=by rw [List.getD_eq_getElem?_getD,h]; rfl
end Sa
end Go.Proofs.YtmhpjjjjgakpiaaGreatDoor
namespace Go.Proofs.YtmhpjjjjgakpiaaGreatDoor
open Go.RowKit
set_option linter.unusedSimpArgs false
set_option linter.unusedVariables false
namespace Sa
open Ver (S)
open Rl (At Ats LimA Vars aV nA mem_getD)
open Rc (Pk PkV PkB)
open Ix (sat LimAt satisfies_any)
end Sa
end Go.Proofs.YtmhpjjjjgakpiaaGreatDoor
namespace Go.Proofs.YtmhpjjjjgakpiaaGreatDoor
open Go.RowKit
set_option linter.unusedSimpArgs false
set_option linter.unusedVariables false
namespace Sa
open Rc (Pk)
theorem take_snoc {α:Type} {l:List α} {z:α} {k:Nat} (hk:k < l.length):l.take (k + 1) = l.take k ++ [l.getD k z]:=by
 rw [List.getD_eq_getElem?_getD,List.getElem?_eq_getElem hk,Option.getD_some,List.take_append_getElem hk]
end Sa
end Go.Proofs.YtmhpjjjjgakpiaaGreatDoor

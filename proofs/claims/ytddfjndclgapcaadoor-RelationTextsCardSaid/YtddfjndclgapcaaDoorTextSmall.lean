/-
The small functions of package text and of its reference: signs by runes and by bytes; is a byte at a place; how long a character is.
-/
import Derived.Test.YtddfjndclgapcaaDoorProg
import Derived.Test.YtddfjndclgapcaaDoorShelf
import Derived.Test.YtddfjndclgapcaaDoorTextUtf
import Derived.WalkKit
import Derived.ProofKit
import Derived.Below
import Derived.Lib.Hide
namespace Go.Proofs.YtddfjndclgapcaaDoor
open Go.RowKit
set_option linter.unusedSimpArgs false
set_option linter.unusedVariables false
namespace Txt
def ctl (r : Nat) : Bool := (decide (r < 32) && !decide (r = 9)) || decide (r = 127)
def wht (r : Nat) : Bool := decide (r = 32) || decide (r = 9)
def ltr (r : Nat) : Bool := decide (97 ≤ r) && decide (r ≤ 122)
def dgt (r : Nat) : Bool := decide (48 ≤ r) && decide (r ≤ 57)
def mrk (r : Nat) : Bool := decide (r = 43) || decide (r = 45) || decide (r = 46)
theorem ret_bool {a b : Bool} {w : World} (h : a = true ↔ b = true) : Ending.returned (Value.bool a) = Ending.returned (.bool b) ∧ w = w := ⟨by rw [Bool.eq_iff_iff.2 h], rfl⟩
theorem letter_any (r : Nat) (w : World) : Calls Tryd.prog 64 #[.int .i32 r] w fun e w' => e = .returned (.bool (ltr r)) ∧ w' = w := by
  go_enter Tryd.func64, Tryd.ntmps64
  go_wp2_with fail
  all_goals
    go_ret
    refine ret_bool ?_
    simp [ltr]
    try omega
theorem digit_any (r : Nat) (w : World) : Calls Tryd.prog 65 #[.int .i32 r] w fun e w' => e = .returned (.bool (dgt r)) ∧ w' = w := by
  go_enter Tryd.func65, Tryd.ntmps65
  go_wp2_with fail
  all_goals
    go_ret
    refine ret_bool ?_
    simp [dgt]
    try omega
theorem mark_any (r : Nat) (w : World) : Calls Tryd.prog 66 #[.int .i32 r] w fun e w' => e = .returned (.bool (mrk r)) ∧ w' = w := by
  go_enter Tryd.func66, Tryd.ntmps66
  go_wp2_with fail
  all_goals
    go_ret
    refine ret_bool ?_
    simp [mrk]
    try omega
theorem ywhite_any (r : Nat) (w : World) : Calls Tryd.prog 54 #[.int .u8 r] w fun e w' => e = .returned (.bool (wht r)) ∧ w' = w := by
  go_enter Tryd.func54, Tryd.ntmps54
  go_wp2_with fail
  all_goals
    go_ret
    refine ret_bool ?_
    simp [wht]
    try omega
theorem ydigit_any (r : Nat) (w : World) : Calls Tryd.prog 71 #[.int .u8 r] w fun e w' => e = .returned (.bool (dgt r)) ∧ w' = w := by
  go_enter Tryd.func71, Tryd.ntmps71
  go_wp2_with fail
  all_goals
    go_ret
    refine ret_bool ?_
    simp [dgt]
    try omega
theorem ysmall_any (r : Nat) (w : World) : Calls Tryd.prog 70 #[.int .u8 r] w fun e w' => e = .returned (.bool (ltr r)) ∧ w' = w := by
  go_enter Tryd.func70, Tryd.ntmps70
  go_wp2_with fail
  all_goals
    go_ret
    refine ret_bool ?_
    simp [ltr]
    try omega
theorem size_open {K : Nat} {s : ByteArray} {w : World} {n : Nat} (h : sz s 0 = K) (e : sz s 0 = n) : Ending.returned (Value.int .i64 (n : Int)) = Ending.returned (.int .i64 (K : Int)) ∧ w = w := ⟨by rw [← h, e], rfl⟩
end Txt
end Go.Proofs.YtddfjndclgapcaaDoor

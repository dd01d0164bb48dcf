/-
A log's records as plain data: how many sectors, four bytes of a number, a record's sectors, the marks. No program is named here.
-/
import Derived.Test.YtjeidfknnophnaaCrcMath
import Derived.Test.YtjeidfknnophnaaRow
namespace Go.Proofs.Ytjeidfknnophnaa
open Go.RowKit
set_option linter.unusedVariables false
namespace Wal

def need (n : Int) : Int := if n < 0 ∨ 8192 < n then 0 else (n + 71) / 64
def be32 (n : Int) : List Int := [n / 16777216 % 256, n / 65536 % 256, n / 256 % 256, n % 256]
def sum (zs : List Int) : Int := Crc.num (Crc.more 0#32 zs)
/-- What a record is led by: its length, and the sum of that and it. -/
def head (zs : List Int) : List Int := be32 zs.length ++ be32 (sum (be32 zs.length ++ zs))
def body (zs : List Int) : List Int := head zs ++ zs
/-- Nothing up to a sector's end. -/
def pad (n : Nat) : Nat := (63 - (n + 63) % 64)
def record (zs : List Int) : List Int := body zs ++ List.replicate (pad (body zs).length) 0
/-- Is the record i marked? -/
def mark (m : List Int) (i : Nat) : Bool := m.getD (i / 8) 0 / 2 ^ (7 - i % 8) % 2 == 1

theorem be32_len (n : Int) : (be32 n).length = 4 := rfl
theorem be32_byte (n : Int) : Byte (be32 n) := by
  intro z hz
  simp only [be32, List.mem_cons, List.not_mem_nil, or_false] at hz
  rcases hz with rfl | rfl | rfl | rfl <;> omega
theorem head_len (zs : List Int) : (head zs).length = 8 := rfl
theorem head_byte (zs : List Int) : Byte (head zs) := (be32_byte _).append (be32_byte _)
theorem body_len (zs : List Int) : (body zs).length = zs.length + 8 := by rw [body, List.length_append, head_len]; omega
theorem body_byte {zs : List Int} (h : Byte zs) : Byte (body zs) := (head_byte zs).append h
theorem pad_lt (n : Nat) : pad n < 64 := by unfold pad; omega
theorem pad_sum (n : Nat) : (n + pad n) % 64 = 0 := by unfold pad; omega
theorem zeros_byte (n : Nat) : Byte (List.replicate n 0) := fun z hz => by have := List.eq_of_mem_replicate hz; omega
theorem record_byte {zs : List Int} (h : Byte zs) : Byte (record zs) := (body_byte h).append (zeros_byte _)
theorem record_len (zs : List Int) : (record zs).length = zs.length + 8 + pad (zs.length + 8) := by
  rw [record, List.length_append, body_len, List.length_replicate]
/-- A record that may be has just as many sectors as Need tells. -/
theorem record_need {zs : List Int} (h : zs.length ≤ 8192) : ((record zs).length : Int) = need zs.length * 64 := by
  rw [record_len]
  have hn : ¬ ((zs.length : Int) < 0 ∨ (8192 : Int) < zs.length) := by omega
  unfold need pad
  rw [if_neg hn]
  omega
theorem sum_bounds (zs : List Int) : 0 ≤ sum zs ∧ sum zs < 4294967296 := ⟨Crc.num_nonneg _, Crc.num_lt _⟩
end Wal
end Go.Proofs.Ytjeidfknnophnaa

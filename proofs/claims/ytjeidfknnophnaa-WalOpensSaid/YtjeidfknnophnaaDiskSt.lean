/-
A disk as plain data: what each call makes of it, the program's way and the reference's; sectors as one row of bytes. No program is named here.
-/
import Derived.WalkKit
import Derived.Laws.Bits64
namespace Go.Proofs.Ytjeidfknnophnaa
set_option linter.unusedVariables false
namespace Disk

/-- A sector's bytes. -/
structure Sec (r : List Int) : Prop where
  len : r.length = 64
  byt : ∀ z ∈ r, 0 ≤ z ∧ z < 256
/-- n sectors. -/
structure Secs (n : Nat) (l : List (List Int)) : Prop where
  count : l.length = n
  sec : ∀ r ∈ l, Sec r
theorem Secs.at {n l} (h : Secs n l) {i : Nat} (hi : i < n) : Sec (l.getD i []) := by
  have := h.count
  exact h.sec _ (by simp [show i < l.length by omega])
theorem Secs.set {n l} (h : Secs n l) (i : Nat) {r : List Int} (hr : Sec r) : Secs n (l.set i r) :=
  ⟨by simp [h.count], fun x hx => by
    rcases List.mem_or_eq_of_mem_set hx with h' | h'
    · exact h.sec x h'
    · exact h' ▸ hr⟩

theorem flat_len {l : List (List Int)} (h : ∀ r ∈ l, r.length = 64) : l.flatten.length = l.length * 64 := by
  induction l with
  | nil => simp
  | cons x r ih =>
    have := ih fun y hy => h y (List.mem_cons_of_mem _ hy)
    have := h x (by simp)
    simp only [List.flatten_cons, List.length_append, List.length_cons]
    omega
theorem flat_at {l : List (List Int)} (h : ∀ r ∈ l, r.length = 64) (i j : Nat) (hi : i < l.length) (hj : j < 64) : l.flatten[i * 64 + j]? = (l.getD i [])[j]? := by
  induction l generalizing i with
  | nil => simp at hi
  | cons x r ih =>
    have hx := h x (by simp)
    cases i with
    | zero => simp [List.getElem?_append, hx, hj]
    | succ i =>
      have := ih (fun y hy => h y (List.mem_cons_of_mem _ hy)) i (by simpa using hi)
      rw [List.flatten_cons, List.getElem?_append_right (by omega), show (i + 1) * 64 + j - x.length = i * 64 + j by omega, this]
      simp
theorem flat_set {l : List (List Int)} (h : ∀ r ∈ l, r.length = 64) (i : Nat) (hi : i < l.length) (r : List Int) (hr : r.length = 64) : (l.set i r).flatten = l.flatten.take (i * 64) ++ r ++ l.flatten.drop (i * 64 + 64) := by
  induction l generalizing i with
  | nil => simp at hi
  | cons x q ih =>
    have hx := h x (by simp)
    cases i with
    | zero => simp [← hx]
    | succ i =>
      have := ih (fun y hy => h y (List.mem_cons_of_mem _ hy)) i (by simpa using hi)
      rw [List.set_cons_succ, List.flatten_cons, this, List.flatten_cons]
      rw [List.take_append, List.drop_append]
      rw [List.take_of_length_le (show x.length ≤ (i + 1) * 64 by omega), List.drop_eq_nil_of_le (show x.length ≤ (i + 1) * 64 + 64 by omega)]
      rw [show (i + 1) * 64 - x.length = i * 64 by omega, show (i + 1) * 64 + 64 - x.length = i * 64 + 64 by omega]
      simp
theorem Secs.lens {n l} (h : Secs n l) : ∀ r ∈ l, r.length = 64 := fun r hr => (h.sec r hr).len
theorem Secs.flat {n l} (h : Secs n l) : l.flatten.length = n * 64 := by rw [flat_len h.lens, h.count]
theorem Secs.byt {n l} (h : Secs n l) : ∀ z ∈ l.flatten, 0 ≤ z ∧ z < 256 := fun z hz => by
  obtain ⟨r, hr, hz'⟩ := List.mem_flatten.1 hz
  exact (h.sec r hr).byt z hz'
/-- The sectors are told by their bytes. -/
theorem flat_inj {a b : List (List Int)} (ha : ∀ r ∈ a, r.length = 64) (hb : ∀ r ∈ b, r.length = 64) (hl : a.length = b.length) (h : a.flatten = b.flatten) : a = b := by
  apply List.ext_getElem hl
  intro i h1 h2
  apply List.ext_getElem (by rw [ha _ (List.getElem_mem h1), hb _ (List.getElem_mem h2)])
  intro j g1 g2
  have e1 := flat_at ha i j h1 (by rw [← ha _ (List.getElem_mem h1)]; exact g1)
  have e2 := flat_at hb i j h2 (by rw [← hb _ (List.getElem_mem h2)]; exact g2)
  rw [h, e2] at e1
  simp [h1, h2, g1, g2] at e1
  exact e1.symm

/-- A disk. -/
structure St where
  now : List (List Int)
  sure : List (List Int)
  calls : Nat
  fuse : Int
  off : Bool

def zero : List Int := List.replicate 64 0
theorem zero_sec : Sec zero := ⟨by simp [zero], fun z hz => by have := List.eq_of_mem_replicate hz; omega⟩
def fresh (n : Nat) : St := ⟨List.replicate n zero, List.replicate n zero, 0, 0, false⟩

/-- The bits of a where p has 0, of b where p has 1. -/
def mixb (a b p : Int) : Int := bits .or .u8 (bits .andNot .u8 a p) (bits .and .u8 b p)
def mix (a b p : List Int) : List Int := (List.range 64).map fun i => mixb (a.getD i 0) (b.getD i 0) (p.getD i 0)
/-- 64 picks: those that there are, then 0. -/
def pick (p : List Int) : List Int := p.take 64 ++ List.replicate (64 - p.length) 0

/-- What a crash does at the sector k: the sectors, and the picks that are left. -/
def crashStep (sure : List (List Int)) (k : Nat) (mp : List (List Int) × List Int) : List (List Int) × List Int :=
  if mp.1.getD k [] = sure.getD k [] then mp else (mp.1.set k (mix (sure.getD k []) (mp.1.getD k []) (pick mp.2)), mp.2.drop 64)
def crashN (sure now : List (List Int)) (p : List Int) : Nat → List (List Int) × List Int
  | 0 => (now, p)
  | k + 1 => crashStep sure k (crashN sure now p k)

/-- The program's count. -/
def St.count (s : St) : St := { s with calls := s.calls + 1, fuse := if s.fuse = 0 then 0 else s.fuse - 1, off := s.off || s.fuse = 1 }
/-- The reference's call. -/
def St.call (s : St) : St := if s.off then { s with calls := s.calls + 1 } else { s with calls := s.calls + 1, fuse := max 0 (s.fuse - 1), off := s.fuse = 1 }
def St.put (s : St) (i : Int) (r : List Int) : St := { s with now := s.now.set i.toNat r }
def St.flushed (s : St) : St := { s with sure := s.now }
def St.crashTo (s : St) (p : List Int) (k : Nat) : St := { s with now := (crashN s.sure s.now p k).1, fuse := 0, off := false }
def St.crashed (s : St) (p : List Int) : St := (s.crashTo p s.now.length).flushed
/-- Is there such a sector, and are these the bytes of one? -/
def St.fits (s : St) (i : Int) (len : Nat) : Bool := decide (0 ≤ i) && decide (i < s.now.length) && len == 64
end Disk
end Go.Proofs.Ytjeidfknnophnaa

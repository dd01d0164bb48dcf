/-
A log as plain data: what lies in the sectors behind the marks, read as records. No program is named here.
-/
import Derived.Test.YtjeidfknnophnaaWalMath
import Derived.Test.YtjeidfknnophnaaDiskSt
namespace Go.Proofs.Ytjeidfknnophnaa
open Go.RowKit
set_option linter.unusedVariables false
namespace Wal
open Disk (Sec Secs flat_len)

/-- How many sectors a record of n bytes has. -/
def needN (n : Nat) : Nat := if 8192 < n then 0 else (n + 71) / 64
theorem need_nat (n : Nat) : need n = (needN n : Int) := by
  unfold need needN
  by_cases h : 8192 < n
  · rw [if_pos (by omega), if_pos h]; rfl
  · rw [if_neg (by omega), if_neg h]; omega
theorem needN_pos {n : Nat} (h : n ≤ 8192) : 1 ≤ needN n ∧ needN n ≤ 129 ∧ n + 8 ≤ needN n * 64 := by
  unfold needN; rw [if_neg (by omega)]; omega
theorem needN_le (n : Nat) : needN n ≤ 129 := by unfold needN; split <;> omega
theorem needN_big {n : Nat} (h : 8192 < n) : needN n = 0 := by unfold needN; rw [if_pos h]
theorem record_lenN {zs : List Int} (h : zs.length ≤ 8192) : (record zs).length = 64 * needN zs.length := by
  have := record_need h
  rw [need_nat] at this
  omega
/-- The sectors of records. -/
def used (rs : List (List Int)) : Nat := (rs.map fun r => needN r.length).sum
@[simp] theorem used_nil : used [] = 0 := rfl
theorem used_cons (r : List Int) (rs : List (List Int)) : used (r :: rs) = needN r.length + used rs := by simp [used]
theorem used_snoc (r : List Int) (rs : List (List Int)) : used (rs ++ [r]) = used rs + needN r.length := by simp [used]

/-- A number's four bytes, read. -/
def num32 (zs : List Int) : Int := zs.getD 0 0 * 16777216 + zs.getD 1 0 * 65536 + zs.getD 2 0 * 256 + zs.getD 3 0
theorem num32_be32 (n : Int) (h : 0 ≤ n ∧ n < 4294967296) (r : List Int) : num32 (be32 n ++ r) = n := by
  have e : num32 (be32 n ++ r) = n / 16777216 % 256 * 16777216 + n / 65536 % 256 * 65536 + n / 256 % 256 * 256 + n % 256 := by rfl
  rw [e]; omega
theorem num32_bounds {zs : List Int} (h : Byte zs) : 0 ≤ num32 zs ∧ num32 zs < 4294967296 := by
  have h0 := h.getD 0; have h1 := h.getD 1; have h2 := h.getD 2; have h3 := h.getD 3
  unfold num32; omega

/-- The record at the beginning of sectors' bytes, if it is one. -/
def rd (zs : List Int) : Option (List Int) :=
  if zs.length < 64 then none else
  if 8192 < num32 zs ∨ zs.length < 64 * needN (num32 zs).toNat then none else
  if record ((zs.drop 8).take (num32 zs).toNat) = zs.take (64 * needN (num32 zs).toNat) then some ((zs.drop 8).take (num32 zs).toNat) else none
theorem rd_len {zs r : List Int} (hb : Byte zs) (h : rd zs = some r) : r.length ≤ 8192 ∧ (r.length : Int) = num32 zs ∧ 64 * needN r.length ≤ zs.length ∧ Byte r := by
  have hn := num32_bounds hb
  unfold rd at h
  split at h
  · cases h
  · split at h
    · cases h
    · split at h
      · cases h
        rename_i h1 h2 h3
        have h4 := needN_pos (n := (num32 zs).toNat) (by omega)
        have hl : ((zs.drop 8).take (num32 zs).toNat).length = (num32 zs).toNat := by
          rw [List.length_take, List.length_drop]; omega
        rw [hl]
        exact ⟨by omega, by omega, by omega, (hb.drop 8).take _⟩
      · cases h
theorem rd_rec {zs r : List Int} (hb : Byte zs) (h : rd zs = some r) : zs.take (64 * needN r.length) = record r := by
  have hl := rd_len hb h
  unfold rd at h
  split at h
  · cases h
  · split at h
    · cases h
    · split at h
      · cases h
        rename_i h1 h2 h3
        rw [h3]
        congr 2
        congr 1
        omega
      · cases h
theorem rd_record (r x : List Int) (hl : r.length ≤ 8192) : rd (record r ++ x) = some r := by
  have hr := record_lenN hl
  have hp := needN_pos hl
  have hn : num32 (record r ++ x) = r.length := by
    have e : record r ++ x = be32 r.length ++ (be32 (sum (be32 r.length ++ r)) ++ r ++ List.replicate (pad (body r).length) 0 ++ x) := by
      simp only [record, body, head, List.append_assoc]
    rw [e]; exact num32_be32 _ (by omega) _
  have hd : ((record r ++ x).drop 8).take r.length = r := by
    have e : record r ++ x = head r ++ (r ++ (List.replicate (pad (body r).length) 0 ++ x)) := by
      simp only [record, body, List.append_assoc]
    rw [e, List.drop_append_of_le_length (by rw [head_len]; omega), show List.drop 8 (head r) = [] from List.drop_eq_nil_of_le (by rw [head_len]; omega), List.nil_append]
    simp
  unfold rd
  rw [if_neg (by rw [List.length_append]; omega), hn]
  simp only [Int.toNat_natCast]
  rw [if_neg (by rw [List.length_append]; omega), hd, if_pos]
  rw [List.take_append_of_le_length (by omega), List.take_of_length_le (by omega)]

/-- The first k records of these sectors' bytes, if they are records. -/
def rdN (zs : List Int) : Nat → Option (List (List Int))
  | 0 => some []
  | k + 1 => (rdN zs k).bind fun rs => (rd (zs.drop (64 * used rs))).map fun r => rs ++ [r]
theorem rdN_none {zs : List Int} {k : Nat} (h : rdN zs k = none) (m : Nat) : rdN zs (k + m) = none := by
  induction m with
  | zero => exact h
  | succ m ih => rw [← Nat.add_assoc, rdN, ih]; rfl
theorem rdN_next {zs : List Int} {k : Nat} {rs : List (List Int)} (h : rdN zs k = some rs) {r : List Int} (hr : rd (zs.drop (64 * used rs)) = some r) : rdN zs (k + 1) = some (rs ++ [r]) := by
  rw [rdN, h]; simp [hr]
theorem rdN_stop {zs : List Int} {k : Nat} {rs : List (List Int)} (h : rdN zs k = some rs) (hr : rd (zs.drop (64 * used rs)) = none) : rdN zs (k + 1) = none := by
  rw [rdN, h]; simp [hr]
theorem rdN_len {zs : List Int} : ∀ {k : Nat} {rs : List (List Int)}, rdN zs k = some rs → rs.length = k := by
  intro k
  induction k with
  | zero => intro rs h; simp [rdN] at h; subst h; rfl
  | succ k ih =>
    intro rs h
    cases hk : rdN zs k with
    | none => rw [rdN, hk] at h; cases h
    | some qs =>
      cases hr : rd (zs.drop (64 * used qs)) with
      | none => rw [rdN_stop hk hr] at h; cases h
      | some r => rw [rdN_next hk hr] at h; cases h; simp [ih hk]
theorem rdN_ok {zs : List Int} (hb : Byte zs) : ∀ {k : Nat} {rs : List (List Int)}, rdN zs k = some rs → 64 * used rs ≤ zs.length ∧ ∀ r ∈ rs, r.length ≤ 8192 ∧ Byte r := by
  intro k
  induction k with
  | zero => intro rs h; simp [rdN] at h; subst h; simp
  | succ k ih =>
    intro rs h
    cases hk : rdN zs k with
    | none => rw [rdN, hk] at h; cases h
    | some qs =>
      cases hr : rd (zs.drop (64 * used qs)) with
      | none => rw [rdN_stop hk hr] at h; cases h
      | some r =>
        rw [rdN_next hk hr] at h; cases h
        have h1 := ih hk
        have h2 := rd_len (hb.drop _) hr
        refine ⟨?_, fun x hx => ?_⟩
        · rw [used_snoc]; have := h2.2.2.1; rw [List.length_drop] at this; omega
        · rcases List.mem_append.1 hx with hx | hx
          · exact h1.2 x hx
          · obtain rfl : x = r := by simpa using hx
            exact ⟨h2.1, h2.2.2.2⟩
/-- What a record's sectors hold is what lies there. -/
theorem rdN_records : ∀ (rs : List (List Int)) (zs : List Int), (∀ r ∈ rs, r.length ≤ 8192) → zs.take (64 * used rs) = (rs.map record).flatten → ∀ k, k ≤ rs.length → rdN zs k = some (rs.take k) := by
  intro rs zs hl hz k hk
  have hlen : ∀ qs : List (List Int), (∀ r ∈ qs, r.length ≤ 8192) → ((qs.map record).flatten).length = 64 * used qs := by
    intro qs
    induction qs with
    | nil => intro _; rfl
    | cons q qs ih =>
      intro h
      rw [List.map_cons, List.flatten_cons, List.length_append, ih (fun r hr => h r (List.mem_cons_of_mem _ hr)), record_lenN (h q (by simp)), used_cons]; omega
  induction k with
  | zero => simp [rdN]
  | succ k ih =>
    have h1 := ih (by omega)
    have hk' : k < rs.length := by omega
    have e : rs.take (k + 1) = rs.take k ++ [rs[k]] := List.take_succ_eq_append_getElem hk'
    rw [e]
    refine rdN_next h1 ?_
    have split : rs = rs.take k ++ (rs[k] :: rs.drop (k + 1)) := by
      rw [← List.drop_eq_getElem_cons hk', List.take_append_drop]
    have hmem : rs[k] ∈ rs := List.getElem_mem hk'
    have hA := hlen (rs.take k) (fun r hr => hl r (List.mem_of_mem_take hr))
    have hall := hlen rs hl
    have key : zs = (rs.map record).flatten ++ zs.drop (64 * used rs) := by rw [← hz, List.take_append_drop]
    have fl : (rs.map record).flatten = ((rs.take k).map record).flatten ++ (record rs[k] ++ ((rs.drop (k + 1)).map record).flatten) := by
      conv => lhs; rw [split, List.map_append, List.map_cons, List.flatten_append, List.flatten_cons]
    rw [key, fl, List.append_assoc, List.drop_append_of_le_length (by omega), List.drop_eq_nil_of_le (by omega), List.nil_append, List.append_assoc]
    exact rd_record _ _ (hl _ hmem)

/-- How many marks are set, from the first on. -/
structure Marks (m : List Int) (n : Nat) : Prop where
  le : n ≤ 512
  set : ∀ i, i < n → mark m i = true
  stop : n < 512 → mark m n = false
theorem Marks.inj {m : List Int} {n k : Nat} (h : Marks m n) (g : Marks m k) : n = k := by
  rcases Nat.lt_trichotomy n k with hlt | e | hlt
  · have h1 := g.set n hlt
    rw [h.stop (by have := g.le; omega)] at h1; cases h1
  · exact e
  · have h1 := h.set k hlt
    rw [g.stop (by have := h.le; omega)] at h1; cases h1
theorem marks_ex (m : List Int) : ∃ n, Marks m n := by
  have : ∀ d k : Nat, k + d = 512 → (∀ i, i < k → mark m i = true) → ∃ n, Marks m n := by
    intro d
    induction d with
    | zero => intro k hk h; exact ⟨k, by omega, h, by omega⟩
    | succ d ih =>
      intro k hk h
      cases hm : mark m k with
      | true =>
        refine ih (k + 1) (by omega) fun i hi => ?_
        by_cases e : i = k
        · subst e; exact hm
        · exact h i (by omega)
      | false => exact ⟨k, by omega, h, fun _ => hm⟩
  exact this 512 0 rfl (by omega)

/-- The bytes of the sectors from a on and ahead of b. -/
def bytes (now : List (List Int)) (a b : Nat) : List Int := ((now.drop a).take (b - a)).flatten
theorem flat_drop {l : List (List Int)} (h : ∀ r ∈ l, r.length = 64) (k : Nat) : l.flatten.drop (64 * k) = (l.drop k).flatten := by
  induction k generalizing l with
  | zero => simp
  | succ k ih =>
    cases l with
    | nil => simp
    | cons x r =>
      have hx := h x (by simp)
      rw [List.flatten_cons, List.drop_append, List.drop_eq_nil_of_le (by omega), List.nil_append, hx, show 64 * (k + 1) - 64 = 64 * k by omega, ih (fun y hy => h y (List.mem_cons_of_mem _ hy))]
      simp
theorem flat_take {l : List (List Int)} (h : ∀ r ∈ l, r.length = 64) (k : Nat) : l.flatten.take (64 * k) = (l.take k).flatten := by
  induction k generalizing l with
  | zero => simp
  | succ k ih =>
    cases l with
    | nil => simp
    | cons x r =>
      have hx := h x (by simp)
      rw [List.flatten_cons, List.take_append, List.take_of_length_le (by omega), hx, show 64 * (k + 1) - 64 = 64 * k by omega, ih (fun y hy => h y (List.mem_cons_of_mem _ hy))]
      simp
section
variable {N : Nat} {now : List (List Int)} (hs : Secs N now)
include hs
theorem bytes_len (a b : Nat) (hb : b ≤ N) : (bytes now a b).length = 64 * (b - a) := by
  unfold bytes
  rw [flat_len fun r hr => hs.lens r (List.mem_of_mem_drop (List.mem_of_mem_take hr)), List.length_take, List.length_drop, hs.count]; omega
theorem bytes_byte (a b : Nat) : Byte (bytes now a b) := fun z hz => by
  obtain ⟨r, hr, hz'⟩ := List.mem_flatten.1 hz
  exact (hs.sec r (List.mem_of_mem_drop (List.mem_of_mem_take hr))).byt z hz'
theorem bytes_drop (a b k : Nat) : (bytes now a b).drop (64 * k) = bytes now (a + k) b := by
  unfold bytes
  rw [flat_drop (fun r hr => hs.lens r (List.mem_of_mem_drop (List.mem_of_mem_take hr))), List.drop_take, List.drop_drop, show b - a - k = b - (a + k) by omega]
theorem bytes_take (a b k : Nat) (h : a + k ≤ b) : (bytes now a b).take (64 * k) = bytes now a (a + k) := by
  unfold bytes
  rw [flat_take (fun r hr => hs.lens r (List.mem_of_mem_drop (List.mem_of_mem_take hr))), List.take_take, show min k (b - a) = a + k - a by omega]
theorem bytes_succ (a b : Nat) (h : a ≤ b) (hb : b < N) : bytes now a (b + 1) = bytes now a b ++ now.getD b [] := by
  unfold bytes
  have hc := hs.count
  have hl : b - a < (now.drop a).length := by rw [List.length_drop]; omega
  rw [show b + 1 - a = (b - a) + 1 by omega, List.take_succ_eq_append_getElem hl, List.flatten_append]
  congr 1
  simp [show a + (b - a) = b by omega, show b < now.length by omega]
theorem bytes_first (a b : Nat) (h : a < b) (hb : b ≤ N) : bytes now a b = now.getD a [] ++ bytes now (a + 1) b := by
  unfold bytes
  have hc := hs.count
  rw [List.drop_eq_getElem_cons (show a < now.length by omega), show b - a = (b - (a + 1)) + 1 by omega, List.take_succ_cons, List.flatten_cons]
  congr 1
  simp [show a < now.length by omega]
end
theorem bytes_self (now : List (List Int)) (a : Nat) : bytes now a a = [] := by simp [bytes]
end Wal
end Go.Proofs.Ytjeidfknnophnaa

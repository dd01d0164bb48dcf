/-
Relations as lists of bytes: how an atom, a clause, a relation is read, by the code's way and by the reference's; that both tell the same. No program is named here. How atoms, clauses, relations are written, as lists of bytes. No program is named here.
-/
import Derived.Test.YtapmpdljapbpeaaGreatDoorVerDef
import Derived.Lib.Join
namespace Go.Proofs.YtapmpdljapbpeaaGreatDoor
set_option linter.unusedSimpArgs false
set_option linter.unusedVariables false
namespace Rl
open Ver (Bs)
/-- An atom: its name, its relation, its version. -/
abbrev At := Bs × Int × Bs
def wh (c : UInt8) : Bool := decide (c = 32) || decide (c = 9)
def sg (c : UInt8) : Bool := decide (c = 60) || decide (c = 61) || decide (c = 62)
def mk (c : UInt8) : Bool := decide (c = 44) || decide (c = 124) || decide (c = 40) || decide (c = 41)
def wd (c : UInt8) : Bool := !wh c && !sg c && !mk c
def yd (c : UInt8) : Bool := !wh c && !mk c
def lds (c : UInt8) : Bool := (decide (97 ≤ c) && decide (c ≤ 122)) || (decide (48 ≤ c) && decide (c ≤ 57))
def mrs (c : UInt8) : Bool := decide (c = 43) || decide (c = 45) || decide (c = 46)
def nch (c : UInt8) : Bool := lds c || mrs c
def vch (c : UInt8) : Bool := Ver.ups c
/-- Is it a name? -/
def nmB : Bs → Bool
  | [] => false
  | c :: r => decide (1 ≤ r.length ∧ r.length ≤ 23) && lds c && r.all nch
def isV (v : Bs) : Bool := (Ver.parse v).isSome
def skip (l : Bs) : Bs := l.dropWhile wh
def relN (s : Bs) : Int := if s = [60, 60] then 1 else if s = [60, 61] then 2 else if s = [61] then 3 else if s = [62, 61] then 4 else if s = [62, 62] then 5 else 0
def sgnN (r : Int) : Bs := if r = 1 then [60, 60] else if r = 2 then [60, 61] else if r = 3 then [61] else if r = 4 then [62, 61] else if r = 5 then [62, 62] else []
def may (a : At) : Bool := nmB a.1 && (if a.2.1 = 0 then a.2.2.isEmpty else decide (1 ≤ a.2.1 ∧ a.2.1 ≤ 5) && isV a.2.2)
/-- A sign that comes next, and white space behind it. -/
def tk (c : UInt8) : Bs → Option Bs
  | [] => none
  | x :: r => if x = c then some (skip r) else none
def atom (l : Bs) : Option (At × Bs) :=
  match tk 40 (skip (l.dropWhile wd)) with
  | none => if may (l.takeWhile wd, 0, []) = true then some ((l.takeWhile wd, 0, []), skip (l.dropWhile wd)) else none
  | some l2 =>
    if relN (l2.takeWhile sg) = 0 then none else
    match tk 41 (skip ((skip (l2.dropWhile sg)).dropWhile wd)) with
    | none => none
    | some l5 => if may (l.takeWhile wd, relN (l2.takeWhile sg), (skip (l2.dropWhile sg)).takeWhile wd) = true then some ((l.takeWhile wd, relN (l2.takeWhile sg), (skip (l2.dropWhile sg)).takeWhile wd), l5) else none
section
variable {α : Type}
/-- Items with a sign between them, at most so many. -/
def items (rd : Bs → Except Int (α × Bs)) (c : UInt8) : Nat → Bs → Except Int (List α × Bs)
  | 0, _ => .error 12
  | k + 1, l => match rd l with
    | .error e => .error e
    | .ok (x, l1) => match tk c l1 with
      | none => .ok ([x], l1)
      | some l2 => match items rd c k l2 with
        | .error e => .error e
        | .ok (xs, l3) => .ok (x :: xs, l3)
def whole (rd : Bs → Except Int (α × Bs)) (s : Bs) : Except Int (List α) :=
  if skip s = [] then .ok [] else match items rd 44 12 (skip s) with
    | .error e => .error e
    | .ok (xs, r) => if r = [] then .ok xs else .error 3
end
def rdA (l : Bs) : Except Int (At × Bs) := match atom l with
  | none => .error 3
  | some p => .ok p
def rdC : Bs → Except Int (List At × Bs) := items rdA 124 6
abbrev Pv := Bs × Bs
def prv (e : Except Int (At × Bs)) : Except Int (Pv × Bs) := match e with
  | .error _ => .error 3
  | .ok (a, r) => if a.2.1 = 0 ∨ a.2.1 = 3 then .ok ((a.1, a.2.2), r) else .error 3
def rdP (l : Bs) : Except Int (Pv × Bs) := prv (rdA l)
/-! ### small facts -/
theorem skip_nw {l : Bs} (h : ∀ c r, l = c :: r → wh c = false) : skip l = l := by
  cases l with
  | nil => rfl
  | cons c r => unfold skip; rw [List.dropWhile_cons, h c r rfl]; rfl
theorem skip_w {g : Bs} (h : g.all wh = true) (l : Bs) : skip (g ++ l) = skip l := by
  induction g with
  | nil => rfl
  | cons x t ih =>
    rw [List.all_cons, Bool.and_eq_true] at h
    show skip (x :: (t ++ l)) = _
    unfold skip
    rw [List.dropWhile_cons, h.1]
    exact ih h.2
theorem tk_eq (c x : UInt8) (r : Bs) : tk c (x :: r) = if x = c then some (skip r) else none := rfl
theorem tk_some {c : UInt8} {l r : Bs} (h : tk c l = some r) : ∃ t, l = c :: t ∧ r = skip t := by
  cases l with
  | nil => cases h
  | cons x t =>
    rw [tk_eq] at h
    by_cases e : x = c
    · rw [if_pos e] at h; subst e; cases h; exact ⟨t, rfl, rfl⟩
    · rw [if_neg e] at h; cases h
theorem tk_cons (c : UInt8) (r : Bs) : tk c (c :: r) = some (skip r) := by rw [tk_eq, if_pos rfl]
theorem tk_ne {c x : UInt8} (h : x ≠ c) (r : Bs) : tk c (x :: r) = none := by rw [tk_eq, if_neg h]
theorem tw_app (p : UInt8 → Bool) : ∀ (n t : Bs), n.all p = true → (∀ c r, t = c :: r → p c = false) → (n ++ t).takeWhile p = n ∧ (n ++ t).dropWhile p = t
  | [], t, _, h => by
    cases t with
    | nil => exact ⟨rfl, rfl⟩
    | cons c r => rw [List.nil_append, List.takeWhile_cons, List.dropWhile_cons, h c r rfl]; exact ⟨rfl, rfl⟩
  | x :: n, t, hn, h => by
    rw [List.all_cons, Bool.and_eq_true] at hn
    obtain ⟨h1, h2⟩ := tw_app p n t hn.2 h
    rw [List.cons_append, List.takeWhile_cons, List.dropWhile_cons, hn.1]
    simp only [if_true]
    rw [h1, h2]
    exact ⟨rfl, rfl⟩
theorem wd_yd (c : UInt8) : wd c = true → yd c = true := by unfold wd yd; cases wh c <;> cases sg c <;> cases mk c <;> simp
theorem sg_yd {c : UInt8} (h : sg c = true) : yd c = true := by
  unfold sg at h; unfold yd wh mk
  simp only [Bool.or_eq_true, decide_eq_true_eq] at h
  rcases h with (rfl | rfl) | rfl <;> decide
theorem sg_wd {c : UInt8} (h : sg c = true) : wd c = false := by unfold wd; rw [h]; cases wh c <;> rfl
theorem sg_ne {c : UInt8} (h : sg c = true) : c ≠ 44 ∧ c ≠ 124 ∧ c ≠ 40 ∧ c ≠ 41 ∧ c ≠ 32 ∧ c ≠ 9 := by
  unfold sg at h
  simp only [Bool.or_eq_true, decide_eq_true_eq] at h
  rcases h with (rfl | rfl) | rfl <;> decide
theorem sg_wh {c : UInt8} (h : sg c = true) : wh c = false := by
  obtain ⟨_, _, _, _, h1, h2⟩ := sg_ne h
  unfold wh; simp [h1, h2]
theorem nch_wd {c : UInt8} (h : nch c = true) : wd c = true := by
  have : ∀ x : BitVec 8, nch ⟨x⟩ = true → wd ⟨x⟩ = true := by decide +kernel
  exact this c.toBitVec h
theorem vch_wd {c : UInt8} (h : vch c = true) : wd c = true := by
  have : ∀ x : BitVec 8, vch ⟨x⟩ = true → wd ⟨x⟩ = true := by decide +kernel
  exact this c.toBitVec h
theorem nm_all {n : Bs} (h : nmB n = true) : n.all wd = true := by
  cases n with
  | nil => cases h
  | cons c r =>
    unfold nmB at h
    simp only [Bool.and_eq_true] at h
    rw [List.all_cons, Bool.and_eq_true]
    refine ⟨nch_wd (by unfold nch; rw [h.1.2]; rfl), ?_⟩
    rw [List.all_eq_true]
    intro x hx
    exact nch_wd (List.all_eq_true.1 h.2 x hx)
theorem nm_ne {n : Bs} (h : nmB n = true) : n ≠ [] := by rintro rfl; cases h
theorem cut1_all {x : UInt8} (p : UInt8 → Bool) (hx : p x = true) : ∀ l a r : Bs, Ver.cut1 x l = some (a, r) → a.all p = true → r.all p = true → l.all p = true
  | [], _, _, h, _, _ => by cases h
  | c :: l, a, r, h, ha, hr => by
    unfold Ver.cut1 at h
    split at h
    · rename_i e; subst e; cases h; rw [List.all_cons, hx]; exact hr
    · cases hc : Ver.cut1 x l with
      | none => rw [hc] at h; cases h
      | some q =>
        rw [hc] at h
        simp only [Option.map_some, Option.some.injEq, Prod.mk.injEq] at h
        obtain ⟨rfl, rfl⟩ := h
        rw [List.all_cons, Bool.and_eq_true] at ha
        rw [List.all_cons, ha.1]
        exact cut1_all p hx l q.1 q.2 hc ha.2 hr
theorem cutZ_all {x : UInt8} (p : UInt8 → Bool) (hx : p x = true) : ∀ l a r : Bs, Ver.cutZ x l = some (a, r) → a.all p = true → r.all p = true → l.all p = true
  | [], _, _, h, _, _ => by cases h
  | c :: l, a, r, h, ha, hr => by
    unfold Ver.cutZ at h
    cases hc : Ver.cutZ x l with
    | some q =>
      rw [hc] at h
      simp only [Option.some.injEq, Prod.mk.injEq] at h
      obtain ⟨rfl, rfl⟩ := h
      rw [List.all_cons, Bool.and_eq_true] at ha
      rw [List.all_cons, ha.1]
      exact cutZ_all p hx l q.1 q.2 hc ha.2 hr
    | none =>
      rw [hc] at h
      simp only at h
      split at h
      · rename_i e; subst e; cases h; rw [List.all_cons, hx]; exact hr
      · cases h
theorem all_mono {p q : UInt8 → Bool} (h : ∀ c, p c = true → q c = true) {l : Bs} (hl : l.all p = true) : l.all q = true := by
  rw [List.all_eq_true] at hl ⊢
  exact fun x hx => h x (hl x hx)
theorem ver_all {v : Bs} (h : isV v = true) : v.all vch = true ∧ v ≠ [] ∧ v.length ≤ 48 := by
  unfold isV Ver.parse at h
  split at h
  · rename_i hl
    refine ⟨?_, by rintro rfl; simp at hl, hl.2⟩
    unfold Ver.epochOf at h
    have hrev : ∀ r : Bs, (match Ver.revOf r with | none => none | some (u, w) => if Ver.upOK u = true then some (([] : Bs), u, w) else none).isSome = true → r.all vch = true := by
      intro r hr
      unfold Ver.revOf at hr
      have hup : ∀ u, Ver.upOK u = true → u.all vch = true := by
        intro u hu
        cases u with
        | nil => cases hu
        | cons c t =>
          unfold Ver.upOK at hu
          simp only [Bool.and_eq_true] at hu
          exact hu.2
      cases hc : Ver.cutZ 45 r with
      | none =>
        rw [hc] at hr
        simp only at hr
        split at hr
        · rename_i k; exact hup _ k
        · cases hr
      | some q =>
        obtain ⟨u, w⟩ := q
        rw [hc] at hr
        simp only at hr
        by_cases hw : w ≠ [] ∧ w.all Ver.sig = true
        · rw [if_pos hw] at hr
          simp only at hr
          split at hr
          · rename_i k
            refine cutZ_all vch (by decide +kernel) r u w hc (hup _ k) (all_mono (fun c hc => ?_) hw.2)
            unfold vch Ver.ups; rw [hc]; rfl
          · cases hr
        · rw [if_neg hw] at hr; cases hr
    have hrev' : ∀ (e r : Bs), (match Ver.revOf r with | none => none | some (u, w) => if Ver.upOK u = true then some ((e : Bs), u, w) else none).isSome = true → r.all vch = true := by
      intro e r hr
      refine hrev r ?_
      cases hq : Ver.revOf r with
      | none => rw [hq] at hr; cases hr
      | some q =>
        obtain ⟨u, w⟩ := q
        rw [hq] at hr
        simp only at hr ⊢
        split at hr
        · rename_i k; rw [if_pos k]; rfl
        · cases hr
    cases hc : Ver.cut1 58 v with
    | none =>
      rw [hc] at h
      exact hrev' [48] v h
    | some q =>
      obtain ⟨e, r⟩ := q
      rw [hc] at h
      simp only at h
      by_cases he : 1 ≤ e.length ∧ e.length ≤ 9 ∧ e.all Ver.dig = true
      · rw [if_pos he] at h
        refine cut1_all vch (by decide +kernel) v e r hc (all_mono (fun c hc => ?_) he.2.2) (hrev' e r h)
        unfold vch Ver.ups Ver.sig; rw [hc]; simp
      · rw [if_neg he] at h; cases h
  · cases h
theorem ver_wd {v : Bs} (h : isV v = true) : v.all wd = true := all_mono (fun c => vch_wd) (ver_all h).1
theorem sgn_sg (r : Int) : (sgnN r).all sg = true := by unfold sgnN; repeat' split
                                                        all_goals decide
theorem rel_sgn (r : Int) (h : 1 ≤ r ∧ r ≤ 5) : relN (sgnN r) = r := by
  have : r = 1 ∨ r = 2 ∨ r = 3 ∨ r = 4 ∨ r = 5 := by omega
  rcases this with rfl | rfl | rfl | rfl | rfl <;> decide
theorem rel_nil : relN [] = 0 := by decide
/-! ### the same -/
/-- What neither way goes on from. -/
def Stuck (r : Bs) : Prop := r ≠ [] ∧ tk 44 r = none ∧ tk 124 r = none
def R {α : Type} (c y : Except Int (α × Bs)) : Prop := c = y ∨ (y = .error 3 ∧ ∃ x r, c = .ok (x, r) ∧ Stuck r)
/-! ### one atom -/
def one (s : Bs) : Option At := match atom (skip s) with
  | some (a, []) => some a
  | _ => none
theorem items_ne {α : Type} {rd : Bs → Except Int (α × Bs)} {c : UInt8} {k : Nat} {l r : Bs} {xs : List α} (h : items rd c k l = .ok (xs, r)) : xs ≠ [] := by
  rintro rfl
  cases k with
  | zero => cases h
  | succ k =>
    unfold items at h
    cases h1 : rd l with
    | error e => rw [h1] at h; cases h
    | ok p =>
      obtain ⟨x, l1⟩ := p
      rw [h1] at h
      simp only at h
      cases h2 : tk c l1 with
      | none => rw [h2] at h; cases h
      | some l2 =>
        rw [h2] at h
        simp only at h
        cases h3 : items rd c k l2 with
        | error e => rw [h3] at h; cases h
        | ok q => rw [h3] at h; cases h
end Rl
end Go.Proofs.YtapmpdljapbpeaaGreatDoor
namespace Go.Proofs.YtapmpdljapbpeaaGreatDoor
set_option linter.unusedSimpArgs false
set_option linter.unusedVariables false
namespace Rl
open Ver (Bs)
def txA (a : At) : Bs := if a.2.1 = 0 then a.1 else a.1 ++ [32] ++ [40] ++ sgnN a.2.1 ++ [32] ++ a.2.2 ++ [41]
def wAt (a : At) : Bs := if may a = true then txA a else []
def wrt {α : Type} (most : Nat) (sep : Bs) (one : α → Bs) (l : List α) : Bs := if most < l.length then [] else if l.any (fun x => (one x).isEmpty) = true then [] else Lib.join (l.map one) sep
def wCl : List At → Bs := wrt 6 [32, 124, 32] wAt
def text : List (List At) → Bs := wrt 12 [44, 32] wCl
def atoms : List At → Bs := wrt 12 [44, 32] wAt
def pvA (p : Pv) : At := (p.1, if p.2 = [] then 0 else 3, p.2)
def provs : List Pv → Bs := wrt 12 [44, 32] (fun p => wAt (pvA p))
theorem may_sizes {a : At} (h : may a = true) : a.1.length ≤ 24 ∧ a.2.2.length ≤ 48 := by
  obtain ⟨n, r, v⟩ := a
  unfold may at h
  simp only [Bool.and_eq_true] at h
  obtain ⟨h1, h2⟩ := h
  refine ⟨?_, ?_⟩
  · cases n with
    | nil => cases h1
    | cons c t =>
      unfold nmB at h1
      simp only [Bool.and_eq_true, decide_eq_true_eq] at h1
      simp; omega
  · by_cases hr : r = 0
    · rw [if_pos hr] at h2
      cases v with
      | nil => simp
      | cons c t => cases h2
    · rw [if_neg hr] at h2
      simp only [Bool.and_eq_true] at h2
      exact (ver_all h2.2).2.2
theorem sgn_len (r : Int) : (sgnN r).length ≤ 2 := by
  unfold sgnN
  repeat' split
  all_goals decide
theorem txA_len {a : At} (h : may a = true) : (txA a).length ≤ 78 := by
  obtain ⟨h1, h2⟩ := may_sizes h
  have := sgn_len a.2.1
  unfold txA
  split
  · omega
  · simp only [List.length_append, List.length_cons, List.length_nil]; omega
theorem wAt_len (a : At) : (wAt a).length ≤ 78 := by
  unfold wAt
  split
  · rename_i h; exact txA_len h
  · simp
theorem txA_ne {a : At} (h : may a = true) : txA a ≠ [] := by
  have hn : nmB a.1 = true := by unfold may at h; simp only [Bool.and_eq_true] at h; exact h.1
  have := nm_ne hn
  unfold txA
  split
  · exact this
  · simp
theorem join_len (sep : Bs) (m : Nat) : ∀ ls : List Bs, (∀ l ∈ ls, l.length ≤ m) → (Lib.join ls sep).length ≤ ls.length * (m + sep.length)
  | [], _ => by simp [Lib.join]
  | [x], h => by have := h x (by simp); simp [Lib.join]; omega
  | x :: y :: r, h => by
    have h1 := h x (by simp)
    have h2 := join_len sep m (y :: r) fun l hl => h l (List.mem_cons_of_mem _ hl)
    have e : Lib.join (x :: y :: r) sep = x ++ sep ++ Lib.join (y :: r) sep := by simp [Lib.join]
    rw [e]
    simp only [List.length_append, List.length_cons] at h2 ⊢
    rw [Nat.add_mul _ 1]
    omega
theorem wCl_len (c : List At) : (wCl c).length ≤ 600 := by
  unfold wCl wrt
  split
  · simp
  · split
    · simp
    · rename_i h _
      have := join_len [32, 124, 32] 78 (c.map wAt) fun l hl => by
        obtain ⟨a, _, rfl⟩ := List.mem_map.1 hl
        exact wAt_len a
      rw [List.length_map] at this
      have h6 : c.length ≤ 6 := by omega
      have := Nat.le_trans this (Nat.mul_le_mul_right _ h6)
      simpa using Nat.le_trans this (by simp)
end Rl
end Go.Proofs.YtapmpdljapbpeaaGreatDoor

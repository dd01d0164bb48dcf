/-
Relations as lists of bytes: how an atom, a clause, a relation is read, by the code's way and by the reference's; that both tell the same. No program is named here. How atoms, clauses, relations are written, as lists of bytes. No program is named here.
-/
import Derived.Test.YtapmpdljapbpeaaGreatDoorVerDef
import Derived.Lib.Join
namespace Go.Proofs.YtapmpdljapbpeaaGreatDoor
set_option linter.unusedSimpArgs false
set_option linter.unusedVariables false
namespace Rl
open Ver (Bs)
/-- An atom: its name, its relation, its version. -/
abbrev At := Bs × Int × Bs
def wh (c : UInt8) : Bool := decide (c = 32) || decide (c = 9)
def sg (c : UInt8) : Bool := decide (c = 60) || decide (c = 61) || decide (c = 62)
def mk (c : UInt8) : Bool := decide (c = 44) || decide (c = 124) || decide (c = 40) || decide (c = 41)
def wd (c : UInt8) : Bool := !wh c && !sg c && !mk c
def yd (c : UInt8) : Bool := !wh c && !mk c
def lds (c : UInt8) : Bool := (decide (97 ≤ c) && decide (c ≤ 122)) || (decide (48 ≤ c) && decide (c ≤ 57))
def mrs (c : UInt8) : Bool := decide (c = 43) || decide (c = 45) || decide (c = 46)
def nch (c : UInt8) : Bool := lds c || mrs c
def vch (c : UInt8) : Bool := Ver.ups c
/-- Is it a name? -/
def nmB : Bs → Bool
  | [] => false
  | c :: r => decide (1 ≤ r.length ∧ r.length ≤ 23) && lds c && r.all nch
def isV (v : Bs) : Bool := (Ver.parse v).isSome
def skip (l : Bs) : Bs := l.dropWhile wh
def relN (s : Bs) : Int := if s = [60, 60] then 1 else if s = [60, 61] then 2 else if s = [61] then 3 else if s = [62, 61] then 4 else if s = [62, 62] then 5 else 0
def sgnN (r : Int) : Bs := if r = 1 then [60, 60] else if r = 2 then [60, 61] else if r = 3 then [61] else if r = 4 then [62, 61] else if r = 5 then [62, 62] else []
/-- The sign with which a text begins. -/
def relP (l : Bs) : Int := if l.take 2 = [60, 60] then 1 else if l.take 2 = [60, 61] then 2 else if l.take 1 = [61] then 3 else if l.take 2 = [62, 61] then 4 else if l.take 2 = [62, 62] then 5 else 0
def may (a : At) : Bool := nmB a.1 && (if a.2.1 = 0 then a.2.2.isEmpty else decide (1 ≤ a.2.1 ∧ a.2.1 ≤ 5) && isV a.2.2)
/-- A sign that comes next, and white space behind it. -/
def tk (c : UInt8) : Bs → Option Bs
  | [] => none
  | x :: r => if x = c then some (skip r) else none
def atom (l : Bs) : Option (At × Bs) :=
  match tk 40 (skip (l.dropWhile wd)) with
  | none => if may (l.takeWhile wd, 0, []) = true then some ((l.takeWhile wd, 0, []), skip (l.dropWhile wd)) else none
  | some l2 =>
    if relN (l2.takeWhile sg) = 0 then none else
    match tk 41 (skip ((skip (l2.dropWhile sg)).dropWhile wd)) with
    | none => none
    | some l5 => if may (l.takeWhile wd, relN (l2.takeWhile sg), (skip (l2.dropWhile sg)).takeWhile wd) = true then some ((l.takeWhile wd, relN (l2.takeWhile sg), (skip (l2.dropWhile sg)).takeWhile wd), l5) else none
def yl3 (l2 : Bs) : Bs := skip (l2.drop (sgnN (relP l2)).length)
def yatom (l : Bs) : Option (At × Bs) :=
  if nmB (l.takeWhile yd) = true then
    match tk 40 (skip (l.dropWhile yd)) with
    | none => some ((l.takeWhile yd, 0, []), skip (l.dropWhile yd))
    | some l2 =>
      if relP l2 = 0 ∨ isV ((yl3 l2).takeWhile yd) = false then none else
      match tk 41 (skip ((yl3 l2).dropWhile yd)) with
      | none => none
      | some l5 => some ((l.takeWhile yd, relP l2, (yl3 l2).takeWhile yd), l5)
  else none
section
variable {α : Type}
/-- Items with a sign between them, at most so many. -/
def items (rd : Bs → Except Int (α × Bs)) (c : UInt8) : Nat → Bs → Except Int (List α × Bs)
  | 0, _ => .error 12
  | k + 1, l => match rd l with
    | .error e => .error e
    | .ok (x, l1) => match tk c l1 with
      | none => .ok ([x], l1)
      | some l2 => match items rd c k l2 with
        | .error e => .error e
        | .ok (xs, l3) => .ok (x :: xs, l3)
def yitems (rd : Bs → Except Int (α × Bs)) : Nat → Bs → Except Int (List α)
  | 0, _ => .error 12
  | k + 1, l => match rd l with
    | .error e => .error e
    | .ok (x, l1) => if l1 = [] then .ok [x] else match tk 44 l1 with
      | none => .error 3
      | some l2 => match yitems rd k l2 with
        | .error e => .error e
        | .ok xs => .ok (x :: xs)
def whole (rd : Bs → Except Int (α × Bs)) (s : Bs) : Except Int (List α) :=
  if skip s = [] then .ok [] else match items rd 44 12 (skip s) with
    | .error e => .error e
    | .ok (xs, r) => if r = [] then .ok xs else .error 3
def ywhole (rd : Bs → Except Int (α × Bs)) (s : Bs) : Except Int (List α) := if skip s = [] then .ok [] else yitems rd 12 (skip s)
end
def rdA (l : Bs) : Except Int (At × Bs) := match atom l with
  | none => .error 3
  | some p => .ok p
def yrdA (l : Bs) : Except Int (At × Bs) := match yatom l with
  | none => .error 3
  | some p => .ok p
def rdC : Bs → Except Int (List At × Bs) := items rdA 124 6
def yrdC : Bs → Except Int (List At × Bs) := items yrdA 124 6
abbrev Pv := Bs × Bs
def prv (e : Except Int (At × Bs)) : Except Int (Pv × Bs) := match e with
  | .error _ => .error 3
  | .ok (a, r) => if a.2.1 = 0 ∨ a.2.1 = 3 then .ok ((a.1, a.2.2), r) else .error 3
def rdP (l : Bs) : Except Int (Pv × Bs) := prv (rdA l)
def yrdP (l : Bs) : Except Int (Pv × Bs) := prv (yrdA l)
/-! ### small facts -/
theorem skip_nw {l : Bs} (h : ∀ c r, l = c :: r → wh c = false) : skip l = l := by
  cases l with
  | nil => rfl
  | cons c r => unfold skip; rw [List.dropWhile_cons, h c r rfl]; rfl
theorem skip_head {l : Bs} {c : UInt8} {r : Bs} (h : skip l = c :: r) : wh c = false := by
  unfold skip at h
  induction l with
  | nil => cases h
  | cons x t ih =>
    rw [List.dropWhile_cons] at h
    cases hx : wh x
    · rw [hx] at h
      simp only [Bool.false_eq_true, if_false, List.cons.injEq] at h
      rw [← h.1, hx]
    · rw [hx] at h
      exact ih h
theorem skip_skip (l : Bs) : skip (skip l) = skip l := skip_nw fun c r h => skip_head h
theorem skip_w {g : Bs} (h : g.all wh = true) (l : Bs) : skip (g ++ l) = skip l := by
  induction g with
  | nil => rfl
  | cons x t ih =>
    rw [List.all_cons, Bool.and_eq_true] at h
    show skip (x :: (t ++ l)) = _
    unfold skip
    rw [List.dropWhile_cons, h.1]
    exact ih h.2
theorem tk_eq (c x : UInt8) (r : Bs) : tk c (x :: r) = if x = c then some (skip r) else none := rfl
theorem tk_some {c : UInt8} {l r : Bs} (h : tk c l = some r) : ∃ t, l = c :: t ∧ r = skip t := by
  cases l with
  | nil => cases h
  | cons x t =>
    rw [tk_eq] at h
    by_cases e : x = c
    · rw [if_pos e] at h; subst e; cases h; exact ⟨t, rfl, rfl⟩
    · rw [if_neg e] at h; cases h
theorem tk_cons (c : UInt8) (r : Bs) : tk c (c :: r) = some (skip r) := by rw [tk_eq, if_pos rfl]
theorem tk_ne {c x : UInt8} (h : x ≠ c) (r : Bs) : tk c (x :: r) = none := by rw [tk_eq, if_neg h]
theorem tw_app (p : UInt8 → Bool) : ∀ (n t : Bs), n.all p = true → (∀ c r, t = c :: r → p c = false) → (n ++ t).takeWhile p = n ∧ (n ++ t).dropWhile p = t
  | [], t, _, h => by
    cases t with
    | nil => exact ⟨rfl, rfl⟩
    | cons c r => rw [List.nil_append, List.takeWhile_cons, List.dropWhile_cons, h c r rfl]; exact ⟨rfl, rfl⟩
  | x :: n, t, hn, h => by
    rw [List.all_cons, Bool.and_eq_true] at hn
    obtain ⟨h1, h2⟩ := tw_app p n t hn.2 h
    rw [List.cons_append, List.takeWhile_cons, List.dropWhile_cons, hn.1]
    simp only [if_true]
    rw [h1, h2]
    exact ⟨rfl, rfl⟩
theorem tw_all (p : UInt8 → Bool) : ∀ l : Bs, (l.takeWhile p).all p = true
  | [] => rfl
  | x :: l => by
    rw [List.takeWhile_cons]
    cases h : p x
    · rfl
    · simp only [if_true, List.all_cons, h, Bool.true_and]; exact tw_all p l
theorem dw_head (p : UInt8 → Bool) : ∀ (l : Bs) (c : UInt8) (r : Bs), l.dropWhile p = c :: r → p c = false
  | [], _, _, h => by cases h
  | x :: l, c, r, h => by
    rw [List.dropWhile_cons] at h
    cases hx : p x
    · rw [hx] at h
      simp only [Bool.false_eq_true, if_false, List.cons.injEq] at h
      rw [← h.1]; exact hx
    · rw [hx] at h
      simp only [if_true] at h
      exact dw_head p l c r h
theorem two_preds {p q : UInt8 → Bool} (hpq : ∀ c, p c = true → q c = true) : ∀ l : Bs, (l.takeWhile p = l.takeWhile q ∧ l.dropWhile p = l.dropWhile q) ∨ ∃ c r, l.dropWhile p = c :: r ∧ p c = false ∧ q c = true ∧ c ∈ l.takeWhile q
  | [] => .inl ⟨rfl, rfl⟩
  | x :: l => by
    cases hp : p x
    · cases hq : q x
      · left; simp [List.takeWhile_cons, List.dropWhile_cons, hp, hq]
      · right; exact ⟨x, l, by rw [List.dropWhile_cons, hp]; rfl, hp, hq, by rw [List.takeWhile_cons, hq]; exact List.mem_cons_self⟩
    · have hq := hpq x hp
      rcases two_preds hpq l with ⟨h1, h2⟩ | ⟨c, r, h1, h2, h3, h4⟩
      · left; simp [List.takeWhile_cons, List.dropWhile_cons, hp, hq, h1, h2]
      · right; exact ⟨c, r, by rw [List.dropWhile_cons, hp]; exact h1, h2, h3, by rw [List.takeWhile_cons, hq]; exact List.mem_cons_of_mem _ h4⟩
theorem wd_yd (c : UInt8) : wd c = true → yd c = true := by unfold wd yd; cases wh c <;> cases sg c <;> cases mk c <;> simp
theorem yd_wd {c : UInt8} (h : yd c = true) (k : wd c = false) : sg c = true := by
  revert h k; unfold wd yd; cases wh c <;> cases sg c <;> cases mk c <;> simp
theorem sg_yd {c : UInt8} (h : sg c = true) : yd c = true := by
  unfold sg at h; unfold yd wh mk
  simp only [Bool.or_eq_true, decide_eq_true_eq] at h
  rcases h with (rfl | rfl) | rfl <;> decide
theorem sg_wd {c : UInt8} (h : sg c = true) : wd c = false := by unfold wd; rw [h]; cases wh c <;> rfl
theorem sg_ne {c : UInt8} (h : sg c = true) : c ≠ 44 ∧ c ≠ 124 ∧ c ≠ 40 ∧ c ≠ 41 ∧ c ≠ 32 ∧ c ≠ 9 := by
  unfold sg at h
  simp only [Bool.or_eq_true, decide_eq_true_eq] at h
  rcases h with (rfl | rfl) | rfl <;> decide
theorem sg_wh {c : UInt8} (h : sg c = true) : wh c = false := by
  obtain ⟨_, _, _, _, h1, h2⟩ := sg_ne h
  unfold wh; simp [h1, h2]
theorem nch_wd {c : UInt8} (h : nch c = true) : wd c = true := by
  have : ∀ x : BitVec 8, nch ⟨x⟩ = true → wd ⟨x⟩ = true := by decide +kernel
  exact this c.toBitVec h
theorem vch_wd {c : UInt8} (h : vch c = true) : wd c = true := by
  have : ∀ x : BitVec 8, vch ⟨x⟩ = true → wd ⟨x⟩ = true := by decide +kernel
  exact this c.toBitVec h
theorem nm_all {n : Bs} (h : nmB n = true) : n.all wd = true := by
  cases n with
  | nil => cases h
  | cons c r =>
    unfold nmB at h
    simp only [Bool.and_eq_true] at h
    rw [List.all_cons, Bool.and_eq_true]
    refine ⟨nch_wd (by unfold nch; rw [h.1.2]; rfl), ?_⟩
    rw [List.all_eq_true]
    intro x hx
    exact nch_wd (List.all_eq_true.1 h.2 x hx)
theorem nm_ne {n : Bs} (h : nmB n = true) : n ≠ [] := by rintro rfl; cases h
theorem cut1_all {x : UInt8} (p : UInt8 → Bool) (hx : p x = true) : ∀ l a r : Bs, Ver.cut1 x l = some (a, r) → a.all p = true → r.all p = true → l.all p = true
  | [], _, _, h, _, _ => by cases h
  | c :: l, a, r, h, ha, hr => by
    unfold Ver.cut1 at h
    split at h
    · rename_i e; subst e; cases h; rw [List.all_cons, hx]; exact hr
    · cases hc : Ver.cut1 x l with
      | none => rw [hc] at h; cases h
      | some q =>
        rw [hc] at h
        simp only [Option.map_some, Option.some.injEq, Prod.mk.injEq] at h
        obtain ⟨rfl, rfl⟩ := h
        rw [List.all_cons, Bool.and_eq_true] at ha
        rw [List.all_cons, ha.1]
        exact cut1_all p hx l q.1 q.2 hc ha.2 hr
theorem cutZ_all {x : UInt8} (p : UInt8 → Bool) (hx : p x = true) : ∀ l a r : Bs, Ver.cutZ x l = some (a, r) → a.all p = true → r.all p = true → l.all p = true
  | [], _, _, h, _, _ => by cases h
  | c :: l, a, r, h, ha, hr => by
    unfold Ver.cutZ at h
    cases hc : Ver.cutZ x l with
    | some q =>
      rw [hc] at h
      simp only [Option.some.injEq, Prod.mk.injEq] at h
      obtain ⟨rfl, rfl⟩ := h
      rw [List.all_cons, Bool.and_eq_true] at ha
      rw [List.all_cons, ha.1]
      exact cutZ_all p hx l q.1 q.2 hc ha.2 hr
    | none =>
      rw [hc] at h
      simp only at h
      split at h
      · rename_i e; subst e; cases h; rw [List.all_cons, hx]; exact hr
      · cases h
theorem all_mono {p q : UInt8 → Bool} (h : ∀ c, p c = true → q c = true) {l : Bs} (hl : l.all p = true) : l.all q = true := by
  rw [List.all_eq_true] at hl ⊢
  exact fun x hx => h x (hl x hx)
theorem ver_all {v : Bs} (h : isV v = true) : v.all vch = true ∧ v ≠ [] ∧ v.length ≤ 48 := by
  unfold isV Ver.parse at h
  split at h
  · rename_i hl
    refine ⟨?_, by rintro rfl; simp at hl, hl.2⟩
    unfold Ver.epochOf at h
    have hrev : ∀ r : Bs, (match Ver.revOf r with | none => none | some (u, w) => if Ver.upOK u = true then some (([] : Bs), u, w) else none).isSome = true → r.all vch = true := by
      intro r hr
      unfold Ver.revOf at hr
      have hup : ∀ u, Ver.upOK u = true → u.all vch = true := by
        intro u hu
        cases u with
        | nil => cases hu
        | cons c t =>
          unfold Ver.upOK at hu
          simp only [Bool.and_eq_true] at hu
          exact hu.2
      cases hc : Ver.cutZ 45 r with
      | none =>
        rw [hc] at hr
        simp only at hr
        split at hr
        · rename_i k; exact hup _ k
        · cases hr
      | some q =>
        obtain ⟨u, w⟩ := q
        rw [hc] at hr
        simp only at hr
        by_cases hw : w ≠ [] ∧ w.all Ver.sig = true
        · rw [if_pos hw] at hr
          simp only at hr
          split at hr
          · rename_i k
            refine cutZ_all vch (by decide +kernel) r u w hc (hup _ k) (all_mono (fun c hc => ?_) hw.2)
            unfold vch Ver.ups; rw [hc]; rfl
          · cases hr
        · rw [if_neg hw] at hr; cases hr
    have hrev' : ∀ (e r : Bs), (match Ver.revOf r with | none => none | some (u, w) => if Ver.upOK u = true then some ((e : Bs), u, w) else none).isSome = true → r.all vch = true := by
      intro e r hr
      refine hrev r ?_
      cases hq : Ver.revOf r with
      | none => rw [hq] at hr; cases hr
      | some q =>
        obtain ⟨u, w⟩ := q
        rw [hq] at hr
        simp only at hr ⊢
        split at hr
        · rename_i k; rw [if_pos k]; rfl
        · cases hr
    cases hc : Ver.cut1 58 v with
    | none =>
      rw [hc] at h
      exact hrev' [48] v h
    | some q =>
      obtain ⟨e, r⟩ := q
      rw [hc] at h
      simp only at h
      by_cases he : 1 ≤ e.length ∧ e.length ≤ 9 ∧ e.all Ver.dig = true
      · rw [if_pos he] at h
        refine cut1_all vch (by decide +kernel) v e r hc (all_mono (fun c hc => ?_) he.2.2) (hrev' e r h)
        unfold vch Ver.ups Ver.sig; rw [hc]; simp
      · rw [if_neg he] at h; cases h
  · cases h
theorem ver_wd {v : Bs} (h : isV v = true) : v.all wd = true := all_mono (fun c => vch_wd) (ver_all h).1
/-! ### signs -/
theorem rel_five (s : Bs) : relN s ≠ 0 → 1 ≤ relN s ∧ relN s ≤ 5 ∧ sgnN (relN s) = s := by
  intro h
  unfold relN at h ⊢
  repeat' split
  all_goals first
    | (rename_i e; subst e; exact ⟨by decide, by decide, by decide⟩)
    | (exfalso; revert h; simp_all)
theorem sgn_sg (r : Int) : (sgnN r).all sg = true := by unfold sgnN; repeat' split
                                                        all_goals decide
theorem take_pre {l s : Bs} (h : l.take s.length = s) : l = s ++ l.drop s.length := by
  conv => lhs; rw [← List.take_append_drop s.length l]
  rw [h]
theorem relP_pre (l : Bs) (h : relP l ≠ 0) : l = sgnN (relP l) ++ l.drop (sgnN (relP l)).length ∧ 1 ≤ relP l ∧ relP l ≤ 5 := by
  unfold relP at h ⊢
  repeat' split
  all_goals first
    | (rename_i e; exact ⟨take_pre e, by decide, by decide⟩)
    | (exfalso; revert h; simp_all)
theorem rel_sgn (r : Int) (h : 1 ≤ r ∧ r ≤ 5) : relN (sgnN r) = r := by
  have : r = 1 ∨ r = 2 ∨ r = 3 ∨ r = 4 ∨ r = 5 := by omega
  rcases this with rfl | rfl | rfl | rfl | rfl <;> decide
theorem relP_app (r : Int) (h : 1 ≤ r ∧ r ≤ 5) (t : Bs) (ht : ∀ c u, t = c :: u → sg c = false) : relP (sgnN r ++ t) = r := by
  have : r = 1 ∨ r = 2 ∨ r = 3 ∨ r = 4 ∨ r = 5 := by omega
  rcases this with rfl | rfl | rfl | rfl | rfl <;> simp [sgnN, relP]
theorem rel_nil : relN [] = 0 := by decide
/-! ### the same -/
/-- What neither way goes on from. -/
def Stuck (r : Bs) : Prop := r ≠ [] ∧ tk 44 r = none ∧ tk 124 r = none
def R {α : Type} (c y : Except Int (α × Bs)) : Prop := c = y ∨ (y = .error 3 ∧ ∃ x r, c = .ok (x, r) ∧ Stuck r)
theorem may_iff {n v : Bs} {r : Int} (hr : 1 ≤ r ∧ r ≤ 5) : may (n, r, v) = (nmB n && isV v) := by
  unfold may
  simp only
  rw [if_neg (by omega), decide_eq_true hr, Bool.true_and]
theorem may_zero (n : Bs) : may (n, 0, []) = nmB n := by unfold may; simp
theorem atom_R (l : Bs) : R (rdA l) (yrdA l) := by
  rcases two_preds wd_yd l with ⟨h1, h2⟩ | ⟨c, r, h1, h2, h3, h4⟩
  · unfold rdA yrdA atom yatom
    rw [h1, h2]
    cases hn : nmB (l.takeWhile yd)
    · simp only [Bool.false_eq_true, if_false]
      left
      cases tk 40 (skip (l.dropWhile yd)) with
      | none => simp only [may_zero, hn, Bool.false_eq_true, if_false]
      | some l2 =>
        simp only
        by_cases h0 : relN (l2.takeWhile sg) = 0
        · rw [if_pos h0]
        · rw [if_neg h0]
          have h5 := rel_five _ h0
          cases tk 41 (skip ((skip (l2.dropWhile sg)).dropWhile wd)) with
          | none => rfl
          | some l5 => simp only [may_iff ⟨h5.1, h5.2.1⟩, hn, Bool.false_and, Bool.false_eq_true, if_false]
    · simp only [if_true]
      left
      cases tk 40 (skip (l.dropWhile yd)) with
      | none => simp only [may_zero, hn, if_true]
      | some l2 =>
        simp only
        by_cases hy : relP l2 = 0 ∨ isV ((yl3 l2).takeWhile yd) = false
        · rw [if_pos hy]
          by_cases h0 : relN (l2.takeWhile sg) = 0
          · rw [if_pos h0]
          · rw [if_neg h0]
            cases hk : tk 41 (skip ((skip (l2.dropWhile sg)).dropWhile wd)) with
            | none => rfl
            | some l5 =>
              have h5 := rel_five _ h0
              simp only [may_iff ⟨h5.1, h5.2.1⟩, hn, Bool.true_and]
              cases hv : isV ((skip (l2.dropWhile sg)).takeWhile wd)
              · rfl
              · exfalso
                have e1 : relP l2 = relN (l2.takeWhile sg) := by
                  conv => lhs; rw [← List.takeWhile_append_dropWhile (p := sg) (l := l2), ← h5.2.2]
                  exact relP_app _ ⟨h5.1, h5.2.1⟩ _ (dw_head sg l2)
                have e2 : yl3 l2 = skip (l2.dropWhile sg) := by
                  unfold yl3
                  rw [e1, h5.2.2]
                  congr 1
                  have := List.drop_left (l₁ := l2.takeWhile sg) (l₂ := l2.dropWhile sg)
                  rwa [List.takeWhile_append_dropWhile] at this
                obtain ⟨t, ht, _⟩ := tk_some hk
                have e3 : (skip (l2.dropWhile sg)).takeWhile yd = (skip (l2.dropWhile sg)).takeWhile wd := by
                  rcases two_preds wd_yd (skip (l2.dropWhile sg)) with ⟨k1, _⟩ | ⟨c, u, k1, k2, k3, k4⟩
                  · exact k1.symm
                  · exfalso
                    have hs := yd_wd k3 k2
                    rw [k1, skip_nw (fun c' u' e => by cases e; exact sg_wh hs)] at ht
                    cases ht
                    exact (sg_ne hs).2.2.2.1 rfl
                rcases hy with hy | hy
                · rw [e1] at hy; exact h0 hy
                · rw [e2, e3, hv] at hy; cases hy
        · rw [if_neg hy]
          have hp0 : relP l2 ≠ 0 := fun h => hy (.inl h)
          have hv : isV ((yl3 l2).takeWhile yd) = true := by
            cases h : isV ((yl3 l2).takeWhile yd)
            · exact absurd (.inr h) hy
            · rfl
          obtain ⟨e0, hp5⟩ := relP_pre l2 hp0
          have hva := ver_wd hv
          have hvn := (ver_all hv).2.1
          -- the sign ends where the reference says
          have ht : ∀ c u, l2.drop (sgnN (relP l2)).length = c :: u → sg c = false := by
            intro c u e
            cases hs : sg c
            · rfl
            · exfalso
              have e1 : yl3 l2 = c :: u := by unfold yl3; rw [e]; exact skip_nw fun c' u' e' => by cases e'; exact sg_wh hs
              rw [e1, List.takeWhile_cons, sg_yd hs] at hva
              simp only [if_true, List.all_cons, sg_wd hs] at hva
              cases hva
          have e1 := tw_app sg (sgnN (relP l2)) _ (sgn_sg _) ht
          rw [← e0] at e1
          have e2 : skip (l2.dropWhile sg) = yl3 l2 := by rw [e1.2]; rfl
          rw [e1.1, rel_sgn _ hp5, if_neg hp0, e2]
          have e3 : (yl3 l2).takeWhile wd = (yl3 l2).takeWhile yd ∧ (yl3 l2).dropWhile wd = (yl3 l2).dropWhile yd := by
            rcases two_preds wd_yd (yl3 l2) with k | ⟨c, u, k1, k2, k3, k4⟩
            · exact k
            · exfalso
              have := List.all_eq_true.1 hva c k4
              rw [k2] at this
              cases this
          rw [e3.1, e3.2]
          cases tk 41 (skip ((yl3 l2).dropWhile yd)) with
          | none => rfl
          | some l5 => simp only [may_iff hp5, hn, hv, Bool.and_self, if_true]
  · have hs := yd_wd h3 h2
    have hn : nmB (l.takeWhile yd) = false := by
      cases h : nmB (l.takeWhile yd)
      · rfl
      · have := List.all_eq_true.1 (nm_all h) c h4
        rw [h2] at this
        cases this
    have hy : yrdA l = .error 3 := by unfold yrdA yatom; rw [hn]; rfl
    have hsk : skip (l.dropWhile wd) = c :: r := by rw [h1]; exact skip_nw fun c' r' e => by cases e; exact sg_wh hs
    have ht : tk 40 (c :: r) = none := tk_ne (sg_ne hs).2.2.1 r
    unfold rdA atom
    rw [hsk, ht]
    simp only
    by_cases hm : may (l.takeWhile wd, 0, []) = true
    · rw [if_pos hm]
      exact .inr ⟨hy, _, _, rfl, by simp, tk_ne (sg_ne hs).1 r, tk_ne (sg_ne hs).2.1 r⟩
    · rw [if_neg hm]
      exact .inl hy.symm
theorem items_R {α : Type} {rc ry : Bs → Except Int (α × Bs)} (h : ∀ l, R (rc l) (ry l)) (c : UInt8) (hc : c = 44 ∨ c = 124) : ∀ k l, R (items rc c k l) (items ry c k l)
  | 0, _ => .inl rfl
  | k + 1, l => by
    unfold items
    rcases h l with e | ⟨e, x, r, e2, hs⟩
    · rw [e]
      cases ry l with
      | error e => exact .inl rfl
      | ok p =>
        obtain ⟨x, l1⟩ := p
        simp only
        cases ht : tk c l1 with
        | none => exact .inl rfl
        | some l2 =>
          simp only
          rcases items_R h c hc k l2 with e3 | ⟨e3, xs, r, e4, hs⟩
          · rw [e3]; exact .inl rfl
          · rw [e3, e4]; exact .inr ⟨rfl, _, _, rfl, hs⟩
    · rw [e, e2]
      simp only
      have ht : tk c r = none := by rcases hc with rfl | rfl; exact hs.2.1; exact hs.2.2
      rw [ht]
      exact .inr ⟨rfl, _, _, rfl, hs⟩
theorem whole_R {α : Type} {rc ry : Bs → Except Int (α × Bs)} (h : ∀ l, R (rc l) (ry l)) (s : Bs) : whole rc s = ywhole ry s := by
  unfold whole ywhole
  by_cases h0 : skip s = []
  · rw [if_pos h0, if_pos h0]
  rw [if_neg h0, if_neg h0]
  have key : ∀ k l, (match items rc 44 k l with | .error e => .error e | .ok (xs, r) => if r = [] then .ok xs else .error 3) = yitems ry k l := by
    intro k
    induction k with
    | zero => intro l; rfl
    | succ k ih =>
      intro l
      unfold items yitems
      rcases h l with e | ⟨e, x, r, e2, hs⟩
      · rw [e]
        cases ry l with
        | error e => rfl
        | ok p =>
          obtain ⟨x, l1⟩ := p
          simp only
          by_cases hl : l1 = []
          · subst hl
            simp [tk]
          · rw [if_neg hl]
            cases ht : tk 44 l1 with
            | none => simp only; rw [if_neg hl]
            | some l2 =>
              simp only
              rw [← ih l2]
              cases items rc 44 k l2 with
              | error e => rfl
              | ok q =>
                obtain ⟨xs, r⟩ := q
                simp only
                by_cases hr : r = []
                · rw [if_pos hr, if_pos hr]
                · rw [if_neg hr, if_neg hr]
      · rw [e, e2]
        simp only
        rw [hs.2.1]
        simp only
        rw [if_neg hs.1]
  exact key 12 _
theorem prv_R {c y : Except Int (At × Bs)} (h : R c y) : R (prv c) (prv y) := by
  rcases h with rfl | ⟨rfl, x, r, rfl, hs⟩
  · exact .inl rfl
  · unfold prv
    simp only
    by_cases h : x.2.1 = 0 ∨ x.2.1 = 3
    · rw [if_pos h]; exact .inr ⟨rfl, _, _, rfl, hs⟩
    · rw [if_neg h]; exact .inl rfl
theorem same_C (s : Bs) : whole rdC s = ywhole yrdC s := whole_R (fun l => items_R atom_R 124 (.inr rfl) 6 l) s
theorem same_A (s : Bs) : whole rdA s = ywhole yrdA s := whole_R atom_R s
theorem same_P (s : Bs) : whole rdP s = ywhole yrdP s := whole_R (fun l => prv_R (atom_R l)) s
/-! ### one atom -/
def one (s : Bs) : Option At := match atom (skip s) with
  | some (a, []) => some a
  | _ => none
theorem atom_nil : atom [] = none := by decide +kernel
theorem one_some {s : Bs} {a : At} (h : one s = some a) : whole rdC s = .ok [[a]] := by
  unfold one at h
  cases hx : atom (skip s) with
  | none => rw [hx] at h; cases h
  | some p =>
    obtain ⟨x, r⟩ := p
    rw [hx] at h
    cases r with
    | cons c t => cases h
    | nil =>
      cases h
      have h0 : skip s ≠ [] := fun e => by rw [e, atom_nil] at hx; cases hx
      unfold whole
      rw [if_neg h0]
      unfold items rdC items rdA
      rw [hx]
      rfl
theorem items_ne {α : Type} {rd : Bs → Except Int (α × Bs)} {c : UInt8} {k : Nat} {l r : Bs} {xs : List α} (h : items rd c k l = .ok (xs, r)) : xs ≠ [] := by
  rintro rfl
  cases k with
  | zero => cases h
  | succ k =>
    unfold items at h
    cases h1 : rd l with
    | error e => rw [h1] at h; cases h
    | ok p =>
      obtain ⟨x, l1⟩ := p
      rw [h1] at h
      simp only at h
      cases h2 : tk c l1 with
      | none => rw [h2] at h; cases h
      | some l2 =>
        rw [h2] at h
        simp only at h
        cases h3 : items rd c k l2 with
        | error e => rw [h3] at h; cases h
        | ok q => rw [h3] at h; cases h
theorem items_one {α : Type} {rd : Bs → Except Int (α × Bs)} {c : UInt8} {k : Nat} {l r : Bs} {x : α} (h : items rd c (k + 1) l = .ok ([x], r)) : rd l = .ok (x, r) ∧ tk c r = none := by
  unfold items at h
  cases h1 : rd l with
  | error e => rw [h1] at h; cases h
  | ok p =>
    obtain ⟨y, l1⟩ := p
    rw [h1] at h
    simp only at h
    cases h2 : tk c l1 with
    | none => rw [h2] at h; cases h; exact ⟨rfl, h2⟩
    | some l2 =>
      rw [h2] at h
      simp only at h
      cases h3 : items rd c k l2 with
      | error e => rw [h3] at h; cases h
      | ok q =>
        obtain ⟨ys, r3⟩ := q
        rw [h3] at h
        cases h
        exact absurd rfl (items_ne h3)
theorem one_none {s : Bs} (h : one s = none) (a : At) : whole rdC s ≠ .ok [[a]] := by
  intro hw
  unfold whole at hw
  by_cases h0 : skip s = []
  · rw [if_pos h0] at hw; cases hw
  rw [if_neg h0] at hw
  cases h1 : items rdC 44 12 (skip s) with
  | error e => rw [h1] at hw; cases hw
  | ok p =>
    obtain ⟨xs, r⟩ := p
    rw [h1] at hw
    simp only at hw
    by_cases hr : r = []
    · rw [if_pos hr] at hw
      cases hw
      subst hr
      have h2 := (items_one (k := 11) h1).1
      have h3 := (items_one (k := 5) h2).1
      unfold rdA at h3
      unfold one at h
      cases hx : atom (skip s) with
      | none => rw [hx] at h3; cases h3
      | some q =>
        rw [hx] at h3 h
        cases h3
        cases h
    · rw [if_neg hr] at hw; cases hw
end Rl
end Go.Proofs.YtapmpdljapbpeaaGreatDoor
namespace Go.Proofs.YtapmpdljapbpeaaGreatDoor
set_option linter.unusedSimpArgs false
set_option linter.unusedVariables false
namespace Rl
open Ver (Bs)
def txA (a : At) : Bs := if a.2.1 = 0 then a.1 else a.1 ++ [32] ++ [40] ++ sgnN a.2.1 ++ [32] ++ a.2.2 ++ [41]
def wAt (a : At) : Bs := if may a = true then txA a else []
def wrt {α : Type} (most : Nat) (sep : Bs) (one : α → Bs) (l : List α) : Bs := if most < l.length then [] else if l.any (fun x => (one x).isEmpty) = true then [] else Lib.join (l.map one) sep
def wCl : List At → Bs := wrt 6 [32, 124, 32] wAt
def text : List (List At) → Bs := wrt 12 [44, 32] wCl
def atoms : List At → Bs := wrt 12 [44, 32] wAt
def pvA (p : Pv) : At := (p.1, if p.2 = [] then 0 else 3, p.2)
def provs : List Pv → Bs := wrt 12 [44, 32] (fun p => wAt (pvA p))
theorem may_sizes {a : At} (h : may a = true) : a.1.length ≤ 24 ∧ a.2.2.length ≤ 48 := by
  obtain ⟨n, r, v⟩ := a
  unfold may at h
  simp only [Bool.and_eq_true] at h
  obtain ⟨h1, h2⟩ := h
  refine ⟨?_, ?_⟩
  · cases n with
    | nil => cases h1
    | cons c t =>
      unfold nmB at h1
      simp only [Bool.and_eq_true, decide_eq_true_eq] at h1
      simp; omega
  · by_cases hr : r = 0
    · rw [if_pos hr] at h2
      cases v with
      | nil => simp
      | cons c t => cases h2
    · rw [if_neg hr] at h2
      simp only [Bool.and_eq_true] at h2
      exact (ver_all h2.2).2.2
theorem sgn_len (r : Int) : (sgnN r).length ≤ 2 := by
  unfold sgnN
  repeat' split
  all_goals decide
theorem txA_len {a : At} (h : may a = true) : (txA a).length ≤ 78 := by
  obtain ⟨h1, h2⟩ := may_sizes h
  have := sgn_len a.2.1
  unfold txA
  split
  · omega
  · simp only [List.length_append, List.length_cons, List.length_nil]; omega
theorem wAt_len (a : At) : (wAt a).length ≤ 78 := by
  unfold wAt
  split
  · rename_i h; exact txA_len h
  · simp
theorem txA_ne {a : At} (h : may a = true) : txA a ≠ [] := by
  have hn : nmB a.1 = true := by unfold may at h; simp only [Bool.and_eq_true] at h; exact h.1
  have := nm_ne hn
  unfold txA
  split
  · exact this
  · simp
theorem join_len (sep : Bs) (m : Nat) : ∀ ls : List Bs, (∀ l ∈ ls, l.length ≤ m) → (Lib.join ls sep).length ≤ ls.length * (m + sep.length)
  | [], _ => by simp [Lib.join]
  | [x], h => by have := h x (by simp); simp [Lib.join]; omega
  | x :: y :: r, h => by
    have h1 := h x (by simp)
    have h2 := join_len sep m (y :: r) fun l hl => h l (List.mem_cons_of_mem _ hl)
    have e : Lib.join (x :: y :: r) sep = x ++ sep ++ Lib.join (y :: r) sep := by simp [Lib.join]
    rw [e]
    simp only [List.length_append, List.length_cons] at h2 ⊢
    rw [Nat.add_mul _ 1]
    omega
theorem wCl_len (c : List At) : (wCl c).length ≤ 600 := by
  unfold wCl wrt
  split
  · simp
  · split
    · simp
    · rename_i h _
      have := join_len [32, 124, 32] 78 (c.map wAt) fun l hl => by
        obtain ⟨a, _, rfl⟩ := List.mem_map.1 hl
        exact wAt_len a
      rw [List.length_map] at this
      have h6 : c.length ≤ 6 := by omega
      have := Nat.le_trans this (Nat.mul_le_mul_right _ h6)
      simpa using Nat.le_trans this (by simp)
end Rl
end Go.Proofs.YtapmpdljapbpeaaGreatDoor

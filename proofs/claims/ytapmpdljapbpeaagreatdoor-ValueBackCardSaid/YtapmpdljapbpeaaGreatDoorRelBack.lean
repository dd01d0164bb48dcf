/-
What is written, with more or less white space, is read as it was.
-/
import Derived.Test.YtapmpdljapbpeaaGreatDoorRelDef
namespace Go.Proofs.YtapmpdljapbpeaaGreatDoor
set_option linter.unusedSimpArgs false
set_option linter.unusedVariables false
namespace Rl
open Ver (Bs)
def white (g : Bs) : Prop := g.all wh = true
theorem white_nil : white [] := rfl
theorem white_app {a b : Bs} (h : white a) (k : white b) : white (a ++ b) := by
  unfold white at *
  rw [List.all_append, h, k]
  rfl
/-- What may stand for a byte of a written text. -/
def Piece (c : UInt8) (p : Bs) : Prop := (c = 32 ∧ white p) ∨ (mk c = true ∧ ∃ g g', p = g ++ c :: g' ∧ white g ∧ white g') ∨ (c ≠ 32 ∧ mk c = false ∧ p = [c])
inductive Wid : Bs → Bs → Prop
  | nil : Wid [] []
  | cons {c : UInt8} {p r r' : Bs} : Piece c p → Wid r r' → Wid (c :: r) (p ++ r')
theorem wid_refl : ∀ l, Wid l l
  | [] => .nil
  | c :: r => by
    refine .cons (p := [c]) ?_ (wid_refl r)
    by_cases h : c = 32
    · subst h; exact .inl ⟨rfl, rfl⟩
    · cases hm : mk c with
      | true => exact .inr (.inl ⟨hm, [], [], rfl, rfl, rfl⟩)
      | false => exact .inr (.inr ⟨h, hm, rfl⟩)
theorem wid_split : ∀ {a b l : Bs}, Wid (a ++ b) l → ∃ l1 l2, l = l1 ++ l2 ∧ Wid a l1 ∧ Wid b l2
  | [], b, l, h => ⟨[], l, rfl, .nil, h⟩
  | c :: r, b, l, h => by
    rw [List.cons_append] at h
    cases h with
    | cons hp hr =>
      obtain ⟨l1, l2, rfl, h1, h2⟩ := wid_split hr
      exact ⟨_ ++ l1, l2, by rw [List.append_assoc], .cons hp h1, h2⟩
theorem wid_same : ∀ {n l : Bs}, n.all yd = true → Wid n l → l = n
  | [], l, _, h => by cases h; rfl
  | c :: r, l, hn, h => by
    rw [List.all_cons, Bool.and_eq_true] at hn
    cases h with
    | cons hp hr =>
      rw [wid_same hn.2 hr]
      obtain ⟨h1, _⟩ := hn
      unfold yd at h1
      rcases hp with ⟨rfl, _⟩ | ⟨h2, _⟩ | ⟨_, _, rfl⟩
      · exact absurd h1 (by decide)
      · rw [h2] at h1; simp at h1
      · rfl
theorem wid_space {l : Bs} (h : Wid [32] l) : white l := by
  cases h with
  | cons hp hr =>
    cases hr
    rw [List.append_nil]
    rcases hp with ⟨_, h⟩ | ⟨h, _⟩ | ⟨h, _⟩
    · exact h
    · exact absurd h (by decide)
    · exact absurd rfl h
theorem wid_mark {c : UInt8} {l : Bs} (hc : mk c = true) (h : Wid [c] l) : ∃ g g', l = g ++ c :: g' ∧ white g ∧ white g' := by
  cases h with
  | cons hp hr =>
    cases hr
    rw [List.append_nil]
    rcases hp with ⟨rfl, _⟩ | ⟨_, h⟩ | ⟨_, h, _⟩
    · exact absurd hc (by decide)
    · exact h
    · rw [hc] at h; cases h
/-- A text that stands for an atom; white space may follow. -/
def AtomAs (a : At) (l : Bs) : Prop :=
  (a.2.1 = 0 ∧ ∃ g, white g ∧ l = a.1 ++ g) ∨
  (a.2.1 ≠ 0 ∧ ∃ g1 g2 g3 g4 g5, white g1 ∧ white g2 ∧ white g3 ∧ white g4 ∧ white g5 ∧ l = a.1 ++ (g1 ++ 40 :: (g2 ++ (sgnN a.2.1 ++ (g3 ++ (a.2.2 ++ (g4 ++ 41 :: g5)))))))
theorem atomAs_white {a : At} {l g : Bs} (h : AtomAs a l) (hg : white g) : AtomAs a (l ++ g) := by
  rcases h with ⟨h0, g0, w0, rfl⟩ | ⟨h0, g1, g2, g3, g4, g5, w1, w2, w3, w4, w5, rfl⟩
  · exact .inl ⟨h0, g0 ++ g, white_app w0 hg, by simp⟩
  · exact .inr ⟨h0, g1, g2, g3, g4, g5 ++ g, w1, w2, w3, w4, white_app w5 hg, by simp⟩
theorem sgn_yd (r : Int) : (sgnN r).all yd = true := all_mono (fun c => sg_yd) (sgn_sg r)
theorem may_parts {a : At} (h : may a = true) : nmB a.1 = true ∧ ((a.2.1 = 0 ∧ a.2.2 = []) ∨ (a.2.1 ≠ 0 ∧ (1 ≤ a.2.1 ∧ a.2.1 ≤ 5) ∧ isV a.2.2 = true)) := by
  unfold may at h
  rw [Bool.and_eq_true] at h
  refine ⟨h.1, ?_⟩
  have h2 := h.2
  by_cases h0 : a.2.1 = 0
  · rw [if_pos h0, List.isEmpty_iff] at h2
    exact .inl ⟨h0, h2⟩
  · rw [if_neg h0, Bool.and_eq_true, decide_eq_true_eq] at h2
    exact .inr ⟨h0, h2⟩
theorem nm_head {n : Bs} (h : nmB n = true) : ∃ c r, n = c :: r ∧ wh c = false := by
  cases n with
  | nil => cases h
  | cons c r =>
    have := nm_all h
    rw [List.all_cons, Bool.and_eq_true] at this
    refine ⟨c, r, rfl, ?_⟩
    have h1 := this.1
    unfold wd at h1
    cases hw : wh c
    · rfl
    · rw [hw] at h1; simp at h1
theorem atomAs_head {a : At} {l : Bs} (hm : may a = true) (h : AtomAs a l) : ∃ c r, l = c :: r ∧ wh c = false := by
  obtain ⟨c, r, e, hc⟩ := nm_head (may_parts hm).1
  rcases h with ⟨h0, g0, w0, rfl⟩ | ⟨h0, g1, g2, g3, g4, g5, w1, w2, w3, w4, w5, rfl⟩ <;> exact ⟨c, _, by rw [e]; rfl, hc⟩
theorem txA_as {a : At} {l : Bs} (hm : may a = true) (h : Wid (txA a) l) : AtomAs a l := by
  obtain ⟨hn, hr⟩ := may_parts hm
  have hny : a.1.all yd = true := all_mono (fun c => wd_yd c) (nm_all hn)
  unfold txA at h
  rcases hr with ⟨h0, h1⟩ | ⟨h0, h1, h2⟩
  · rw [if_pos h0] at h
    exact .inl ⟨h0, [], rfl, by rw [wid_same hny h, List.append_nil]⟩
  · rw [if_neg h0] at h
    have hvy : a.2.2.all yd = true := all_mono (fun c => wd_yd c) (ver_wd h2)
    obtain ⟨l6, p6, e6, j6, k6⟩ := wid_split h
    obtain ⟨l5, p5, e5, j5, k5⟩ := wid_split j6
    obtain ⟨l4, p4, e4, j4, k4⟩ := wid_split j5
    obtain ⟨l3, p3, e3, j3, k3⟩ := wid_split j4
    obtain ⟨l2, p2, e2, j2, k2⟩ := wid_split j3
    obtain ⟨l1, p1, e1, j1, k1⟩ := wid_split j2
    obtain ⟨x, x', rfl, wx, wx'⟩ := wid_mark (by decide) k6
    obtain ⟨y, y', rfl, wy, wy'⟩ := wid_mark (by decide) k2
    rw [e6, e5, e4, e3, e2, e1, wid_same hvy k5, wid_same (sgn_yd _) k3, wid_same hny j1]
    exact .inr ⟨h0, p1 ++ y, y', p4, x, x', white_app (wid_space k1) wy, wy', wid_space k4, wx, wx', by simp⟩
def Ends (t : Bs) : Prop := t = [] ∨ ∃ c r, t = c :: r ∧ (c = 44 ∨ c = 124)
theorem ends_skip {t : Bs} (h : Ends t) : skip t = t := skip_nw fun c r e => by
  rcases h with rfl | ⟨c', r', rfl, h⟩
  · cases e
  · cases e
    rcases h with rfl | rfl <;> decide
theorem white_stop {p : UInt8 → Bool} (hp : ∀ c, wh c = true → p c = false) {g t : Bs} (hg : white g) (ht : ∀ c r, t = c :: r → p c = false) : ∀ c r, g ++ t = c :: r → p c = false := by
  intro c r e
  cases g with
  | nil => exact ht c r e
  | cons x g =>
    unfold white at hg
    rw [List.all_cons, Bool.and_eq_true] at hg
    rw [List.cons_append] at e
    cases e
    exact hp _ hg.1
theorem wh_wd (c : UInt8) (h : wh c = true) : wd c = false := by unfold wd; rw [h]; rfl
theorem wh_sg (c : UInt8) (h : wh c = true) : sg c = false := by
  cases hs : sg c
  · rfl
  · rw [sg_wh hs] at h; cases h
theorem as_atom {a : At} {l t : Bs} (hm : may a = true) (h : AtomAs a l) (ht : Ends t) : atom (l ++ t) = some (a, t) := by
  obtain ⟨hn, hr⟩ := may_parts hm
  have hst := ends_skip ht
  have hwt : ∀ c r, t = c :: r → wd c = false := fun c r e => by
    rcases ht with rfl | ⟨c', r', rfl, h⟩
    · cases e
    · cases e
      rcases h with rfl | rfl <;> decide
  rcases h with ⟨h0, g, wg, rfl⟩ | ⟨h0, g1, g2, g3, g4, g5, w1, w2, w3, w4, w5, rfl⟩
  · obtain ⟨e1, e2⟩ := tw_app wd a.1 (g ++ t) (nm_all hn) (white_stop wh_wd wg hwt)
    have e3 : tk 40 (skip (g ++ t)) = none := by
      rw [skip_w wg, hst]
      rcases ht with rfl | ⟨c', r', rfl, h⟩
      · rfl
      · exact tk_ne (by rcases h with rfl | rfl <;> decide) _
    have hz : a.2.2 = [] := by
      rcases hr with ⟨_, h⟩ | ⟨h, _⟩
      · exact h
      · exact absurd h0 h
    have ea : a = (a.1, 0, []) := by
      obtain ⟨x, y, z⟩ := a
      simp only at h0 hz
      rw [h0, hz]
    unfold atom
    rw [List.append_assoc, e1, e2, e3]
    simp only
    rw [← ea, if_pos hm, skip_w wg, hst]
  · have hv : (1 ≤ a.2.1 ∧ a.2.1 ≤ 5) ∧ isV a.2.2 = true := by
      rcases hr with ⟨h, _⟩ | ⟨_, h⟩
      · exact absurd h h0
      · exact h
    obtain ⟨vc, vr, hvc⟩ : ∃ c r, a.2.2 = c :: r := by
      cases hx : a.2.2 with
      | nil => exact absurd hx (ver_all hv.2).2.1
      | cons c r => exact ⟨c, r, rfl⟩
    have hvw := ver_wd hv.2
    have hvh : wd vc = true := by rw [hvc, List.all_cons, Bool.and_eq_true] at hvw; exact hvw.1
    have hvs : sg vc = false := by
      cases hs : sg vc
      · rfl
      · rw [sg_wd hs] at hvh; cases hvh
    have hvx : wh vc = false := by
      cases hs : wh vc
      · rfl
      · rw [wh_wd _ hs] at hvh; cases hvh
    have hsn : ∃ c r, sgnN a.2.1 = c :: r := by
      cases hx : sgnN a.2.1 with
      | nil =>
        have := rel_sgn _ hv.1
        rw [hx, rel_nil] at this
        exact absurd this.symm h0
      | cons c r => exact ⟨c, r, rfl⟩
    have hss := sgn_sg a.2.1
    have hrs := rel_sgn _ hv.1
    have e1 := tw_app wd a.1 (g1 ++ 40 :: (g2 ++ (sgnN a.2.1 ++ (g3 ++ (a.2.2 ++ (g4 ++ 41 :: (g5 ++ t))))))) (nm_all hn) (white_stop wh_wd w1 fun c r e => by cases e; decide)
    have e2 : tk 40 (skip (g1 ++ 40 :: (g2 ++ (sgnN a.2.1 ++ (g3 ++ (a.2.2 ++ (g4 ++ 41 :: (g5 ++ t)))))))) = some (sgnN a.2.1 ++ (g3 ++ (a.2.2 ++ (g4 ++ 41 :: (g5 ++ t))))) := by
      rw [skip_w w1, skip_nw (l := 40 :: _) (fun c r e => by cases e; decide), tk_cons, skip_w w2]
      congr 1
      refine skip_nw fun c r e => ?_
      obtain ⟨c', r', hc⟩ := hsn
      rw [hc] at e hss
      cases e
      rw [List.all_cons, Bool.and_eq_true] at hss
      exact sg_wh hss.1
    have e3 := tw_app sg (sgnN a.2.1) (g3 ++ (a.2.2 ++ (g4 ++ 41 :: (g5 ++ t)))) hss (white_stop wh_sg w3 fun c r e => by rw [hvc] at e; cases e; exact hvs)
    have e4 : skip (g3 ++ (a.2.2 ++ (g4 ++ 41 :: (g5 ++ t)))) = a.2.2 ++ (g4 ++ 41 :: (g5 ++ t)) := by
      rw [skip_w w3]
      exact skip_nw fun c r e => by rw [hvc] at e; cases e; exact hvx
    have e5 := tw_app wd a.2.2 (g4 ++ 41 :: (g5 ++ t)) hvw (white_stop wh_wd w4 fun c r e => by cases e; decide)
    have e6 : tk 41 (skip (g4 ++ 41 :: (g5 ++ t))) = some t := by
      rw [skip_w w4, skip_nw (l := 41 :: _) (fun c r e => by cases e; decide), tk_cons, skip_w w5, hst]
    unfold atom
    simp only [List.append_assoc, List.cons_append]
    rw [e1.1, e1.2, e2]
    simp only
    rw [e3.1, e3.2, e4, e5.1, e5.2, e6, hrs, if_neg h0]
    simp only
    rw [show (a.1, a.2.1, a.2.2) = a from rfl, if_pos hm]
section
variable {α : Type}
inductive Its (P : α → Bs → Prop) (c : UInt8) : List α → Bs → Prop
  | one {x : α} {l : Bs} : P x l → Its P c [x] l
  | more {x : α} {xs : List α} {l g m : Bs} : P x l → white g → Its P c xs m → Its P c (x :: xs) (l ++ c :: (g ++ m))
theorem its_white {P : α → Bs → Prop} (hP : ∀ x l g, P x l → white g → P x (l ++ g)) {c : UInt8} {xs : List α} {l g : Bs} (h : Its P c xs l) (hg : white g) : Its P c xs (l ++ g) := by
  induction h with
  | one h => exact .one (hP _ _ _ h hg)
  | more h wg _ ih =>
    rw [List.append_assoc, List.cons_append, List.append_assoc]
    exact .more h wg ih
theorem its_head {P : α → Bs → Prop} (hP : ∀ x l, P x l → ∃ c r, l = c :: r ∧ wh c = false) {c : UInt8} {xs : List α} {l : Bs} (h : Its P c xs l) : ∃ c r, l = c :: r ∧ wh c = false := by
  cases h with
  | one h => exact hP _ _ h
  | more h _ _ =>
    obtain ⟨c', r', e, hc⟩ := hP _ _ h
    exact ⟨c', _, by rw [e]; rfl, hc⟩
theorem head_skip {l : Bs} (h : ∃ c r, l = c :: r ∧ wh c = false) (t : Bs) : skip (l ++ t) = l ++ t := skip_nw fun c r e => by
  obtain ⟨c', r', rfl, hc⟩ := h
  cases e
  exact hc
/-- As many items as may be, read as they were; too many are refused. -/
theorem its_items {P : α → Bs → Prop} {rd : Bs → Except Int (α × Bs)} {c : UInt8} (hP : ∀ x l, P x l → ∃ c r, l = c :: r ∧ wh c = false) (t : Bs) (ht : tk c t = none)
    (hrd : ∀ x l u, P x l → (u = t ∨ ∃ r, u = c :: r) → rd (l ++ u) = .ok (x, u)) {xs : List α} {l : Bs} (h : Its P c xs l) : ∀ k, items rd c k (l ++ t) = if xs.length ≤ k then .ok (xs, t) else .error 12 := by
  induction h with
  | one h =>
    intro k
    cases k with
    | zero => rfl
    | succ k =>
      unfold items
      rw [hrd _ _ t h (.inl rfl)]
      simp only
      rw [ht]
      simp
  | @more x xs l g m h wg hm ih =>
    intro k
    cases k with
    | zero => rw [if_neg (by simp)]; rfl
    | succ k =>
      unfold items
      rw [List.append_assoc, List.cons_append, List.append_assoc, hrd _ _ _ h (.inr ⟨_, rfl⟩)]
      simp only
      rw [tk_cons, skip_w wg, head_skip (its_head hP hm)]
      simp only
      rw [ih k]
      by_cases hk : xs.length ≤ k
      · rw [if_pos hk, if_pos (by simp; omega)]
      · rw [if_neg hk, if_neg (by simp; omega)]
theorem its_whole {P : α → Bs → Prop} {rd : Bs → Except Int (α × Bs)} (hP : ∀ x l, P x l → ∃ c r, l = c :: r ∧ wh c = false)
    (hrd : ∀ x l u, P x l → (u = [] ∨ ∃ r, u = 44 :: r) → rd (l ++ u) = .ok (x, u)) {xs : List α} {g l : Bs} (hg : white g) (h : Its P 44 xs l) : whole rd (g ++ l) = if xs.length ≤ 12 then .ok xs else .error 12 := by
  have h1 : skip (g ++ l) = l := by
    rw [skip_w hg]
    have := head_skip (its_head hP h) []
    rwa [List.append_nil] at this
  unfold whole
  rw [h1]
  have h2 : l ≠ [] := by
    obtain ⟨c, r, e, _⟩ := its_head hP h
    rw [e]
    simp
  have h3 := its_items hP [] rfl hrd h 12
  rw [List.append_nil] at h3
  rw [if_neg h2, h3]
  by_cases hk : xs.length ≤ 12
  · rw [if_pos hk, if_pos hk]; simp
  · rw [if_neg hk, if_neg hk]
theorem join_two (x y : Bs) (r : List Bs) (sep : Bs) : Lib.join (x :: y :: r) sep = x ++ (sep ++ Lib.join (y :: r) sep) := by
  rw [Lib.join_cons, Lib.join_cons]
  simp [Lib.joinTail]
theorem join_its {P : α → Bs → Prop} (hP : ∀ x l g, P x l → white g → P x (l ++ g)) {c : UInt8} {sep : Bs} (hs : ∀ l, Wid sep l → ∃ g g', l = g ++ c :: g' ∧ white g ∧ white g') (f : α → Bs) :
    ∀ (xs : List α), xs ≠ [] → (∀ x ∈ xs, ∀ l, Wid (f x) l → P x l) → ∀ l, Wid (Lib.join (xs.map f) sep) l → Its P c xs l
  | [], h, _, _, _ => absurd rfl h
  | [x], _, hx, l, hw => .one (hx x (.head _) l (by rw [List.map_cons, List.map_nil, Lib.join_one] at hw; exact hw))
  | x :: y :: r, _, hx, l, hw => by
    have e : Lib.join ((x :: y :: r).map f) sep = f x ++ (sep ++ Lib.join ((y :: r).map f) sep) := by
      exact join_two _ _ _ _
    rw [e] at hw
    obtain ⟨l1, l2, rfl, h1, h2⟩ := wid_split hw
    obtain ⟨l3, l4, rfl, h3, h4⟩ := wid_split h2
    obtain ⟨g, g', rfl, wg, wg'⟩ := hs _ h3
    have ih := join_its hP hs f (y :: r) (by simp) (fun z hz => hx z (.tail _ hz)) l4 h4
    rw [show l1 ++ (g ++ c :: g' ++ l4) = (l1 ++ g) ++ c :: (g' ++ l4) by simp]
    exact .more (hP _ _ _ (hx x (.head _) _ h1) wg) wg' ih
theorem wrt_ne {most : Nat} {sep : Bs} {f : α → Bs} {l : List α} (h : wrt most sep f l ≠ []) : l ≠ [] ∧ l.length ≤ most ∧ (∀ x ∈ l, f x ≠ []) ∧ wrt most sep f l = Lib.join (l.map f) sep := by
  unfold wrt at h ⊢
  by_cases h1 : most < l.length
  · rw [if_pos h1] at h; exact absurd rfl h
  · rw [if_neg h1] at h ⊢
    by_cases h2 : l.any (fun x => (f x).isEmpty) = true
    · rw [if_pos h2] at h; exact absurd rfl h
    · rw [if_neg h2] at h ⊢
      refine ⟨?_, by omega, fun x hx e => h2 ?_, rfl⟩
      · rintro rfl; exact h rfl
      · rw [List.any_eq_true]
        exact ⟨x, hx, by rw [e]; rfl⟩
end
theorem wAt_may {a : At} (h : wAt a ≠ []) : may a = true ∧ wAt a = txA a := by
  unfold wAt at h ⊢
  cases hm : may a with
  | true => exact ⟨rfl, rfl⟩
  | false => rw [hm] at h; exact absurd rfl h
def PA (a : At) (l : Bs) : Prop := may a = true ∧ AtomAs a l
def PC (c : List At) (l : Bs) : Prop := c.length ≤ 6 ∧ Its PA 124 c l
def PP (p : Pv) (l : Bs) : Prop := PA (pvA p) l
theorem PA.white {a : At} {l g : Bs} (h : PA a l) (hg : white g) : PA a (l ++ g) := ⟨h.1, atomAs_white h.2 hg⟩
theorem PA.head {a : At} {l : Bs} (h : PA a l) : ∃ c r, l = c :: r ∧ wh c = false := atomAs_head h.1 h.2
theorem PC.white {c : List At} {l g : Bs} (h : PC c l) (hg : white g) : PC c (l ++ g) := ⟨h.1, its_white (fun _ _ _ h hg => h.white hg) h.2 hg⟩
theorem PC.head {c : List At} {l : Bs} (h : PC c l) : ∃ c r, l = c :: r ∧ wh c = false := its_head (fun _ _ h => h.head) h.2
theorem PA.rd {a : At} {l t : Bs} (h : PA a l) (ht : Ends t) : rdA (l ++ t) = .ok (a, t) := by
  unfold rdA
  rw [as_atom h.1 h.2 ht]
theorem ends44 {u : Bs} (h : u = [] ∨ ∃ r, u = 44 :: r) : Ends u := by
  rcases h with rfl | ⟨r, rfl⟩
  · exact .inl rfl
  · exact .inr ⟨_, _, rfl, .inl rfl⟩
theorem PC.rd {c : List At} {l t : Bs} (h : PC c l) (ht : t = [] ∨ ∃ r, t = 44 :: r) : rdC (l ++ t) = .ok (c, t) := by
  unfold rdC
  rw [its_items (fun _ _ h => h.head) t (by rcases ht with rfl | ⟨r, rfl⟩; · rfl
                                            · exact tk_ne (by decide) _) (fun x m u hx hu => hx.rd (by
    rcases hu with rfl | ⟨r, rfl⟩
    · exact ends44 ht
    · exact .inr ⟨_, _, rfl, .inr rfl⟩)) h.2 6, if_pos h.1]
theorem PP.rd {p : Pv} {l t : Bs} (h : PP p l) (ht : t = [] ∨ ∃ r, t = 44 :: r) : rdP (l ++ t) = .ok (p, t) := by
  unfold rdP
  rw [PA.rd h (ends44 ht)]
  obtain ⟨x, y⟩ := p
  unfold prv pvA
  simp only
  by_cases hy : y = []
  · subst hy; rfl
  · rw [if_neg hy, if_pos (.inr rfl)]
theorem sep_at {l : Bs} (h : Wid [44, 32] l) : ∃ g g', l = g ++ 44 :: g' ∧ white g ∧ white g' := by
  obtain ⟨l1, l2, rfl, h1, h2⟩ := wid_split (a := [44]) (b := [32]) h
  obtain ⟨g, g', rfl, w1, w2⟩ := wid_mark (by decide) h1
  exact ⟨g, g' ++ l2, by simp, w1, white_app w2 (wid_space h2)⟩
theorem sep_or {l : Bs} (h : Wid [32, 124, 32] l) : ∃ g g', l = g ++ 124 :: g' ∧ white g ∧ white g' := by
  obtain ⟨l1, l2, rfl, h1, h2⟩ := wid_split (a := [32, 124]) (b := [32]) h
  obtain ⟨l3, l4, rfl, h3, h4⟩ := wid_split (a := [32]) (b := [124]) h1
  obtain ⟨g, g', rfl, w1, w2⟩ := wid_mark (by decide) h4
  exact ⟨l3 ++ g, g' ++ l2, by simp, white_app (wid_space h3) w1, white_app w2 (wid_space h2)⟩
theorem wAt_as {a : At} (h : wAt a ≠ []) {l : Bs} (hw : Wid (wAt a) l) : PA a l := by
  obtain ⟨hm, e⟩ := wAt_may h
  rw [e] at hw
  exact ⟨hm, txA_as hm hw⟩
theorem wCl_as {c : List At} (h : wCl c ≠ []) {l : Bs} (hw : Wid (wCl c) l) : PC c l := by
  obtain ⟨h1, h2, h3, h4⟩ := wrt_ne h
  rw [show wCl c = _ from h4] at hw
  exact ⟨h2, join_its (fun _ _ _ h hg => PA.white h hg) (fun _ h => sep_or h) wAt c h1 (fun a ha l hw => wAt_as (h3 a ha) hw) l hw⟩
theorem clauses_its {xs : List (List At)} (h : xs ≠ []) (h3 : ∀ c ∈ xs, wCl c ≠ []) {l : Bs} (hw : Wid (Lib.join (xs.map wCl) [44, 32]) l) : Its PC 44 xs l :=
  join_its (fun _ _ _ h hg => PC.white h hg) (fun _ h => sep_at h) wCl xs h (fun a ha l hw => wCl_as (h3 a ha) hw) l hw
theorem clauses_whole {xs : List (List At)} {g l : Bs} (hg : white g) (h : Its PC 44 xs l) : whole rdC (g ++ l) = if xs.length ≤ 12 then .ok xs else .error 12 :=
  its_whole (fun _ _ h => PC.head h) (fun x l u h hu => PC.rd h hu) hg h
/-- Clauses as a text, with white space, are read as they were. -/
theorem text_back {xs : List (List At)} (h : text xs ≠ []) {l g g' : Bs} (hw : Wid (text xs) l) (hg : white g) (hg' : white g') : whole rdC (g ++ (l ++ g')) = .ok xs := by
  obtain ⟨h1, h2, h3, h4⟩ := wrt_ne h
  rw [show text xs = _ from h4] at hw
  rw [clauses_whole hg (its_white (fun _ _ _ h hg => PC.white h hg) (clauses_its h1 h3 hw) hg'), if_pos h2]
theorem text_own {xs : List (List At)} (h : text xs ≠ [] ∨ xs = []) : whole rdC (text xs) = .ok xs := by
  by_cases h0 : xs = []
  · subst h0; rfl
  · have h1 := h.resolve_right h0
    have := text_back h1 (wid_refl _) white_nil white_nil
    rwa [List.nil_append, List.append_nil] at this
theorem atoms_own {xs : List At} (h : atoms xs ≠ [] ∨ xs = []) : whole rdA (atoms xs) = .ok xs := by
  by_cases h0 : xs = []
  · subst h0; rfl
  · obtain ⟨h1, h2, h3, h4⟩ := wrt_ne (h.resolve_right h0)
    have := its_whole (g := []) (rd := rdA) (fun _ _ h => PA.head h) (fun x l u h hu => PA.rd h (ends44 hu)) white_nil (join_its (fun _ _ _ h hg => PA.white h hg) (fun _ h => sep_at h) wAt xs h1 (fun a ha l hw => wAt_as (h3 a ha) hw) _ (wid_refl _))
    rw [List.nil_append, if_pos h2] at this
    rw [show atoms xs = _ from h4]
    exact this
theorem provs_own {xs : List Pv} (h : provs xs ≠ [] ∨ xs = []) : whole rdP (provs xs) = .ok xs := by
  by_cases h0 : xs = []
  · subst h0; rfl
  · obtain ⟨h1, h2, h3, h4⟩ := wrt_ne (h.resolve_right h0)
    have := its_whole (g := []) (rd := rdP) (P := PP) (fun _ _ h => PA.head h) (fun x l u h hu => PP.rd h hu) white_nil (join_its (fun _ _ _ h hg => PA.white h hg) (fun _ h => sep_at h) (fun p => wAt (pvA p)) xs h1 (fun a ha l hw => wAt_as (h3 a ha) hw) _ (wid_refl _))
    rw [List.nil_append, if_pos h2] at this
    rw [show provs xs = _ from h4]
    exact this
end Rl
end Go.Proofs.YtapmpdljapbpeaaGreatDoor

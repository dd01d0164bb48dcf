/-
Stanzas as lists of bytes: what is printed is read as it was; remarks and empty lines make no difference; what is read may be printed.
-/
import Derived.Test.YtgolnfgkoolpoaaDoorStzDef
namespace Go.Proofs.YtgolnfgkoolpoaaDoor
set_option linter.unusedSimpArgs false
set_option linter.unusedVariables false
namespace Stz
open Txt (W trimL trimRight trimLeft)
/-! ### signs and names -/
theorem sgn_iff {c : UInt8} : sgn c = true ↔ 33 ≤ c.toNat ∧ c.toNat ≤ 126 ∧ c.toNat ≠ 58 := by
  unfold sgn
  simp [UInt8.le_iff_toNat_le, ← UInt8.toNat_inj, and_assoc]
theorem sgn_black {c : UInt8} (h : sgn c = true) : W c = false := by
  have := sgn_iff.1 h
  unfold W Txt.wht
  simp; omega
theorem name_cons {nm : Bs} (h : nameB nm = true) : ∃ c r, nm = c :: r ∧ sgn c = true ∧ c ≠ 35 ∧ ∀ d ∈ nm, sgn d = true := by
  cases nm with
  | nil => cases h
  | cons c r =>
    unfold nameB at h
    simp only [Bool.and_eq_true, Bool.not_eq_true', decide_eq_false_iff_not, List.all_eq_true] at h
    exact ⟨c, r, rfl, h.1.1.1, h.1.1.2, fun d hd => by
      rcases List.mem_cons.1 hd with rfl | hd
      · exact h.1.1.1
      · exact h.2 d hd⟩
theorem cut_app {nm : Bs} (h : ∀ d ∈ nm, d ≠ 58) (r : Bs) : cutL (nm ++ 58 :: r) = some (nm, r) := by
  induction nm with
  | nil => rfl
  | cons c nm ih =>
    show (if c = 58 then some ([], nm ++ 58 :: r) else (cutL (nm ++ 58 :: r)).map fun p => (c :: p.1, p.2)) = _
    rw [if_neg (h c (.head _)), ih fun d hd => h d (.tail _ hd)]
    rfl
theorem cut_eq : ∀ {l a r : Bs}, cutL l = some (a, r) → l = a ++ 58 :: r ∧ ∀ d ∈ a, d ≠ 58
  | [], a, r, h => by cases h
  | c :: l, a, r, h => by
    have h' : (if c = 58 then some ([], l) else (cutL l).map fun p => (c :: p.1, p.2)) = some (a, r) := h
    by_cases hc : c = 58
    · rw [if_pos hc] at h'
      obtain ⟨rfl, rfl⟩ := Prod.mk.inj (Option.some.inj h')
      exact ⟨by rw [hc]; rfl, fun d hd => by cases hd⟩
    · rw [if_neg hc] at h'
      cases hq : cutL l with
      | none => rw [hq] at h'; cases h'
      | some p =>
        obtain ⟨p1, p2⟩ := p
        rw [hq] at h'
        obtain ⟨rfl, rfl⟩ := Prod.mk.inj (Option.some.inj h')
        obtain ⟨h1, h2⟩ := cut_eq hq
        refine ⟨by rw [h1]; rfl, fun d hd => ?_⟩
        rcases List.mem_cons.1 hd with rfl | hd
        · exact hc
        · exact h2 d hd
theorem sgn_colon {c : UInt8} (h : sgn c = true) : c ≠ 58 := by
  rintro rfl
  exact (sgn_iff.1 h).2.2 rfl
theorem trim_black {c : UInt8} (h : W c = false) (l : Bs) : ∃ r, trimL (c :: l) = c :: r := by
  unfold Txt.trimL
  rw [Txt.trimLeft_keep h]
  exact Txt.trimRight_first h l
theorem trim_space (x : Bs) : trimL (32 :: x) = trimL x := by
  unfold Txt.trimL
  conv => lhs; unfold Txt.trimLeft
  rw [if_pos (by decide)]
theorem right_right (k : Bs) : trimRight (trimRight k) = trimRight k := by
  obtain ⟨_, _, _, h⟩ := Txt.trimRight_eq k
  rcases h with h | ⟨c, r, h, hc⟩
  · rw [h]; rfl
  · rw [h, Txt.trimRight_keep hc]
theorem further_self {x : Bs} : further x = x ↔ trimRight x = x ∧ x ≠ [46] := by
  unfold further
  constructor
  · intro h
    split at h
    · next e =>
      subst h
      exact absurd e (by decide)
    · next e => exact ⟨h, fun h' => e (by rw [h, h'])⟩
  · rintro ⟨h1, h2⟩
    rw [h1, if_neg h2]
theorem further_further (x : Bs) : further (further x) = further x := by
  rw [further_self]
  unfold further
  split
  · exact ⟨rfl, by decide⟩
  · next e => exact ⟨right_right x, e⟩
/-! ### a line -/
theorem take_name {z : Zip} {nm r : Bs} (h : nameB nm = true) (n : Int) : take z (nm ++ 58 :: r) n = begin z nm r n := by
  obtain ⟨c, q, rfl, hs, hc, hall⟩ := name_cons h
  have hb := sgn_black hs
  unfold take
  rw [if_neg (by simpa using hc)]
  obtain ⟨t, ht⟩ := trim_black hb (q ++ 58 :: r)
  rw [List.cons_append] at *
  rw [if_neg (by rw [ht]; simp), if_neg (by simp [hb])]
  unfold field
  rw [← List.cons_append, cut_app (fun d hd => sgn_colon (hall d hd))]
  simp only [h, if_true]
theorem take_first {z : Zip} {nm x : Bs} (h : nameB nm = true) (hx : trimL x = x) (n : Int) :
    take z (firstLine nm x) n = (match z.cur with
      | none => if z.done.length = 200 then .error 12 else .ok ⟨z.done, some (n, [], (nm, [x]))⟩
      | some (k, fs, f) => if fs.length + 1 = 40 then .error 12 else if (fs ++ [f]).any (fun g => sameB g.1 nm) then .error 4 else .ok ⟨z.done, some (k, fs ++ [f], (nm, [x]))⟩) := by
  unfold firstLine
  split
  · next e =>
    subst e
    rw [take_name h]
    rfl
  · rw [take_name h]
    unfold begin
    rw [trim_space, hx]
    rfl
theorem take_next {z : Zip} {x : Bs} (hx : further x = x) (n : Int) : take z (nextLine x) n = (match z.cur with
    | none => .error 3
    | some (k, fs, (nm, ls)) => .ok ⟨z.done, some (k, fs, (nm, ls ++ [x]))⟩) := by
  unfold nextLine
  split
  · next e =>
    subst e
    unfold take
    rw [if_neg (by decide), if_neg (by decide), if_pos (by decide)]
    rfl
  · next e =>
    have hr := (further_self.1 hx).1
    unfold take
    rw [if_neg (by simp), if_neg, if_pos (show W ((32 :: x).headD 0) = true from (by decide : W 32 = true))]
    · show goOn z x = _
      unfold goOn
      rw [hx]
      rfl
    · rw [trim_space]
      intro h0
      obtain ⟨_, _, h2, h3⟩ := Txt.trimRight_eq x
      rcases h3 with h3 | ⟨c, r, h3, hc⟩
      · exact e (by rw [← hr, h3])
      · rw [hr] at h3
        subst h3
        unfold Txt.trimL at h0
        by_cases hl : trimLeft (r ++ [c]) = []
        · obtain ⟨y, hy, hy2, _⟩ := Txt.trimLeft_eq (r ++ [c])
          rw [hl, List.append_nil] at hy2
          have := hy c (by rw [← hy2]; simp)
          rw [hc] at this; cases this
        · obtain ⟨y, hy, hy2, hy3⟩ := Txt.trimLeft_eq (r ++ [c])
          rcases hy3 with h | ⟨d, t, h, hd⟩
          · exact hl h
          · rw [h] at h0
            obtain ⟨q, hq⟩ := Txt.trimRight_first hd t
            rw [hq] at h0; cases h0
/-! ### lines -/
theorem run_cons (z : Zip) (n : Nat) (x : Bs) (r : List Bs) : run z n (x :: r) = (match take z x n with | .error e => .error (e, n) | .ok z' => run z' (n + 1) r) := rfl
theorem run_app (z : Zip) (n : Nat) (a c : List Bs) : run z n (a ++ c) = (match run z n a with | .error e => .error e | .ok z' => run z' (n + a.length) c) := by
  induction a generalizing z n with
  | nil => rfl
  | cons x a ih =>
    rw [List.cons_append, run_cons, run_cons]
    cases take z x n with
    | error e => rfl
    | ok z' =>
      simp only [List.length_cons]
      rw [ih z' (n + 1), show n + 1 + a.length = n + (a.length + 1) by omega]
theorem run_nexts {done : List Sz} {k : Int} {fs : List Fld} {nm : Bs} : ∀ (r ls : List Bs) (n : Nat), (∀ x ∈ r, further x = x) → run ⟨done, some (k, fs, (nm, ls))⟩ n (r.map nextLine) = .ok ⟨done, some (k, fs, (nm, ls ++ r))⟩
  | [], ls, n, _ => by simp [run]
  | x :: r, ls, n, h => by
    show run _ n (nextLine x :: r.map nextLine) = _
    rw [run_cons]
    rw [take_next (h x (.head _))]
    show run _ (n + 1) _ = _
    rw [run_nexts r (ls ++ [x]) (n + 1) fun y hy => h y (.tail _ hy), List.append_assoc]
    rfl
theorem texts_cons {ls : List Bs} (h : textsOK ls = true) : ∃ x r, ls = x :: r ∧ trimL x = x ∧ ∀ y ∈ r, further y = y := by
  cases ls with
  | nil => cases h
  | cons x r =>
    unfold textsOK firstOK nextOK at h
    simp only [Bool.and_eq_true, List.all_eq_true, beq_iff_eq] at h
    exact ⟨x, r, rfl, h.1.2, fun y hy => (h.2 y hy).2⟩
theorem err_field {ahead : List Fld} {f : Fld} (h : fieldErr ahead f = 0) : nameB f.1 = true ∧ textsOK f.2 = true ∧ ahead.any (fun g => sameB g.1 f.1) = false ∧ ∀ x ∈ fieldLines f, x.length ≤ 1000 := by
  unfold fieldErr at h
  split at h
  · cases h
  · next h1 =>
    split at h
    · cases h
    · next h2 =>
      split at h
      · cases h
      · next h3 =>
        simp only [Bool.not_eq_false, Bool.and_eq_true] at h1
        refine ⟨h1.1, h1.2, by simpa using h2, fun x hx => ?_⟩
        simp only [List.any_eq_true, decide_eq_true_eq, not_exists, not_and] at h3
        have := h3 x hx
        omega
/-- A field that opens a stanza. -/
theorem run_new {done : List Sz} {f : Fld} (h1 : nameB f.1 = true) (h2 : textsOK f.2 = true) (hd : done.length < 200) (n : Nat) : run ⟨done, none⟩ n (fieldLines f) = .ok ⟨done, some ((n : Int), [], f)⟩ := by
  obtain ⟨nm, ls⟩ := f
  obtain ⟨x, r, rfl, hx, hr⟩ := texts_cons h2
  show run _ n (firstLine nm x :: r.map nextLine) = _
  rw [run_cons]
  rw [take_first h1 hx]
  have e : ¬ done.length = 200 := by omega
  simp only [e, if_false]
  exact run_nexts r [x] (n + 1) hr
/-- A further field. -/
theorem run_more {done : List Sz} {k : Int} {fs : List Fld} {g f : Fld} (h1 : nameB f.1 = true) (h2 : textsOK f.2 = true) (h3 : (fs ++ [g]).any (fun g => sameB g.1 f.1) = false) (hl : fs.length + 1 < 40) (n : Nat) :
    run ⟨done, some (k, fs, g)⟩ n (fieldLines f) = .ok ⟨done, some (k, fs ++ [g], f)⟩ := by
  obtain ⟨nm, ls⟩ := f
  obtain ⟨x, r, rfl, hx, hr⟩ := texts_cons h2
  show run _ n (firstLine nm x :: r.map nextLine) = _
  rw [run_cons]
  rw [take_first h1 hx]
  have e : ¬ fs.length + 1 = 40 := by omega
  simp only [e, h3, if_false, Bool.false_eq_true]
  exact run_nexts r [x] (n + 1) hr
theorem errs_cons {ahead : List Fld} {f : Fld} {r : List Fld} (h : fieldsErr ahead (f :: r) = 0) : fieldErr ahead f = 0 ∧ fieldsErr (ahead ++ [f]) r = 0 := by
  unfold fieldsErr at h
  split at h
  · next e => exact absurd h e
  · next e => exact ⟨by simpa using e, h⟩
theorem run_fields {done : List Sz} {k : Int} : ∀ (r : List Fld) (fs : List Fld) (g : Fld) (n : Nat), fieldsErr (fs ++ [g]) r = 0 → fs.length + 1 + r.length ≤ 40 →
    ∃ fs' g', (fs ++ [g]) ++ r = fs' ++ [g'] ∧ run ⟨done, some (k, fs, g)⟩ n (r.flatMap fieldLines) = .ok ⟨done, some (k, fs', g')⟩
  | [], fs, g, n, _, _ => ⟨fs, g, by simp, rfl⟩
  | f :: r, fs, g, n, h, hl => by
    obtain ⟨e1, e2⟩ := errs_cons h
    obtain ⟨h1, h2, h3, _⟩ := err_field e1
    simp only [List.length_cons] at hl
    obtain ⟨fs', g', h4, h5⟩ := run_fields r (fs ++ [g]) f (n + (fieldLines f).length) e2 (by simp; omega)
    refine ⟨fs', g', by rw [← h4]; simp, ?_⟩
    rw [List.flatMap_cons, run_app, run_more h1 h2 h3 (by omega)]
    exact h5
theorem run_stanza {done : List Sz} {s : Sz} (h : stanzaErr s = 0) (hd : done.length < 200) (n : Nat) :
    ∃ fs g, s.2 = fs ++ [g] ∧ run ⟨done, none⟩ n (stanzaLines s.2) = .ok ⟨done, some ((n : Int), fs, g)⟩ := by
  obtain ⟨k, fs⟩ := s
  unfold stanzaErr at h
  split at h
  · cases h
  · next hl =>
    cases fs with
    | nil => exact absurd (.inl rfl) hl
    | cons f r =>
      have hl2 : r.length + 1 ≤ 40 := by
        have : ¬ 40 < (f :: r).length := fun e => hl (.inr e)
        simp at this; omega
      obtain ⟨e1, e2⟩ := errs_cons h
      obtain ⟨h1, h2, h3, _⟩ := err_field e1
      obtain ⟨fs', g', h4, h5⟩ := run_fields (done := done) (k := (n : Int)) r [] f (n + (fieldLines f).length) e2 (by simp; omega)
      refine ⟨fs', g', by rw [← h4]; simp, ?_⟩
      unfold stanzaLines
      rw [List.flatMap_cons, run_app, run_new h1 h2 hd]
      exact h5
theorem Like.refl (a : List Sz) : Like a a := rfl
theorem Like.symm {a c : List Sz} (h : Like a c) : Like c a := Eq.symm h
theorem Like.trans {a c d : List Sz} (h : Like a c) (k : Like c d) : Like a d := Eq.trans h k
theorem Like.app {a a' c c' : List Sz} (h : Like a a') (k : Like c c') : Like (a ++ c) (a' ++ c') := by
  unfold Like at *
  rw [List.map_append, List.map_append, h, k]
theorem Like.len {a c : List Sz} (h : Like a c) : a.length = c.length := by
  have := congrArg List.length h
  simpa using this
theorem each_cons {s : Sz} {r : List Sz} (h : eachErr (s :: r) = 0) : stanzaErr s = 0 ∧ eachErr r = 0 := by
  unfold eachErr at h
  split at h
  · next e => exact absurd h e
  · next e => exact ⟨by simpa using e, h⟩
theorem blank_take (z : Zip) (n : Int) : take z [] n = .ok z.close := by
  unfold take
  rw [if_neg (by simp), if_pos (show trimL [] = [] from rfl)]
/-- Printed stanzas, read behind others that are ended. -/
theorem run_list : ∀ (l : List Sz) (done : List Sz) (n : Nat), eachErr l = 0 → done.length + l.length ≤ 200 → ∃ z, run ⟨done, none⟩ n (allLines l) = .ok z ∧ Like z.all (done ++ l)
  | [], done, n, _, _ => ⟨⟨done, none⟩, rfl, by simp [Zip.all, Zip.close]; exact Like.refl _⟩
  | [s], done, n, h, hl => by
    obtain ⟨e1, _⟩ := each_cons h
    simp at hl
    obtain ⟨fs, g, h1, h2⟩ := run_stanza (done := done) e1 (by omega) n
    refine ⟨_, h2, ?_⟩
    show Like (done ++ [((n : Int), fs ++ [g])]) _
    refine (Like.refl done).app ?_
    unfold Like
    simp [h1]
  | s :: t :: r, done, n, h, hl => by
    obtain ⟨e1, e2⟩ := each_cons h
    simp at hl
    obtain ⟨fs, g, h1, h2⟩ := run_stanza (done := done) e1 (by omega) n
    obtain ⟨z, h3, h4⟩ := run_list (t :: r) (done ++ [((n : Int), fs ++ [g])]) (n + (stanzaLines s.2).length + 1) e2 (by simp; omega)
    refine ⟨z, ?_, h4.trans ?_⟩
    · show run _ n (stanzaLines s.2 ++ [] :: allLines (t :: r)) = _
      rw [run_app, h2]
      show run _ _ ([] :: allLines (t :: r)) = _
      rw [run_cons]
      rw [blank_take]
      exact h3
    · rw [List.append_assoc]
      refine (Like.refl done).app ?_
      unfold Like
      simp [h1]
theorem list_each {l : List Sz} (h : listErr l = 0) : l.length ≤ 200 ∧ eachErr l = 0 := by
  unfold listErr at h
  split at h
  · cases h
  · exact ⟨by omega, h⟩
/-- P5.5: what is printed is read as it was. -/
theorem parse_print {l : List Sz} (h : listErr l = 0) : ∃ m, parse (allLines l) = (m, 0, 0) ∧ Like m l := by
  obtain ⟨h1, h2⟩ := list_each h
  obtain ⟨z, h3, h4⟩ := run_list l [] 1 h2 (by simpa using h1)
  refine ⟨z.all, ?_, h4⟩
  unfold parse start
  rw [h3]
/-- Two prints with an empty line between. -/
theorem parse_joins {a c : List Sz} (ha : listErr a = 0) (hc : listErr c = 0) (hl : a.length + c.length ≤ 200) : ∃ m, parse (allLines a ++ [] :: allLines c) = (m, 0, 0) ∧ Like m (a ++ c) := by
  obtain ⟨_, h1⟩ := list_each ha
  obtain ⟨_, h2⟩ := list_each hc
  obtain ⟨z, h3, h4⟩ := run_list a [] 1 h1 (by simp; omega)
  rw [List.nil_append] at h4
  have h5 : z.close = ⟨z.all, none⟩ := by
    obtain ⟨d, q⟩ := z
    cases q <;> rfl
  obtain ⟨y, h6, h7⟩ := run_list c z.all (1 + (allLines a).length + 1) h2 (by rw [h4.len]; omega)
  refine ⟨y.all, ?_, h7.trans (h4.app (Like.refl c))⟩
  unfold parse start
  rw [run_app, h3]
  show (match run z (1 + (allLines a).length) ([] :: allLines c) with | .error (e, n) => ([], e, n) | .ok z => (z.all, 0, 0)) = _
  rw [run_cons]
  rw [blank_take]
  show (match run z.close (1 + (allLines a).length + 1) (allLines c) with | .error (e, n) => ([], e, n) | .ok z => (z.all, 0, 0)) = _
  rw [h5, h6]
/-! ### alike but for lines -/
theorem like_errs : ∀ {a c : List Sz}, Like a c → eachErr a = eachErr c
  | [], [], _ => rfl
  | [], _ :: _, h => by cases h
  | _ :: _, [], h => by cases h
  | s :: a, t :: c, h => by
    unfold Like at h
    simp only [List.map_cons, List.cons.injEq] at h
    have e : stanzaErr s = stanzaErr t := by unfold stanzaErr; rw [h.1]
    unfold eachErr
    rw [e, like_errs h.2]
theorem like_lines : ∀ {a c : List Sz}, Like a c → allLines a = allLines c
  | [], [], _ => rfl
  | [], _ :: _, h => by cases h
  | _ :: _, [], h => by cases h
  | [s], [t], h => by
    unfold Like at h
    simp only [List.map_cons, List.cons.injEq] at h
    show stanzaLines s.2 = stanzaLines t.2
    rw [h.1]
  | [s], t :: u :: c, h => by have := h.len; simp at this
  | s :: u :: a, [t], h => by have := h.len; simp at this
  | s :: u :: a, t :: v :: c, h => by
    unfold Like at h
    have h := List.cons.inj h
    show stanzaLines s.2 ++ [] :: allLines (u :: a) = stanzaLines t.2 ++ [] :: allLines (v :: c)
    rw [show s.2 = t.2 from h.1, like_lines (a := u :: a) (c := v :: c) h.2]
theorem like_print {a c : List Sz} (h : Like a c) : print a = print c := by
  unfold print listErr
  rw [h.len, like_errs h, like_lines h]
/-- Alike but for the lines. -/
def ZLike (z y : Zip) : Prop := Like z.done y.done ∧ z.cur.map (·.2) = y.cur.map (·.2)
theorem ZLike.close {z y : Zip} (h : ZLike z y) : ZLike z.close y.close := by
  obtain ⟨d, q⟩ := z
  obtain ⟨d', q'⟩ := y
  obtain ⟨h1, h2⟩ := h
  cases q with
  | none =>
    cases q' with
    | none => exact ⟨h1, rfl⟩
    | some p => cases h2
  | some p =>
    cases q' with
    | none => cases h2
    | some p' =>
      obtain ⟨n, fs, f⟩ := p
      obtain ⟨n', fs', f'⟩ := p'
      simp only [Option.map_some, Option.some.injEq, Prod.mk.injEq] at h2
      obtain ⟨rfl, rfl⟩ := h2
      exact ⟨h1.app (by unfold Like; rfl), rfl⟩
theorem ZLike.all {z y : Zip} (h : ZLike z y) : Like z.all y.all := h.close.1
theorem take_like {z y : Zip} (h : ZLike z y) (x : Bs) (n m : Int) {z' : Zip} (ht : take z x n = .ok z') : ∃ y', take y x m = .ok y' ∧ ZLike z' y' := by
  unfold take at ht ⊢
  split at ht
  · next h1 => rw [if_pos h1]; cases ht; exact ⟨_, rfl, h⟩
  · next h1 =>
    rw [if_neg h1]
    split at ht
    · next h2 => rw [if_pos h2]; cases ht; exact ⟨_, rfl, h.close⟩
    · next h2 =>
      rw [if_neg h2]
      obtain ⟨d, q⟩ := z
      obtain ⟨d', q'⟩ := y
      obtain ⟨k1, k2⟩ := h
      simp only at k1 k2
      split at ht
      · next h3 =>
        rw [if_pos h3]
        cases q with
        | none => cases ht
        | some p =>
          cases q' with
          | none => cases k2
          | some p' =>
            obtain ⟨n, fs, nm, ls⟩ := p
            obtain ⟨n', fs', nm', ls'⟩ := p'
            simp only [Option.map_some, Option.some.injEq, Prod.mk.injEq] at k2
            obtain ⟨rfl, rfl, rfl⟩ := k2
            cases ht
            exact ⟨_, rfl, k1, rfl⟩
      · next h3 =>
        rw [if_neg h3]
        unfold field at ht ⊢
        cases hc : cutL x with
        | none => rw [hc] at ht; cases ht
        | some p =>
          obtain ⟨nm, r⟩ := p
          rw [hc] at ht
          simp only at ht ⊢
          split at ht
          · next h4 =>
            rw [if_pos h4]
            unfold begin at ht ⊢
            cases q with
            | none =>
              cases q' with
              | some p' => cases k2
              | none =>
                simp only at ht ⊢
                split at ht
                · cases ht
                · next h5 =>
                  rw [if_neg (by rw [← k1.len]; exact h5)]
                  cases ht
                  exact ⟨_, rfl, k1, rfl⟩
            | some p =>
              cases q' with
              | none => cases k2
              | some p' =>
                obtain ⟨n, fs, f⟩ := p
                obtain ⟨n', fs', f'⟩ := p'
                simp only [Option.map_some, Option.some.injEq, Prod.mk.injEq] at k2
                obtain ⟨rfl, rfl⟩ := k2
                simp only at ht ⊢
                split at ht
                · cases ht
                · next h5 =>
                  rw [if_neg h5]
                  split at ht
                  · cases ht
                  · next h6 =>
                    rw [if_neg h6]
                    cases ht
                    exact ⟨_, rfl, k1, rfl⟩
          · cases ht
/-- Lines with remarks between, and more lines without anything behind such. -/
inductive Ins : List Bs → List Bs → Prop
  | nil : Ins [] []
  | keep (x : Bs) {a c : List Bs} : Ins a c → Ins (x :: a) (x :: c)
  | remark (x : Bs) {a c : List Bs} : x.head? = some 35 → Ins a c → Ins a (x :: c)
  | blank (x : Bs) {a c : List Bs} : trimL x = [] → Ins a c → Ins (x :: a) (x :: [32] :: [] :: c)
theorem close_close (z : Zip) : z.close.close = z.close := by
  obtain ⟨d, q⟩ := z
  cases q <;> rfl
theorem run_ins {a c : List Bs} (hi : Ins a c) : ∀ {z y z' : Zip} (n m : Nat), ZLike z y → run z n a = .ok z' → ∃ y', run y m c = .ok y' ∧ ZLike z' y' := by
  induction hi with
  | nil => intro z y z' n m h hr; cases hr; exact ⟨_, rfl, h⟩
  | keep x hi ih =>
    intro z y z' n m h hr
    rw [run_cons] at hr ⊢
    cases ht : take z x n with
    | error e => rw [ht] at hr; cases hr
    | ok z1 =>
      rw [ht] at hr
      obtain ⟨y1, h1, h2⟩ := take_like h x n m ht
      rw [h1]
      exact ih (n + 1) (m + 1) h2 hr
  | remark x hx hi ih =>
    intro z y z' n m h hr
    rw [run_cons]
    have : take y x m = .ok y := by unfold take; rw [if_pos hx]
    rw [this]
    exact ih n (m + 1) h hr
  | blank x hx hi ih =>
    intro z y z' n m h hr
    rw [run_cons] at hr
    have e : ∀ (z : Zip) (n : Int), x.head? ≠ some 35 → take z x n = .ok z.close := fun z n h1 => by
      unfold take; rw [if_neg h1, if_pos hx]
    have h1 : x.head? ≠ some 35 := by
      intro hh
      cases x with
      | nil => cases hh
      | cons c r =>
        simp at hh
        subst hh
        obtain ⟨t, ht⟩ := trim_black (c := 35) (by decide) r
        rw [ht] at hx; cases hx
    rw [e _ _ h1] at hr
    obtain ⟨y', h2, h3⟩ := ih (n + 1) (m + 1 + 1 + 1) h.close hr
    refine ⟨y', ?_, h3⟩
    rw [run_cons]
    rw [e _ _ h1]
    show run _ _ ([32] :: [] :: _) = _
    rw [run_cons]
    have e2 : ∀ (z : Zip) (n : Int), take z [32] n = .ok z.close := fun z n => by
      unfold take; rw [if_neg (by decide), if_pos (by decide)]
    rw [e2]
    show run _ _ ([] :: _) = _
    rw [run_cons]
    rw [blank_take]
    show run y.close.close.close _ _ = _
    rw [close_close, close_close]
    exact h2
theorem parse_ins {a c : List Bs} (hi : Ins a c) {l : List Sz} (h : parse a = (l, 0, 0)) : ∃ m, parse c = (m, 0, 0) ∧ Like l m := by
  unfold parse at h
  cases hr : run start 1 a with
  | error e =>
    rw [hr] at h
    obtain ⟨e, n⟩ := e
    simp only [Prod.mk.injEq] at h
    obtain ⟨_, rfl, rfl⟩ := h
    exfalso
    have hn : ∀ (ls : List Bs) (z : Zip) (n : Nat) e k, 1 ≤ n → run z n ls = .error (e, k) → 1 ≤ k := by
      intro ls
      induction ls with
      | nil => intro z n e k _ h; cases h
      | cons x r ih =>
        intro z n e k hn h
        rw [run_cons] at h
        cases ht : take z x n with
        | error e' => rw [ht] at h; cases h; exact hn
        | ok z' => rw [ht] at h; exact ih z' (n + 1) e k (by omega) h
    have := hn a start 1 0 0 (by omega) hr
    omega
  | ok z =>
    rw [hr] at h
    simp only [Prod.mk.injEq, and_true] at h
    obtain ⟨y, h1, h2⟩ := run_ins hi (y := start) 1 1 ⟨Like.refl _, rfl⟩ hr
    refine ⟨y.all, ?_, ?_⟩
    · unfold parse; rw [h1]
    · rw [← h]; exact h2.all
end Stz
end Go.Proofs.YtgolnfgkoolpoaaDoor

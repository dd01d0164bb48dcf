/-
Remarks put between lines, and more empty lines behind empty ones: what the law's text is, piece by piece.
-/
import Derived.Test.YtgolnfgkoolpoaaDoorStzSized
import Derived.Test.YtgolnfgkoolpoaaDoorStzParse
namespace Go.Proofs.YtgolnfgkoolpoaaDoor
set_option linter.unusedSimpArgs false
set_option linter.unusedVariables false
namespace Stz
open Txt (trimL linesL spl put dl)
def rmk : Bs := [35, 32, 114, 101, 109, 97, 114, 107, 58, 32, 120]
theorem rmk_ok : LineOK rmk := ⟨by decide +kernel, by decide⟩
theorem Ins.app {a c a' c' : List Bs} (h : Ins a c) (k : Ins a' c') : Ins (a ++ a') (c ++ c') := by
  induction h with
  | nil => exact k
  | keep x _ ih => exact .keep x ih
  | remark x hx _ ih => exact .remark x hx ih
  | blank x hx _ ih => exact .blank x hx ih
theorem ins_rmks : ∀ r : Nat, Ins [] (List.replicate r rmk)
  | 0 => .nil
  | r + 1 => .remark rmk rfl (ins_rmks r)
/-- What stands for a line. -/
def lineTo (x : Bs) : List Bs := if trimL x = [] then [x, [32], []] else [x]
theorem ins_line (x : Bs) : Ins [x] (lineTo x) := by
  unfold lineTo
  split
  · next h => exact .blank x h .nil
  · exact .keep x .nil
/-! ### how many remarks -/
def cntLt (ps : List Int) (n : Nat) : Nat := ps.countP fun p => decide (0 ≤ p ∧ p < (n : Int))
def cntEq (ps : List Int) (n : Nat) : Nat := ps.countP fun p => decide (p = (n : Int))
theorem cnt_succ : ∀ (ps : List Int) (n : Nat), cntLt ps (n + 1) = cntLt ps n + cntEq ps n
  | [], _ => rfl
  | p :: r, n => by
    have ih := cnt_succ r n
    unfold cntLt cntEq at *
    rw [List.countP_cons, List.countP_cons, List.countP_cons, ih]
    have : (if decide (0 ≤ p ∧ p < ((n + 1 : Nat) : Int)) = true then 1 else 0) = (if decide (0 ≤ p ∧ p < (n : Int)) = true then 1 else 0) + (if decide (p = (n : Int)) = true then 1 else 0) := by
      simp only [decide_eq_true_eq]
      split <;> split <;> split <;> omega
    omega
theorem cnt_le (ps : List Int) (n : Nat) : cntLt ps n ≤ ps.length := List.countP_le_length
theorem cnt_step (ps : List Int) (n : Nat) {q : Nat} (h : q < ps.length) : cntEq ((ps.take 5).take (q + 1)) n = cntEq ((ps.take 5).take q) n + if q < 5 ∧ ps.getD q 0 = (n : Int) then 1 else 0 := by
  by_cases h5 : q < 5
  · have e : (ps.take 5).take (q + 1) = (ps.take 5).take q ++ [ps.getD q 0] := by
      rw [List.take_add_one]
      congr 1
      rw [List.getElem?_take, if_pos h5, List.getD, List.getElem?_eq_getElem h]
      rfl
    unfold cntEq
    rw [e, List.countP_append, List.countP_singleton]
    simp [h5]
  · have e : ∀ k, 5 ≤ k → (ps.take 5).take k = ps.take 5 := fun k hk => List.take_of_length_le (by rw [List.length_take]; omega)
    rw [e _ (by omega), e _ (by omega), if_neg (by omega)]
    rfl
theorem cnt_all (ps : List Int) (n : Nat) : cntEq ((ps.take 5).take ps.length) n = cntEq (ps.take 5) n := by
  rw [List.take_of_length_le (by rw [List.length_take]; omega)]
theorem fl_app' (a c : List Bs) : fl (a ++ c) = fl a ++ fl c := by
  induction a with
  | nil => rfl
  | cons x a ih => show x ++ 10 :: fl (a ++ c) = (x ++ 10 :: fl a) ++ fl c; rw [ih, List.append_assoc]; rfl
theorem fl_rmks (r : Nat) : (fl (List.replicate r rmk)).length = 12 * r := by
  induction r with
  | zero => rfl
  | succ r ih =>
    show (rmk ++ 10 :: fl (List.replicate r rmk)).length = _
    rw [List.length_append, List.length_cons, ih]
    show 11 + (12 * r + 1) = _
    omega
theorem fl_line (x : Bs) : (fl (lineTo x)).length ≤ x.length + 4 := by
  unfold lineTo
  split
  · show (x ++ 10 :: ([32] ++ 10 :: ([] ++ 10 :: []))).length ≤ _
    simp
  · show (x ++ 10 :: []).length ≤ _
    simp
theorem fl_count (ds : List Bs) : ds.length ≤ (fl ds).length := by
  induction ds with
  | nil => simp
  | cons x r ih =>
    show r.length + 1 ≤ (x ++ 10 :: fl r).length
    rw [List.length_append, List.length_cons]
    omega
/-! ### the text while it is put together -/
structure RemAt (bs : Bs) (ps : List Int) (ds c : List Bs) (k f : Nat) : Prop where
  ins : Ins ds c
  plain : ∀ x ∈ ds, ∀ d ∈ x, d ≠ 10
  eq : (bs ++ [10]).take f = fl ds
  fk : f ≤ k
  kn : k ≤ bs.length + 1
  gap : ∀ j, f ≤ j → j < k → j < bs.length → bs.getD j 0 ≠ 10
  last : f = bs.length + 1 → ∃ ds0 x, ds = ds0 ++ [x] ∧ x ≠ []
  done : k = bs.length + 1 → bs.length ≤ f
  only : ∀ x ∈ c, x ∈ ds ∨ LineOK x
  size : (fl c).length ≤ 4 * f + 12 * cntLt ps ds.length
theorem RemAt.start (bs : Bs) (ps : List Int) : RemAt bs ps [] [] 0 0 :=
  ⟨.nil, (fun x hx => by cases hx), rfl, Nat.le_refl _, by omega, (fun j _ h => by omega), (fun h => by omega), (fun h => by omega), (fun x hx => by cases hx), by simp [fl]⟩
variable {bs : Bs} {ps : List Int} {ds c : List Bs} {k f : Nat}
theorem RemAt.skip (h : RemAt bs ps ds c k f) (hk : k < bs.length) (hb : bs.getD k 0 ≠ 10) : RemAt bs ps ds c (k + 1) f :=
  ⟨h.ins, h.plain, h.eq, by have := h.fk; omega, by omega, (fun j h1 h2 h3 => by
    by_cases e : j = k
    · rw [e]; exact hb
    · exact h.gap j h1 (by omega) h3), h.last, (fun e => by omega), h.only, h.size⟩
theorem RemAt.skipEnd (h : RemAt bs ps ds c k f) (hk : k = bs.length) (hf : f = k) : RemAt bs ps ds c (k + 1) f :=
  ⟨h.ins, h.plain, h.eq, by omega, by omega, (fun j h1 h2 h3 => by omega), h.last, (fun e => by omega), h.only, h.size⟩
theorem RemAt.count (h : RemAt bs ps ds c k f) : ds.length ≤ f := by
  have h1 := fl_count ds
  rw [← h.eq, List.length_take] at h1
  omega
theorem RemAt.line (h : RemAt bs ps ds c k f) (hk : k ≤ bs.length) (hb : k < bs.length → bs.getD k 0 = 10) (he : k = bs.length → f ≠ k) :
    RemAt bs ps (ds ++ [(bs.drop f).take (k - f)]) (c ++ (List.replicate (cntEq ps ds.length) rmk ++ lineTo ((bs.drop f).take (k - f)))) (k + 1) (k + 1) := by
  have hfk := h.fk
  have hx : ((bs.drop f).take (k - f)).length = k - f := by rw [List.length_take, List.length_drop]; omega
  refine ⟨h.ins.app (by simpa using (ins_rmks _).app (ins_line _)), fun x hxm d hd => ?_, ?_, Nat.le_refl _, by omega, fun j h1 h2 _ => by omega, fun e => ⟨_, _, rfl, fun e0 => ?_⟩, fun _ => by omega, fun x hxm => ?_, ?_⟩
  · rcases List.mem_append.1 hxm with hxm | hxm
    · exact h.plain x hxm d hd
    · rw [List.mem_singleton.1 hxm] at hd
      obtain ⟨j, hj, rfl⟩ := List.mem_iff_getElem.1 hd
      rw [hx] at hj
      have := h.gap (f + j) (by omega) (by omega) (by omega)
      rw [List.getD, List.getElem?_eq_getElem (by omega)] at this
      simpa using this
  · have e1 : (bs ++ [10]).take (k + 1) = (bs ++ [10]).take k ++ [10] := by
      rw [List.take_add_one]
      congr 1
      by_cases hl : k < bs.length
      · have := hb hl
        rw [List.getD, List.getElem?_eq_getElem hl] at this
        rw [List.getElem?_append_left hl, List.getElem?_eq_getElem hl]
        simp at this
        rw [this]; rfl
      · obtain rfl : k = bs.length := by omega
        simp
    have e2 : (bs ++ [10]).take k = (bs ++ [10]).take f ++ (bs.drop f).take (k - f) := by
      rw [List.take_append_of_le_length hk, List.take_append_of_le_length (by omega)]
      rw [show k = f + (k - f) by omega, List.take_add, show f + (k - f) - f = k - f by omega]
    rw [e1, e2, h.eq, fl_app', List.append_assoc]
    rfl
  · have h1 : k = bs.length := by omega
    have h2 := he h1
    rw [e0] at hx
    simp at hx
    omega
  · rcases List.mem_append.1 hxm with hxm | hxm
    · rcases h.only x hxm with h1 | h1
      · exact .inl (List.mem_append.2 (.inl h1))
      · exact .inr h1
    · rcases List.mem_append.1 hxm with hxm | hxm
      · rw [(List.mem_replicate.1 hxm).2]
        exact .inr rmk_ok
      · unfold lineTo at hxm
        split at hxm
        · simp only [List.mem_cons, List.not_mem_nil, or_false] at hxm
          rcases hxm with rfl | rfl | rfl
          · exact .inl (List.mem_append.2 (.inr (.head _)))
          · exact .inr ⟨by decide, by decide⟩
          · exact .inr ⟨good_nil, by simp⟩
        · rw [List.mem_singleton.1 hxm]
          exact .inl (List.mem_append.2 (.inr (.head _)))
  · rw [fl_app', fl_app', List.length_append, List.length_append, fl_rmks, List.length_append, List.length_singleton, cnt_succ]
    have h1 := fl_line ((bs.drop f).take (k - f))
    rw [hx] at h1
    have h2 := h.size
    omega
theorem spl_plain : ∀ (x : Bs), (∀ d ∈ x, d ≠ 10) → spl x = [x]
  | [], _ => rfl
  | d :: x, h => by
    show (if d = 10 then [] :: spl x else put d (spl x)) = _
    rw [if_neg (h d (.head _)), spl_plain x (fun e he => h e (.tail _ he))]
    rfl
theorem spl_rest : ∀ (ls : List Bs) (x : Bs), (∀ y ∈ ls, ∀ d ∈ y, d ≠ 10) → (∀ d ∈ x, d ≠ 10) → spl (fl ls ++ x) = ls ++ [x]
  | [], x, _, hx => spl_plain x hx
  | y :: r, x, h, hx => by
    show spl ((y ++ 10 :: fl r) ++ x) = _
    rw [List.append_assoc]
    show spl (y ++ 10 :: (fl r ++ x)) = _
    rw [spl_line y _ (h y (.head _)), spl_rest r x (fun z hz => h z (.tail _ hz)) hx]
    rfl
/-- At the end, the lines are all there. -/
theorem RemAt.lines (h : RemAt bs ps ds c (bs.length + 1) f) : linesL bs = ds := by
  have h1 := h.done rfl
  have h2 := h.fk
  rcases (by omega : f = bs.length ∨ f = bs.length + 1) with rfl | rfl
  · have e := h.eq
    rw [List.take_left] at e
    have := lines_fl h.plain
    rwa [← e] at this
  · obtain ⟨ds0, x, rfl, hx⟩ := h.last rfl
    have e := h.eq
    rw [List.take_of_length_le (by simp), fl_app'] at e
    have e2 : bs = fl ds0 ++ x := by
      have e3 : bs ++ [10] = (fl ds0 ++ x) ++ [10] := by rw [e, List.append_assoc]; rfl
      exact List.append_cancel_right e3
    unfold linesL
    rw [e2, spl_rest ds0 x (fun y hy => h.plain y (List.mem_append.2 (.inl hy))) (h.plain x (List.mem_append.2 (.inr (.head _)))), Txt.dl_last, if_neg hx]
theorem run_ne : ∀ (ls : List Bs) {z : Zip} {n k : Nat}, run z n ls ≠ .error (0, k)
  | [], z, n, k => by intro h; cases h
  | x :: r, z, n, k => by
    intro h
    rw [run_cons] at h
    cases ht : take z x n with
    | error e =>
      rw [ht] at h
      cases h
      exact take_ne ht
    | ok z1 =>
      rw [ht] at h
      exact run_ne r h
theorem parse_zero {ls : List Bs} {l : List Sz} {n : Nat} (h : parse ls = (l, 0, n)) : n = 0 := by
  unfold parse at h
  cases hr : run start 1 ls with
  | error p =>
    obtain ⟨e, k⟩ := p
    rw [hr] at h
    simp only [Prod.mk.injEq] at h
    rw [h.2.1] at hr
    exact absurd hr (run_ne ls)
  | ok z =>
    rw [hr] at h
    simp only [Prod.mk.injEq] at h
    exact h.2.2.symm
/-- P5.5: the text with remarks and more empty lines is read as it was. -/
theorem remarks_pr {l : List Sz} {n : Nat} (h : PR (S bs) l 0 n) (hl : bs.length ≤ 3000) (hps : ps.length ≤ 5) (hr : RemAt bs ps ds c (bs.length + 1) f) : ∃ m, PR (S (fl c)) m 0 0 ∧ Like l m := by
  obtain ⟨ls, h1, h2, h3⟩ := pr_ok h
  rw [S_data, hr.lines] at h3
  subst h3
  obtain rfl := parse_zero h2
  obtain ⟨m, h4, h5⟩ := parse_ins hr.ins h2
  refine ⟨m, pr_lines (fun x hx => ?_) ?_ h4, h5⟩
  · rcases hr.only x hx with h6 | h6
    · exact h1 x h6
    · exact h6
  · have := hr.size
    have := cnt_le ps ls.length
    have := hr.fk
    omega
end Stz
end Go.Proofs.YtgolnfgkoolpoaaDoor

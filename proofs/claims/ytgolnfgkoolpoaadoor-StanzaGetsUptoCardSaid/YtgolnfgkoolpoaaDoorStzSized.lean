/-
How great the pieces are of what is read; what is read may be printed but for its length.
-/
import Derived.Test.YtgolnfgkoolpoaaDoorStzLines
import Derived.Test.YtgolnfgkoolpoaaDoorStzCheck
namespace Go.Proofs.YtgolnfgkoolpoaaDoor
set_option linter.unusedSimpArgs false
set_option linter.unusedVariables false
namespace Stz
open Txt (trimL trimRight trimLeft)
def Slim (M : Nat) (f : Fld) : Prop := f.1.length ≤ M ∧ ∀ x ∈ f.2, x.length ≤ M
def ZSlim (M : Nat) (z : Zip) : Prop := (∀ s ∈ z.done, ∀ f ∈ s.2, Slim M f) ∧ ∀ n fs f, z.cur = some (n, fs, f) → ∀ g ∈ fs ++ [f], Slim M g
theorem slim_start (M : Nat) : ZSlim M start := ⟨(fun s hs => by cases hs), (fun n fs f e => by cases e)⟩
theorem slim_close {M : Nat} {z : Zip} (h : ZSlim M z) : ZSlim M z.close := by
  obtain ⟨d, q⟩ := z
  obtain ⟨h2, h3⟩ := h
  cases q with
  | none => exact ⟨h2, h3⟩
  | some p =>
    obtain ⟨k, fs, f⟩ := p
    have k3 := h3 k fs f rfl
    refine ⟨fun s hs => ?_, fun _ _ _ e => by cases e⟩
    rcases List.mem_append.1 (show s ∈ d ++ [(k, fs ++ [f])] from hs) with hs | hs
    · exact h2 s hs
    · rw [List.mem_singleton.1 hs]
      exact k3
theorem right_len (l : Bs) : (trimRight l).length ≤ l.length := by
  obtain ⟨x, _, h2, _⟩ := Txt.trimRight_eq l
  have := congrArg List.length h2
  rw [List.length_append] at this
  omega
theorem trimL_le (l : Bs) : (trimL l).length ≤ l.length := by
  obtain ⟨x, _, h2, _⟩ := Txt.trimLeft_eq l
  have := congrArg List.length h2
  rw [List.length_append] at this
  have := right_len (trimLeft l)
  unfold trimL
  omega
theorem further_le (l : Bs) : (further l).length ≤ l.length := by
  unfold further
  split
  · simp
  · exact right_len l
theorem slim_take {M : Nat} {z z' : Zip} {x : Bs} {n : Int} (h : ZSlim M z) (hx : x.length ≤ M) (ht : take z x n = .ok z') : ZSlim M z' := by
  unfold take at ht
  split at ht
  · cases ht; exact h
  split at ht
  · cases ht; exact slim_close h
  split at ht
  · obtain ⟨d, q⟩ := z
    cases q with
    | none => cases ht
    | some p =>
      obtain ⟨k, fs, nm, ls⟩ := p
      cases ht
      have k3 := h.2 k fs (nm, ls) rfl
      refine ⟨h.1, fun k' fs' f' e => ?_⟩
      simp only [Option.some.injEq, Prod.mk.injEq] at e
      obtain ⟨rfl, rfl, rfl⟩ := e
      intro g hg
      rcases List.mem_append.1 hg with hg | hg
      · exact k3 g (List.mem_append.2 (.inl hg))
      · rw [List.mem_singleton.1 hg]
        have := k3 (nm, ls) (by simp)
        refine ⟨this.1, fun y hy => ?_⟩
        rcases List.mem_append.1 hy with hy | hy
        · exact this.2 y hy
        · rw [List.mem_singleton.1 hy]
          have h1 := further_le x.tail
          have h2 : x.tail.length ≤ x.length := by simp
          omega
  · unfold field at ht
    cases hc : cutL x with
    | none => rw [hc] at ht; cases ht
    | some p =>
      obtain ⟨nm, r⟩ := p
      rw [hc] at ht
      have hlen := congrArg List.length (cut_eq hc).1
      rw [List.length_append, List.length_cons] at hlen
      have hnew : Slim M (nm, [trimL r]) := ⟨by show nm.length ≤ M; omega, fun y hy => by
        rw [List.mem_singleton.1 hy]
        have := trimL_le r
        omega⟩
      simp only at ht
      split at ht
      · unfold begin at ht
        obtain ⟨d, q⟩ := z
        cases q with
        | none =>
          simp only at ht
          split at ht
          · cases ht
          · cases ht
            refine ⟨h.1, fun k' fs' f' e => ?_⟩
            simp only [Option.some.injEq, Prod.mk.injEq] at e
            obtain ⟨rfl, rfl, rfl⟩ := e
            intro g hg
            rw [List.mem_singleton.1 hg]
            exact hnew
        | some p =>
          obtain ⟨k, fs, f⟩ := p
          simp only at ht
          split at ht
          · cases ht
          · split at ht
            · cases ht
            · cases ht
              have k3 := h.2 k fs f rfl
              refine ⟨h.1, fun k' fs' f' e => ?_⟩
              simp only [Option.some.injEq, Prod.mk.injEq] at e
              obtain ⟨rfl, rfl, rfl⟩ := e
              intro g hg
              rcases List.mem_append.1 hg with hg | hg
              · exact k3 g hg
              · rw [List.mem_singleton.1 hg]
                exact hnew
      · cases ht
theorem slim_run {M : Nat} : ∀ (ls : List Bs) {z z' : Zip} (n : Nat), ZSlim M z → (∀ x ∈ ls, x.length ≤ M) → run z n ls = .ok z' → ZSlim M z'
  | [], z, z', n, h, _, hr => by cases hr; exact h
  | x :: r, z, z', n, h, hg, hr => by
    rw [run_cons] at hr
    cases ht : take z x n with
    | error e => rw [ht] at hr; cases hr
    | ok z1 =>
      rw [ht] at hr
      exact slim_run r (n + 1) (slim_take h (hg x (.head _)) ht) (fun y hy => hg y (.tail _ hy)) hr
theorem parse_slim {M : Nat} {ls : List Bs} (hg : ∀ x ∈ ls, x.length ≤ M) {l : List Sz} {e n : Nat} (h : parse ls = (l, e, n)) : ∀ s ∈ l, ∀ f ∈ s.2, Slim M f := by
  unfold parse at h
  cases hr : run start 1 ls with
  | error e =>
    rw [hr] at h
    simp only [Prod.mk.injEq] at h
    rw [← h.1]
    intro s hs; cases hs
  | ok z =>
    rw [hr] at h
    simp only [Prod.mk.injEq] at h
    rw [← h.1]
    exact (slim_close (slim_run ls 1 (slim_start M) hg hr)).1
theorem E_ok {x : ByteArray} (h : Txt.E x = 0) : LineOK x.data.toList := by
  unfold Txt.E at h
  split at h
  · cases h
  split at h
  · cases h
  · next h1 h2 =>
    refine ⟨?_, by rw [Txt.len_list]; omega⟩
    unfold goodL
    rw [show (⟨x.data.toList.toArray⟩ : ByteArray) = x from S_self x]
    have := Txt.good_ge x
    omega
/-- The lines of what is read without an error. -/
theorem pr_ok {s : ByteArray} {l : List Sz} {n : Nat} (h : PR s l 0 n) : ∃ ls, (∀ x ∈ ls, LineOK x) ∧ parse ls = (l, 0, n) ∧ ls = Txt.linesL s.data.toList := by
  obtain ⟨ls, e0, n0, h1, h2⟩ := h
  rcases h2 with ⟨h2, _, h3, _⟩ | ⟨rfl, h2⟩
  · exact absurd h3.symm h2
  unfold Txt.LR at h1
  split at h1
  · have := h1.2.1; cases this
  rcases h1 with ⟨_, rfl, h3, h4⟩ | ⟨_, h5, _⟩
  · refine ⟨bytes ls, fun x hx => ?_, h2, h3⟩
    obtain ⟨t, ht, rfl⟩ := List.mem_map.1 hx
    obtain ⟨i, hi, rfl⟩ := List.mem_iff_getElem.1 ht
    refine E_ok ?_
    have := h4 i hi
    rwa [show ls.getD i ByteArray.empty = ls[i] by simp [List.getD, hi]] at this
  · exact absurd rfl h5
theorem pr_szd {s : ByteArray} {l : List Sz} {n : Nat} (h : PR s l 0 n) : ∀ s ∈ l, ∀ f ∈ s.2, Szd f := by
  obtain ⟨ls, h1, h2, _⟩ := pr_ok h
  intro s hs f hf
  have := parse_slim (M := 1000) (fun x hx => (h1 x hx).2) h2 s hs f hf
  exact ⟨by have := this.1; omega, fun x hx => by have := this.2 x hx; omega⟩
theorem pr_err {s : ByteArray} {l : List Sz} {e n : Nat} (h : PR s l e n) (he : e ≠ 0) : l = [] := by
  obtain ⟨ls, e0, n0, h1, h2⟩ := h
  rcases h2 with ⟨_, h3, _⟩ | ⟨_, h2⟩
  · exact h3
  unfold parse at h2
  cases hr : run start 1 (bytes ls) with
  | error p =>
    rw [hr] at h2
    simp only [Prod.mk.injEq] at h2
    exact h2.1.symm
  | ok z =>
    rw [hr] at h2
    simp only [Prod.mk.injEq] at h2
    exact absurd h2.2.1.symm he
theorem pr_print {s : ByteArray} {l : List Sz} {n : Nat} (h : PR s l 0 n) : (print l).2 = 0 ∨ (print l).2 = 2 := by
  obtain ⟨ls, h1, h2, _⟩ := pr_ok h
  have h3 := parsed_err (fun x hx => (h1 x hx).1) h2
  unfold print
  split
  · rcases h3 with h3 | h3
    · exact absurd h3 (by assumption)
    · exact .inr h3
  · split
    · exact .inr rfl
    · exact .inl rfl
end Stz
end Go.Proofs.YtgolnfgkoolpoaaDoor

/-
How long written texts may be; reading two texts with a comma between.
-/
import Derived.Test.YtapmpdljapbpeaaGreatDoorRelUni
import Derived.Test.YtapmpdljapbpeaaGreatDoorRelBack
namespace Go.Proofs.YtapmpdljapbpeaaGreatDoor
open Go.RowKit
set_option linter.unusedSimpArgs false
set_option linter.unusedVariables false
namespace Rl
open Ver (Bs li li_len li_drop S S_self S_of S_size S_li below_drewN empty_is empty_no MaxLen Signs)
theorem tr {w a b : World} (h : Below w.heap.size w a) (k : Below a.heap.size a b) : Below w.heap.size w b := h.trans (k.mono h.size)
theorem wrt_len {α : Type} {most m : Nat} {sep : Bs} {f : α → Bs} (l : List α) (h : ∀ x, (f x).length ≤ m) : (wrt most sep f l).length ≤ most * (m + sep.length) := by
  unfold wrt
  split
  · simp
  · split
    · simp
    · rename_i h0 _
      have := join_len sep m (l.map f) fun l hl => by
        obtain ⟨a, _, rfl⟩ := List.mem_map.1 hl
        exact h a
      rw [List.length_map] at this
      exact Nat.le_trans this (Nat.mul_le_mul_right _ (by omega))
theorem text_sz (l : List (List At)) : (S (text l)).size ≤ 10000 := by
  rw [S_size]
  exact Nat.le_trans (wrt_len l wCl_len) (by decide)
theorem S_none {x : Bs} (h : x = []) : (S x).toList.isEmpty = true := by subst h; exact isEmpty_S []
theorem S_some {x : Bs} (h : x ≠ []) : (S x).toList.isEmpty = false := (empty_no (by rw [S_size]; exact fun e => h (List.eq_nil_of_length_eq_zero e))).1
theorem li_app (a b : ByteArray) : li (a ++ b) = li a ++ li b := by
  unfold li
  simp [ByteArray.data_append]
theorem c44 : (⟨#[44]⟩ : ByteArray).size = 1 := rfl
theorem jParse (l m : List (List At)) (w : World) (h1 : text l ≠ []) (h2 : text m ≠ []) (h : l.length + m.length ≤ 12) (hv : Vars w) : Calls Tryz.prog 85 #[.string (S (text l) ++ ⟨#[44]⟩ ++ S (text m))] w fun e w' => Below w.heap.size w w' ∧ ∃ v, e = .returned (.tuple #[v, .int .i64 0]) ∧ Clss w' v (l ++ m) := by
  have := uParse (S (text l) ++ ⟨#[44]⟩ ++ S (text m)) w (by have := text_sz l; have := text_sz m; simp only [ByteArray.size_append, c44]; omega) hv
  unfold UC at this
  rw [li_app, li_app, S_li, S_li, show text l ++ li ⟨#[44]⟩ ++ text m = text l ++ 44 :: text m by rw [show li ⟨#[44]⟩ = [44] from rfl, List.append_assoc]; rfl, text_joins h1 h2, if_pos h] at this
  exact this
theorem jParseMany (l m : List (List At)) (w : World) (h1 : text l ≠ []) (h2 : text m ≠ []) (h : ¬ l.length + m.length ≤ 12) (hv : Vars w) : Calls Tryz.prog 85 #[.string (S (text l) ++ ⟨#[44]⟩ ++ S (text m))] w fun e w' => Below w.heap.size w w' ∧ ∃ v, e = .returned (.tuple #[v, .int .i64 12]) ∧ Clss w' v [] := by
  have := uParse (S (text l) ++ ⟨#[44]⟩ ++ S (text m)) w (by have := text_sz l; have := text_sz m; simp only [ByteArray.size_append, c44]; omega) hv
  unfold UC at this
  rw [li_app, li_app, S_li, S_li, show text l ++ li ⟨#[44]⟩ ++ text m = text l ++ 44 :: text m by rw [show li ⟨#[44]⟩ = [44] from rfl, List.append_assoc]; rfl, text_joins h1 h2, if_neg h] at this
  exact this
end Rl
end Go.Proofs.YtapmpdljapbpeaaGreatDoor

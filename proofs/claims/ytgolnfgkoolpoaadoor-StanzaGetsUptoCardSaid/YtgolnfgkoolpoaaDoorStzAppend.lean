/-
append of one stanza, of one field, for the walk; Cut at a colon.
-/
import Derived.Test.YtgolnfgkoolpoaaDoorStzRead
import Derived.Test.YtgolnfgkoolpoaaDoorTextLaws6
namespace Go.Proofs.YtgolnfgkoolpoaaDoor
open Go.RowKit
set_option linter.unusedSimpArgs false
set_option linter.unusedVariables false
namespace Stz
theorem infoStanza : (Tryd.prog.info? 37).map (fun i => (i.zero, i.size, i.bytes)) = some (some (.agg #[.int .i64 0, .slice none 0 0]), 2, 32) := by kernel_rfl
theorem infoField : (Tryd.prog.info? 42).map (fun i => (i.zero, i.size, i.bytes)) = some (some (.agg #[.string ByteArray.empty, .slice none 0 0]), 2, 40) := by kernel_rfl
/-- append(l, x), of elements of two cells, for the walk. -/
theorem append_two {tS e : TypeId} {z : Value} {bytes : Nat} (hu : Tryd.prog.underlying tS = some (.slice e)) (hi : (Tryd.prog.info? e).map (fun i => (i.zero, i.size, i.bytes)) = some (some z, 2, bytes)) (hz : z.cells.size = 2) (hby : bytes ≤ 64)
    {w : World} {ops : Array Oper} {rest : List Oper} {o : Oper} {a : Act} {Q : Exit → Act → World → Prop} (hgd : o.guard = none) (s x : Operand)
    (ho : o.op = .call { callee := .builtin .append, args := #[s, x], argTypes := #[tS, tS] })
    (B : Nat) (v : Value) (n : Nat) (xs : List Value) (hv : a.eval s = v) (hown : w.ownsRow B e 2 v n xs) (k : Nat) (c : Nat) (hx : a.eval x = .slice (some ⟨k, 0, none⟩) 1 c) (c0 c1 : Value) (h0 : w.cell? ⟨k, 0, none⟩ = some c0) (h1 : w.cell? ⟨k, 1, none⟩ = some c1)
    (o0 : c0.oneCell' = true) (o1 : c1.oneCell' = true) (hn : n + 1 ≤ 70000) (hB : B ≤ w.heap.size)
    (h : ∀ v' w', w'.ownsRow B e 2 v' (n + 1) (xs ++ [c0, c1]) → w.grownBy w' v.ownBlock → wpList Tryd.prog ops Q rest (a.put o.dst v') w') : wpList Tryd.prog ops Q (o :: rest) a w := by
  obtain ⟨i0, hi, hz0, hz1, hz2⟩ := info_parts hi
  have hsrc : Src Tryd.prog 2 tS (.slice (some ⟨k, 0, none⟩) 1 c) 1 [c0, c1] w := by
    refine Src.ofSlice w hu ⟨k, 0, none⟩ 1 c [c0, c1] rfl (fun j u hj => ?_) (fun u hu => ?_)
    · rcases (by have := (List.getElem?_eq_some_iff.1 hj).1; simp at this; omega : j = 0 ∨ j = 1) with rfl | rfl
      · simp at hj; rw [← hj]; simpa [Addr.add] using h0
      · simp at hj; rw [← hj]; simpa [Addr.add] using h1
    · simp only [List.mem_cons, List.not_mem_nil, or_false] at hu
      rcases hu with rfl | rfl
      · exact o0
      · exact o1
  have hmul : (n + 1) * bytes ≤ 70000 * 64 := Nat.mul_le_mul hn hby
  exact Own.wpList_append_src hgd s x tS tS ho B e i0 z 2 bytes hu hi hz0 hz1 hz2 hz v n xs hv hown _ 1 [c0, c1] hx hsrc (by simp only [maxLen]; omega) (by omega) hB h
theorem cut_colon (l : Bs) : Lib.cut l [58] = (match cutL l with | none => (l, [], false) | some (a, r) => (a, r, true)) := by
  have key : ∀ l : Bs, (cutL l = none ∧ Lib.index l [58] = -1) ∨ ∃ a r, cutL l = some (a, r) ∧ Lib.index l [58] = (a.length : Int) ∧ l = a ++ 58 :: r := by
    intro l
    induction l with
    | nil => exact .inl ⟨rfl, rfl⟩
    | cons c l ih =>
      have e1 : Lib.index (c :: l) [58] = if ([58] : List UInt8).isPrefixOf (c :: l) then 0 else if Lib.index l [58] == -1 then -1 else Lib.index l [58] + 1 := rfl
      have e2 : cutL (c :: l) = if c = 58 then some ([], l) else (cutL l).map fun p => (c :: p.1, p.2) := rfl
      by_cases hc : c = 58
      · subst hc
        exact .inr ⟨[], l, by rw [e2, if_pos rfl], by rw [e1]; rfl, rfl⟩
      · have hp : ([58] : List UInt8).isPrefixOf (c :: l) = false := by
          simp [List.isPrefixOf]
          exact fun h => hc h.symm
        rw [e1, e2, if_neg hc, hp]
        rcases ih with ⟨h1, h2⟩ | ⟨a, r, h1, h2, h3⟩
        · left
          rw [h1, h2]
          exact ⟨rfl, rfl⟩
        · right
          refine ⟨c :: a, r, by rw [h1]; rfl, ?_, by rw [h3]; rfl⟩
          rw [h2]
          have : ((a.length : Int) == -1) = false := by rw [beq_eq_false_iff_ne]; omega
          simp [this]
  unfold Lib.cut
  rcases key l with ⟨h1, h2⟩ | ⟨a, r, h1, h2, h3⟩
  · rw [h1, h2]; rfl
  · rw [h1, h2, if_pos (by omega), Int.toNat_natCast]
    simp only
    rw [h3, List.take_left]
    congr 2
    show List.drop (a.length + 1) (a ++ 58 :: r) = r
    rw [← List.drop_drop, List.drop_left]
    rfl
/-- What Cut tells. -/
theorem cut_any (s : ByteArray) (w : World) (hs : s.size < 4294967281) (hm : Txt.MaxLen w) :
    Calls Tryd.prog 60 #[.string s, .string ⟨#[58]⟩] w fun e w' => e = .returned (match cutL s.data.toList with
      | none => .tuple #[.string s, .string (S []), .bool false]
      | some (a, r) => .tuple #[.string (S a), .string (S r), .bool true]) ∧ ∃ n, w' = w.drewN n := by
  obtain ⟨m, hm⟩ := hm
  refine (Tryd.strings_Cut s ⟨#[58]⟩ m w hs hm).mono fun e w' h => ⟨?_, h.2⟩
  rw [h.1, show (⟨#[58]⟩ : ByteArray).data.toList = [58] from rfl, cut_colon]
  cases cutL s.data.toList with
  | none =>
    show Ending.returned (.tuple #[.string (S s.data.toList), .string (S []), .bool false]) = _
    rw [S_self]
  | some p => rfl
end Stz
end Go.Proofs.YtgolnfgkoolpoaaDoor

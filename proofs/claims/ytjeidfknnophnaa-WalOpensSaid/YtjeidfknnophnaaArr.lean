/-
Arrays of integers as values: when two are the same; one of their places. No program is named here.
-/
import Derived.WalkKit
import Derived.Laws.StructEq
namespace Go.Proofs.Ytjeidfknnophnaa
namespace Arr
section
variable {P : Program}

theorem run_part (e : TypeId) (kd : IntKind) (k : IntKind) (he : P.underlying e = some (.int k)) (xs : List Int) (j : Nat) (hj : j < xs.length) (w : World) :
    (part e (xs.map (Value.int kd)).toArray j).run P w = .ok (.int kd (xs.getD j 0)) w := by
  have : (isAgg e).run P w = .ok false w := by
    unfold isAgg; rw [Sem.run_bind, run_underlying he w]; simp
  simp [part, Sem.run_bind, this, hj]

theorem drop_eq (xs ys : List Int) (i : Nat) (hx : i < xs.length) (hy : i < ys.length) : (xs.drop i = ys.drop i) ↔ (xs.getD i 0 = ys.getD i 0 ∧ xs.drop (i + 1) = ys.drop (i + 1)) := by
  rw [show xs.drop i = xs[i] :: xs.drop (i + 1) from List.drop_eq_getElem_cons hx, show ys.drop i = ys[i] :: ys.drop (i + 1) from List.drop_eq_getElem_cons hy, List.cons.injEq]
  simp [hx, hy]

theorem run_equalIn_ints (d : Nat) (t e : TypeId) (n : Nat) (kd k : IntKind) (ht : P.underlying t = some (.array n e)) (he : P.underlying e = some (.int k)) (hs : (P.info? e).map (·.size) = some 1)
    (xs ys : List Int) (hx : xs.length = n) (hy : ys.length = n) (w : World) :
    (Op.equalIn (d + 2) t (.agg (xs.map (Value.int kd)).toArray) (.agg (ys.map (Value.int kd)).toArray)).run P w = .ok (decide (xs = ys)) w := by
  have hsz : ∀ w, (sizeOf e).run P w = .ok 1 w := fun w => by
    cases hq : P.info? e with
    | none => simp [hq] at hs
    | some i => have : i.size = 1 := by simpa [hq] using hs
                simp [sizeOf, typeInfo, hq, this]
  have hone : ∀ a b w, (Op.equalIn (d + 1) e (.int kd a) (.int kd b)).run P w = .ok (a == b) w := fun a b w => run_equalIn_int (P := P) w d e kd k a b he
  rw [Op.equalIn]
  simp only [Sem.run_bind, run_underlying ht, Result.andThen_ok, hsz]
  rw [Std.Legacy.Range.forIn_eq_forIn_range']
  simp only [Std.Legacy.Range.size]
  have key : ∀ (m i : Nat), i + m = n → (forIn (List.range' i m) ((none : Option Bool), ()) fun i (_ : Option Bool × Unit) => do
            let a ← part e (List.map (Value.int kd) xs).toArray (i * 1)
            let b ← part e (List.map (Value.int kd) ys).toArray (i * 1)
            let r ← Op.equalIn (d + 1) e a b
            if (!r) = true then pure (ForInStep.done (some false, ())) else pure (ForInStep.yield (none, ()))).run P w = .ok (if xs.drop i = ys.drop i then (none, ()) else (some false, ())) w := by
    intro m
    induction m with
    | zero =>
      intro i hi
      rw [List.drop_eq_nil_of_le (by omega), List.drop_eq_nil_of_le (by omega)]
      simp
    | succ m ih =>
      intro i hi
      rw [List.range'_succ, List.forIn_cons]
      simp only [Sem.run_bind, Nat.mul_one, run_part e kd k he xs i (by omega) w, run_part e kd k he ys i (by omega) w, Result.andThen_ok, hone]
      by_cases hab : xs.getD i 0 = ys.getD i 0
      · have e1 : (xs.getD i 0 == ys.getD i 0) = true := by simpa using hab
        have h2 := ih (i + 1) (by omega)
        simp only [Nat.mul_one] at h2
        simp only [e1, Bool.not_true, Bool.false_eq_true, if_false, Sem.run_pure, Result.andThen_ok, h2]
        congr 1
        simp only [drop_eq xs ys i (by omega) (by omega), hab, true_and]
      · have e1 : (xs.getD i 0 == ys.getD i 0) = false := by simpa using hab
        simp only [e1, Bool.not_false, if_true, Sem.run_pure, Result.andThen_ok]
        rw [if_neg (fun h => hab ((drop_eq xs ys i (by omega) (by omega)).1 h).1)]
  have := key n 0 (by omega)
  rw [show (n - 0 + 1 - 1) / 1 = n by omega, this]
  simp only [Result.andThen_ok, List.drop_zero]
  by_cases h : xs = ys <;> simp [h]

/-- x == y, of two arrays of integers. -/
theorem run_eql_ints (t e : TypeId) (n : Nat) (kd k : IntKind) (ht : P.underlying t = some (.array n e)) (he : P.underlying e = some (.int k)) (hs : (P.info? e).map (·.size) = some 1)
    (xs ys : List Int) (hx : xs.length = n) (hy : ys.length = n) (w : World) :
    (binOp .eql t (.agg (xs.map (Value.int kd)).toArray) (.agg (ys.map (Value.int kd)).toArray)).run P w = .ok (.bool (decide (xs = ys))) w := by
  rw [run_eql_struct]
  rw [run_equalIn_ints 9998 t e n kd k ht he hs xs ys hx hy w]
  rfl
/-- x[i] of an array of integers. -/
theorem run_index_ints (t e : TypeId) (n : Nat) (kd k : IntKind) (ht : P.underlying t = some (.array n e)) (he : P.underlying e = some (.int k)) (hs : (P.info? e).map (·.size) = some 1)
    (xs : List Int) (hx : xs.length = n) (j : Nat) (hj : j < n) (w : World) :
    (Instr.index t (.agg (xs.map (Value.int kd)).toArray) (.int .i64 j)).run P w = .ok (.int kd (xs.getD j 0)) w := by
  have hsz : (sizeOf e).run P w = .ok 1 w := by
    cases hq : P.info? e with
    | none => simp [hq] at hs
    | some i => have : i.size = 1 := by simpa [hq] using hs
                simp [sizeOf, typeInfo, hq, this]
  have h1 : (0 : Int) ≤ j ∧ (j : Int) < n := by omega
  simp only [Instr.index, asIntOf, Sem.run_bind, Sem.run_pure, Result.andThen_ok, run_underlying ht, h1, and_self, if_true, hsz, Nat.mul_one, Int.toNat_natCast]
  exact run_part e kd k he xs j (by omega) w
end
end Arr
end Go.Proofs.Ytjeidfknnophnaa

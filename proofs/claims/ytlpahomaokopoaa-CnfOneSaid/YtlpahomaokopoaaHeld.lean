/-
Regions that draw their order: a load of one cell may be taken first where every world of the class has that cell; and what never looks at the world.
-/
import Derived.OrdersHeld
import Derived.Deep.MidRow
import Derived.WalkKit
namespace Go.Proofs.Ytlpahomaokopoaa
open Go.RowKit
namespace Held
theorem run_load_one {P : Program} {w : World} {b o : Nat} {v : Value} {ty : TypeId} {d : TypeDesc} (hc : w.cell? ⟨b, o, none⟩ = some v) (hu : P.underlying ty = some d) (hd : d.isRow = false) : (Instr.loadAt ty (.pointer (some ⟨b, o, none⟩))).run P w = .ok v w := by
  have hagg : (isAgg ty).run P w = .ok false w := by
    unfold isAgg
    rw [Sem.run_bind, run_underlying hu w]
    cases d <;> simp_all
  simp only [Instr.loadAt, Instr.sureAddr, Sem.run_bind, Sem.run_pure, Result.andThen_ok, loadVar, hagg]
  simp [hc]
theorem load1 {P : Program} {ops : Array Oper} {S : World → Prop} {op : Oper} {a : Act} (hw : Region.wanted op (yielded ops a.tmps) = true) (ty : TypeId) (x : Operand) (ho : op.op = .load ty x)
    (b o : Nat) (hx : a.eval x = .pointer (some ⟨b, o, none⟩)) (v : Value) (d : TypeDesc) (hS : ∀ w, S w → w.cell? ⟨b, o, none⟩ = some v)
    (hu : P.underlying ty = some d) (hd : d.isRow = false) : YieldsIf P ops S op v a :=
  .inl ⟨hw, fun w hw' => by
    unfold execOp
    simp only [ho, hx]
    rw [Sem.run_bind, run_load_one (hS w hw') hu hd]
    rfl⟩
theorem run_index_one {P : Program} {T e : TypeId} {n : Nat} {d : TypeDesc} (hu : P.underlying T = some (.array n e)) (he : P.underlying e = some d) (hd : d.isRow = false) (hsz : (P.info? e).map (·.size) = some 1) {cs : Array Value} {j : Nat} (hj : j < n) {v : Value} (hv : cs[j]? = some v) (w : World) :
    (Instr.index T (.agg cs) (.int .i64 j)).run P w = .ok v w := by
  have hs : ∀ w, (sizeOf e).run P w = .ok 1 w := fun w => by
    cases hq : P.info? e with
    | none => simp [hq] at hsz
    | some i =>
      have : i.size = 1 := by simpa [hq] using hsz
      simp [sizeOf, typeInfo, hq, this]
  have hj' : (0 : Int) ≤ j ∧ (j : Int) < (n : Nat) := by omega
  have ha : ∀ w, (isAgg e).run P w = .ok false w := fun w => by
    unfold isAgg
    simp only [Sem.run_bind, run_underlying he, Result.andThen_ok]
    cases d <;> simp_all
  simp only [Instr.index, asIntOf, Sem.run_bind, Sem.run_pure, Result.andThen_ok, run_underlying hu, hj', and_self, if_true, hs, Int.toNat_natCast, Go.part, ha]
  simp [hv]
end Held
end Go.Proofs.Ytlpahomaokopoaa

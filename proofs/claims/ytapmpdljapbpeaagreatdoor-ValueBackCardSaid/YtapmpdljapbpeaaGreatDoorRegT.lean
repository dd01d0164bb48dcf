/-
A region that draws its order, whose last operations write what its first ones read: a condition on the world that must be shown only while the n-th operation has not come up. No program is named here.
-/
import Derived.Test.YtapmpdljapbpeaaGreatDoorReg
import Derived.OrdersHeld
namespace Go.Proofs.YtapmpdljapbpeaaGreatDoor
open Go
namespace Reg
section
variable {P : Program} {ops : Array Oper} {Q : Exit → Act → World → Prop} {md : Region.Mode} {S : World → Prop} {n : Nat}
theorem yields_load_one {P : Program} {ops : Array Oper} {S : World → Prop} {op : Oper} {a : Act} (hw : Region.wanted op (yielded ops a.tmps) = true) (ty : TypeId) (x : Operand) (ho : op.op = .load ty x)
    (b o : Nat) (hx : a.eval x = .pointer (some ⟨b, o, none⟩)) (v : Value) (hc : ∀ w, S w → w.cell? ⟨b, o, none⟩ = some v) (hd : ∀ w, (isAgg ty).run P w = .ok false w) : YieldsIf P ops S op v a := by
  refine .inl ⟨hw, fun w hS => ?_⟩
  have h := hc w hS
  unfold execOp
  simp [ho, hx, Instr.loadAt, Instr.sureAddr, loadVar, hd, h]
end
end Reg
end Go.Proofs.YtapmpdljapbpeaaGreatDoor

/-
Scripts: what a list of calls reads as.
-/
import Derived.Test.YthjilmeaaghpaaaDiskLike
import Derived.Deep.Slices
import Derived.Deep.Fields
import Derived.ChangeSame
import Derived.OpenShut
import Derived.ChangeOld
namespace Go.Proofs.Ythjilmeaaghpaaa
open Go.RowKit Go.ChangeShapes Go.WideShapes Go.Deep
set_option linter.unusedVariables false
namespace Pair
open Disk (Sec Secs St hasB Dk)
open Ref (Rk)

/-- A script that came in. -/
structure Script (w : World) (v : Value) (len : Nat) (cl : Nat → Cl) : Prop where
  short : len ≤ 9223372036854775807
  shape : ∃ a cap, v = .slice a len cap ∧ (0 < len → ∃ b off, a = some ⟨b, off, none⟩ ∧ ∀ i, i < len → Ok w.heap.size w (cl i) ∧ b < w.heap.size ∧ ∀ j x, (cl i).cells[j]? = some x → w.cell? ⟨b, off + i * 5 + j, none⟩ = some x)

theorem At.chgBelow {B : Nat} {u u' : World} {dk : Dk} {m : Rk} {sd sr : St} (h : At B u dk m sd sr) (hb : B ≤ u.heap.size) (hc : Blk.Chg (Has dk m) u u') : Below B u u' := hc.below (fun k hk => h.hasBase hk) hb


section
variable {H : Type} {enc : TypeId × Value → H} {w : World} {base : Nat}
theorem addr_mid (b off : Nat) (k : Nat) : (Addr.mk b off none).add k = ⟨b, off + k, none⟩ := Addr.add_mid b off k

/-- One field of bytes. -/
theorem open_picks {n : Nat} {v : Value} {y : DataW H × List MemPlace} (h : DataW.trod enc Try.prog w base (fun _ => true) true n 28 [v] = some y) :
    ∃ a len cap zs, v = .slice a len cap ∧ IsRow .u8 w a len cap zs := by
  rcases open_ints Try.underlying28 Try.underlying5 (by kernel_rfl) h with ⟨hcs, _⟩ | ⟨x, l, c, zs, hcs, _, hl, hm, hz, _, hcell, hwz⟩
  · obtain rfl : v = .slice none 0 0 := by simpa using hcs
    exact ⟨none, 0, 0, [], rfl, .inl ⟨rfl, rfl, rfl, rfl⟩⟩
  · obtain rfl : v = .slice (some x) l c := by simpa using hcs
    exact ⟨some x, l, c, zs, rfl, .inr ⟨x, rfl, hl, hm, by simpa using hz, hcell, hwz⟩⟩
theorem row_ok {a : Option Addr} {len cap : Nat} {zs : List Int} (h : IsRow .u8 w a len cap zs) (hl : 0 < len) (x : Addr) (hx : a = some x) : x.block < w.heap.size := by
  obtain ⟨b, off, e, hlt, _⟩ := h.row.cells hl
  rw [hx] at e; cases e; exact hlt

/-- One element of a script. -/
def Reads (w : World) (a : Addr) (i : Nat) (c : Cl) : Prop := Ok w.heap.size w c ∧ ∀ j x, c.cells[j]? = some x → w.cell? (a.add (i * 5 + j)) = some x
theorem cellsInt : Try.prog.cellsOf 3 = 1 := by kernel_rfl
theorem cellsU8 : Try.prog.cellsOf 5 = 1 := by kernel_rfl
theorem cellsBool : Try.prog.cellsOf 4 = 1 := by kernel_rfl
theorem cellsBytes : Try.prog.cellsOf 28 = 1 := by kernel_rfl
theorem cellsCall : Try.prog.cellsOf 30 = 5 := by kernel_rfl
theorem open_call {a : Addr} {i n : Nat} {cs : List Value} {y : DataW H × List MemPlace} (hc : w.cells? base (a.add (i * 5)) 5 = some cs)
    (ht : DataW.trod enc Try.prog w base (fun _ => true) true n 30 cs = some y) : ∃ c, Reads w a i c := by
  obtain ⟨_, hl, hat⟩ := World.cells?_some hc
  obtain ⟨xs, n', _, _, _, hlen, hf⟩ := DataW.trod_struct Try.underlying30 ht
  have hx : ∀ j, j < 5 → ∃ x, xs[j]? = some x := fun j hj => ⟨xs[j]'(by rw [hlen]; exact hj), List.getElem?_eq_getElem _⟩
  obtain ⟨y0, e0⟩ := hx 0 (by omega)
  obtain ⟨y1, e1⟩ := hx 1 (by omega)
  obtain ⟨y2, e2⟩ := hx 2 (by omega)
  obtain ⟨y3, e3⟩ := hx 3 (by omega)
  obtain ⟨y4, e4⟩ := hx 4 (by omega)
  match cs, hl with
  | [v0, v1, v2, v3, v4], _ =>
    have h0 : DataW.trod enc Try.prog w base (fun _ => true) true n' 3 (([v0, v1, v2, v3, v4].drop 0).take (Try.prog.cellsOf 3)) = some y0 := (hf 0 _ rfl).trans e0
    rw [cellsInt] at h0
    have h1 : DataW.trod enc Try.prog w base (fun _ => true) true n' 3 (([v0, v1, v2, v3, v4].drop 1).take (Try.prog.cellsOf 3)) = some y1 := (hf 1 _ rfl).trans e1
    rw [cellsInt] at h1
    have h2 : DataW.trod enc Try.prog w base (fun _ => true) true n' 5 (([v0, v1, v2, v3, v4].drop 2).take (Try.prog.cellsOf 5)) = some y2 := (hf 2 _ rfl).trans e2
    rw [cellsU8] at h2
    have h3 : DataW.trod enc Try.prog w base (fun _ => true) true n' 4 (([v0, v1, v2, v3, v4].drop 3).take (Try.prog.cellsOf 4)) = some y3 := (hf 3 _ rfl).trans e3
    rw [cellsBool] at h3
    have h4 : DataW.trod enc Try.prog w base (fun _ => true) true n' 28 (([v0, v1, v2, v3, v4].drop 4).take (Try.prog.cellsOf 28)) = some y4 := (hf 4 _ rfl).trans e4
    rw [cellsBytes] at h4
    obtain ⟨x0, e0, _, w0⟩ := DataW.trod_int Try.underlying3 h0
    obtain ⟨x1, e1, _, w1⟩ := DataW.trod_int Try.underlying3 h1
    obtain ⟨x2, e2, _, w2⟩ := DataW.trod_int Try.underlying5 h2
    obtain ⟨x3, e3, _⟩ := DataW.trod_bool Try.underlying4 h3
    obtain ⟨pa, pl, pc, zs, rfl, hrow⟩ := open_picks h4
    obtain rfl : v0 = .int .i64 x0 := by simpa using e0
    obtain rfl : v1 = .int .i64 x1 := by simpa using e1
    obtain rfl : v2 = .int .u8 x2 := by simpa using e2
    obtain rfl : v3 = .bool x3 := by simpa using e3
    have b1 := bounds_i64 w1
    have b2 := bounds_u8 w2
    refine ⟨⟨x0, x1, x2, x3, pa, pl, pc, zs.take pl⟩, ⟨by show x1 ≤ _; omega, by show 0 ≤ x2; omega, by show x2 < 256; omega, hrow.row, hrow.le, hrow.nil, fun h0 x hx => row_ok hrow h0 x hx⟩, fun j x hj => ?_⟩
    have hj5 : j < 5 := (Array.getElem?_eq_some_iff.1 hj).1
    rw [← Go.Deep.add_add, hat j hj5, ← hj]
    simp [Cl.cells]

theorem script_of {v : Value} {d : DataW H} {p : List MemPlace} (k : DataW.Trod enc Try.prog w 0 (fun _ => true) true 22 v d p) (o : Value.okWide Try.prog w .any base 22 v) : ∃ len cl, Script w v len cl := by
  obtain ⟨a, len, cap, rfl⟩ := okWide_slice Try.underlying22 o
  obtain ⟨fuel, hf⟩ := k
  rcases open_slice Try.underlying22 hf with ⟨hcs, _⟩ | ⟨x, l, c, m, n, D, Pl, hcs, _, hl, hm, hmm, _, hi⟩
  · simp [Value.cells] at hcs
    obtain ⟨rfl, rfl, rfl⟩ := hcs
    exact ⟨0, fun _ => ⟨0, 0, 0, false, none, 0, 0, []⟩, ⟨by omega, none, 0, rfl, by omega⟩⟩
  · simp [Value.cells] at hcs
    obtain ⟨rfl, rfl, rfl⟩ := hcs
    have hmc : m = cap := by simpa using hmm
    have hall : ∀ i, i < len → ∃ c, Reads w x i c := fun i hil => by
      obtain ⟨cs', hc, ht⟩ := hi i (by omega)
      rw [cellsCall] at hc
      exact open_call hc ht
    unfold maxLen at hm
    refine ⟨len, fun i => if h : i < len then (hall i h).choose else ⟨0, 0, 0, false, none, 0, 0, []⟩, ⟨by omega, some x, _, rfl, fun h0 => ?_⟩⟩
    obtain ⟨b, off, ho⟩ : ∃ b off, x = ⟨b, off, none⟩ := by
      have h := (hall 0 h0).choose_spec.2 0 _ rfl
      obtain ⟨b, off, part⟩ := x
      have hp : part = none := by simpa [Addr.add] using World.cell?_spot h
      subst hp
      exact ⟨b, off, rfl⟩
    subst ho
    refine ⟨b, off, rfl, fun i hil => ?_⟩
    have h := (hall i hil).choose_spec
    simp only [hil, dif_pos]
    have hc0 := h.2 0 _ rfl
    rw [addr_mid] at hc0
    refine ⟨h.1, block_lt_of_cell hc0, fun j y hj => ?_⟩
    have := h.2 j y hj
    rw [addr_mid, ← Nat.add_assoc] at this
    exact this
end
end Pair
end Go.Proofs.Ythjilmeaaghpaaa

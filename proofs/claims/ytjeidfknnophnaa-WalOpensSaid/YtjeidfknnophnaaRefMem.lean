/-
The reference's disk in memory: rows of rows of bytes. Its calls: call, end, Read, Write, Flush.
-/
import Derived.Test.YtjeidfknnophnaaRow
import Derived.Test.YtjeidfknnophnaaDiskSt
import Derived.Deep.RegionHeld3
namespace Go.Proofs.Ytjeidfknnophnaa
open Go.RowKit
set_option linter.unusedVariables false
namespace Ref
open Disk (Sec Secs St)

theorem infoBytes : (Try.prog.info? 25).map (fun i => (i.zero, i.size, i.bytes)) = some (some (.slice none 0 0), 1, 24) := by kernel_rfl
theorem sizeBytes : (Try.prog.info? 25).map (·.size) = some 1 := by kernel_rfl

/-- A row of n rows of 64 bytes. -/
structure Tbl (w : World) (B : Nat) (v : Value) (n : Nat) (l : List (List Int)) : Prop where
  secs : Secs n l
  few : n ≤ 4096
  lies : ∃ vals, w.ownsRow B 25 1 v n vals ∧ ∀ i, i < n → ∃ x, vals[i]? = some x ∧ Mine w B x (l.getD i [])

theorem Tbl.shape {w B v n l} (h : Tbl w B v n l) : ∃ a cap, v = .slice a n cap ∧ n ≤ cap := by
  obtain ⟨vals, ho, _⟩ := h.lies
  rcases ho.2 with ⟨rfl, rfl⟩ | ⟨g, cap, cur, rfl, _, _, hn, _⟩
  · exact ⟨_, _, rfl, Nat.le_refl _⟩
  · exact ⟨_, _, rfl, hn⟩
/-- The place i: the row's value, and what it leads to. -/
structure Place (w : World) (B g i : Nat) (a : Nat) (cap : Nat) (r : List Int) : Prop where
  cell : w.cell? ⟨g, i, none⟩ = some (.slice (some ⟨a, 0, none⟩) 64 cap)
  le : 64 ≤ cap
  base : B ≤ a
  bytes : ∃ cur, Blk.Is w a 5 cur
  row : Row w (some ⟨a, 0, none⟩) 64 r
theorem open64 {w : World} {B : Nat} {x : Value} {r : List Int} (h : Mine w B x r) (hr : Sec r) : ∃ a cap, x = .slice (some ⟨a, 0, none⟩) 64 cap ∧ 64 ≤ cap ∧ B ≤ a ∧ (∃ cur, Blk.Is w a 5 cur) ∧ Row w (some ⟨a, 0, none⟩) 64 r := by
  have hl := hr.len
  obtain ⟨n, a, cap, hv, hle, hn, hrow⟩ := h.rows
  have hn64 : n = 64 := by omega
  rw [hn64] at hv hle hrow
  obtain ⟨b, off, ha, _, _⟩ := hrow.cells (by omega)
  rw [ha] at hv hrow
  rcases id h.1.2 with ⟨h1, _⟩ | ⟨g, cap', cur, h1, h2, h3, _⟩
  · rw [hv] at h1; cases h1
  · rw [hv] at h1
    simp only [Value.slice.injEq, Option.some.injEq, Addr.mk.injEq] at h1
    obtain ⟨⟨e1, e2, _⟩, _, e3⟩ := h1
    subst e1 e2
    exact ⟨b, cap, hv, hle, h2, ⟨cur, h3⟩, hrow⟩
theorem Tbl.place {w B v n l} (h : Tbl w B v n l) (i : Nat) (hi : i < n) : ∃ g cap a c, v = .slice (some ⟨g, 0, none⟩) n cap ∧ B ≤ g ∧ v.ownBlock = some g ∧ (∀ j, w.frozen? ⟨g, j, none⟩ = false) ∧ Place w B g i a c (l.getD i []) := by
  obtain ⟨vals, ho, hp⟩ := h.lies
  obtain ⟨x, hx, hm⟩ := hp i hi
  rcases id ho.2 with ⟨_, h0⟩ | ⟨g, cap, cur, rfl, hg, hh, hn, _⟩
  · omega
  · obtain ⟨a, c, rfl, h1, h2, h3, h4⟩ := open64 hm (h.secs.at hi)
    refine ⟨g, cap, a, c, rfl, hg, rfl, fun j => (show Blk.Is w g _ _ from hh).free j, ⟨?_, h1, h2, h3, h4⟩⟩
    rw [ho.cellAt i (by omega)]; exact hx
/-- No block of bytes is changed, nor the table's own. -/
theorem Tbl.chg {w w' B v n l} {S : Nat → Prop} (h : Tbl w B v n l) (hb : Blk.Chg S w w') (hv : ∀ b, v.ownBlock = some b → ¬ S b) (hu : ∀ b cur, Blk.Is w b 5 cur → ¬ S b) : Tbl w' B v n l := by
  obtain ⟨vals, ho, hp⟩ := h.lies
  refine ⟨h.secs, h.few, vals, hb.owns ho hv, fun i hi => ?_⟩
  obtain ⟨x, hx, hm⟩ := hp i hi
  refine ⟨x, hx, hm.chg hb fun b hb' => ?_⟩
  obtain ⟨_, _, cur, hc⟩ := hm.block hb'
  exact hu b cur hc
theorem Tbl.below {w w' B v n l} (h : Tbl w B v n l) (hb : Below w.heap.size w w') : Tbl w' B v n l :=
  h.chg (S := fun _ => False) (Blk.Chg.ofBelow' hb) (by simp) (by simp)
/-- The place i is stored anew. -/
theorem Tbl.set {w w' B n l} {g cap : Nat} (h : Tbl w B (.slice (some ⟨g, 0, none⟩) n cap) n l) (i : Nat) (hi : i < n) (x : Value) (r : List Int) (hr : Sec r) (hx : Mine w B x r) (hw : w' = w.setCell ⟨g, i, none⟩ x) : Tbl w' B (.slice (some ⟨g, 0, none⟩) n cap) n (l.set i r) := by
  obtain ⟨vals, ho, hp⟩ := h.lies
  have hne : ∀ y ys, Mine w B y ys → ∀ b, y.ownBlock = some b → ¬ b = g := by
    rintro y ys hm b hb rfl
    obtain ⟨_, _, cur, hc⟩ := hm.block hb
    rcases id ho.2 with ⟨h1, _⟩ | ⟨g', cap', cur', h1, _, hh, _⟩
    · cases h1
    · cases h1
      exact (Blk.Is.ne hc hh (by decide)) rfl
  have hc : Blk.Chg (fun k => k = g) w w' := by rw [hw]; exact Blk.Chg.setAt (Blk.Chg.refl _ w) rfl
  have hst := ho.stored i x
  refine ⟨h.secs.set i hr, h.few, vals.set i x, by rw [hw]; exact hst.1, fun j hj => ?_⟩
  have hl : vals.length = n := by rw [ho.1, Nat.mul_one]
  by_cases e : i = j
  · subst e
    refine ⟨x, by simp [hl, hi], ?_⟩
    have : (l.set i r).getD i [] = r := by simp [h.secs.count, hi]
    rw [this]
    exact hx.chg hc (hne x r hx)
  · obtain ⟨y, hy, hm⟩ := hp j hj
    refine ⟨y, by rw [List.getElem?_set_ne e]; exact hy, ?_⟩
    have : (l.set i r).getD j [] = l.getD j [] := by simp [List.getElem?_set_ne e]
    rw [this]
    exact hm.chg hc (hne y _ hm)

/-- Where a reference disk lies. -/
structure Rk where
  B : Nat
  p : Nat
  vn : Value
  vs : Value
  n : Nat
def Rk.Has (m : Rk) (k : Nat) : Prop := k = m.p ∨ m.vn.ownBlock = some k ∨ m.vs.ownBlock = some k
def Rk.ptr (m : Rk) : Value := .pointer (some ⟨m.p, 0, none⟩)
def Rk.cells (m : Rk) (s : St) : Array Value := #[m.vn, m.vs, .int .i64 s.calls, .int .i64 s.fuse, .bool s.off]
structure At (w : World) (m : Rk) (s : St) : Prop where
  obj : Blk.Is w m.p 76 (m.cells s)
  now : Tbl w m.B m.vn m.n s.now
  sure : Tbl w m.B m.vs m.n s.sure
  base : m.B ≤ m.p
  apart : ∀ b, m.vn.ownBlock = some b → m.vs.ownBlock = some b → False
  fuse0 : 0 ≤ s.fuse
  fuse1 : s.fuse ≤ 9223372036854775807
theorem tbl_block {w B v n l} (h : Tbl w B v n l) {b : Nat} (hb : v.ownBlock = some b) : B ≤ b ∧ ∃ cur, Blk.Is w b 25 cur := by
  obtain ⟨vals, ho, _⟩ := h.lies
  rcases ho.2 with ⟨rfl, _⟩ | ⟨g, cap, cur, rfl, hg, hh, _⟩
  · simp [Value.ownBlock] at hb
  · simp [Value.ownBlock] at hb; subst hb; exact ⟨hg, cur, hh⟩
theorem At.bytes {w m s} (h : At w m s) : ∀ b cur, Blk.Is w b 5 cur → ¬ m.Has b := by
  intro b cur hc
  rintro (rfl | hb | hb)
  · exact (Blk.Is.ne hc h.obj (by decide)) rfl
  · obtain ⟨_, c, h1⟩ := tbl_block h.now hb; exact (Blk.Is.ne hc h1 (by decide)) rfl
  · obtain ⟨_, c, h1⟩ := tbl_block h.sure hb; exact (Blk.Is.ne hc h1 (by decide)) rfl
theorem At.hasBase {w m s} (h : At w m s) {k : Nat} (hk : m.Has k) : m.B ≤ k := by
  rcases hk with rfl | hb | hb
  · exact h.base
  · exact (tbl_block h.now hb).1
  · exact (tbl_block h.sure hb).1
theorem At.chg {w w' m s} {S : Nat → Prop} (h : At w m s) (hb : Blk.Chg S w w') (hn : ∀ k, m.Has k → ¬ S k) (hu : ∀ b cur, Blk.Is w b 5 cur → ¬ S b) : At w' m s :=
  ⟨hb.is h.obj (hn _ (.inl rfl)), h.now.chg hb (fun b hb' => hn b (.inr (.inl hb'))) hu, h.sure.chg hb (fun b hb' => hn b (.inr (.inr hb'))) hu, h.base, h.apart, h.fuse0, h.fuse1⟩
theorem At.below {w w' m s} (h : At w m s) (hb : Below w.heap.size w w') : At w' m s := h.chg (S := fun _ => False) (Blk.Chg.ofBelow' hb) (by simp) (by simp)
theorem At.drew {w m s} (h : At w m s) : At w.drew m s := h.below (Below.refl _ _).drew
/-- Fields of the object alone are changed. -/
theorem At.set {w w' m s} (h : At w m s) (s' : St) (hnow : s'.now = s.now) (hsure : s'.sure = s.sure) (h0 : 0 ≤ s'.fuse) (h1 : s'.fuse ≤ 9223372036854775807)
    (hobj : Blk.Is w' m.p 76 (m.cells s')) (hb : Blk.Chg (fun k => k = m.p) w w') : At w' m s' := by
  have hu : ∀ b cur, Blk.Is w b 5 cur → ¬ b = m.p := fun b cur hc e => h.bytes b cur hc (.inl e)
  have hv : ∀ v n l, Tbl w m.B v n l → ∀ b, v.ownBlock = some b → ¬ b = m.p := by
    rintro v n l ht b hb' rfl
    obtain ⟨_, c, k⟩ := tbl_block ht hb'
    exact (Blk.Is.ne k h.obj (by decide)) rfl
  exact ⟨hobj, hnow ▸ h.now.chg hb (hv _ _ _ h.now) hu, hsure ▸ h.sure.chg hb (hv _ _ _ h.sure) hu, h.base, h.apart, h0, h1⟩

structure Flds (w : World) (m : Rk) (s : St) : Prop where
  c0 : w.cell? ⟨m.p, 0, none⟩ = some m.vn
  c1 : w.cell? ⟨m.p, 1, none⟩ = some m.vs
  c2 : w.cell? ⟨m.p, 2, none⟩ = some (.int .i64 s.calls)
  c3 : w.cell? ⟨m.p, 3, none⟩ = some (.int .i64 s.fuse)
  c4 : w.cell? ⟨m.p, 4, none⟩ = some (.bool s.off)
  f : ∀ j, w.frozen? ⟨m.p, j, none⟩ = false
theorem At.flds {w m s} (h : At w m s) : Flds w m s := ⟨h.obj.at rfl, h.obj.at rfl, h.obj.at rfl, h.obj.at rfl, h.obj.at rfl, h.obj.free⟩

def endErr (e : Int) (last : Bool) : Int := if last then 7 else e
theorem end_any (e : Int) (last : Bool) (w : World) :
    Calls Try.prog 46 #[.int .i64 e, .bool last] w fun r w' => r = .returned (.int .i64 (endErr e last)) ∧ w = w' := by
  cases last
  all_goals
    go_enter Try.func46, Try.ntmps46
    go_wp2
    go_ret
    exact ⟨rfl, rfl⟩

/-- What call tells: an error, and whether the power goes at it. -/
def callErr (s : St) : Int := if s.off then 7 else 0
def callLast (s : St) : Bool := !s.off && (s.fuse == 1)
theorem call_any (m : Rk) (s : St) (w : World) (h : At w m s) (hc : s.calls < 4611686018427387904) :
    Calls Try.prog 45 #[m.ptr] w fun e w' => e = .returned (.tuple #[.int .i64 (callErr s), .bool (callLast s)]) ∧ At w' m s.call ∧ Blk.Chg (fun k => k = m.p) w w' := by
  obtain ⟨c0, c1, c2, c3, c4, f⟩ := h.flds
  have f2 := f 2
  have f3 := f 3
  have f4 := f 4
  have g0 := h.fuse0
  have g1 := h.fuse1
  have hobj := h.obj
  clear f c0 c1
  have H := Lib.hid h
  have O := Lib.hid hobj
  clear h hobj
  unfold Rk.ptr
  cases ho : s.off with
  | true =>
    have b1 : s.call = { s with calls := s.calls + 1 } := by simp [St.call, ho]
    have b2 : callErr s = 7 := by simp [callErr, ho]
    have b3 : callLast s = false := by simp [callLast, ho]
    rw [ho] at c4
    have B1 := Lib.hid b1
    have B2 := Lib.hid b2
    have B3 := Lib.hid b3
    clear b1 b2 b3 ho
    go_enter Try.func45, Try.ntmps45
    go_wp2
    go_ret2
    refine ⟨by rw [B2.out, B3.out]; rfl, H.out.set _ (by rw [B1.out]) (by rw [B1.out]) (by rw [B1.out]; exact g0) (by rw [B1.out]; exact g1) ?_ ?_, ?_⟩
    · have := O.out.set 2 (.int .i64 (s.calls + 1))
      rw [B1.out]; simpa [Rk.cells] using this
    all_goals exact (Blk.Chg.refl _ w).setAt rfl
  | false =>
    have b1 : s.call = { s with calls := s.calls + 1, fuse := max 0 (s.fuse - 1), off := s.fuse == 1 } := by
      simp only [St.call, ho, Bool.false_eq_true, if_false]
      congr 1
    have b2 : callErr s = 0 := by simp [callErr, ho]
    have b3 : callLast s = (s.fuse == 1) := by simp [callLast, ho]
    rw [ho] at c4
    have B1 := Lib.hid b1
    have B2 := Lib.hid b2
    have B3 := Lib.hid b3
    clear b1 b2 b3 ho
    go_enter Try.func45, Try.ntmps45
    go_wp2
    all_goals
      go_ret2
      refine ⟨by rw [B2.out, B3.out]; rfl, H.out.set _ (by rw [B1.out]) (by rw [B1.out]) (by rw [B1.out]; show 0 ≤ max 0 (s.fuse - 1); omega) (by rw [B1.out]; show max 0 (s.fuse - 1) ≤ _; omega) ?_ ?_, ?_⟩
      · rw [B1.out]
        first
          | (have e : max 0 (s.fuse - 1) = s.fuse - 1 := by omega
             have := ((O.out.set 2 (.int .i64 (s.calls + 1))).set 3 (.int .i64 (s.fuse - 1))).set 4 (.bool (s.fuse == 1))
             simpa [Rk.cells, e] using this)
          | (have e : max 0 (s.fuse - 1) = 0 := by omega
             have := ((O.out.set 2 (.int .i64 (s.calls + 1))).set 3 (.int .i64 0)).set 4 (.bool (s.fuse == 1))
             simpa [Rk.cells, e] using this)
      all_goals (refine Blk.Chg.setAt ?_ rfl; refine Blk.Chg.setAt ?_ rfl; exact Blk.Chg.setAt (Blk.Chg.refl _ w) rfl)

end Ref
end Go.Proofs.Ytjeidfknnophnaa

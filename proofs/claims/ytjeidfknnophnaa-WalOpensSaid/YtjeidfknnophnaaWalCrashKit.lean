/-
Crashes of a disk with a log; rows of rows by place.
-/
import Derived.Test.YtjeidfknnophnaaWalRun
import Derived.Test.YtjeidfknnophnaaWalArgs
import Derived.Test.YtjeidfknnophnaaWalOrderLaw
namespace Go.Proofs.Ytjeidfknnophnaa
open Go.RowKit
set_option linter.unusedVariables false
namespace Wal
open Disk (Dk St Sec Secs fresh)

theorem live_crash {N s l a b rs} (h : Live N s l a b rs) (p : List Int) : Rdy N (s.crashed p) a b rs ∧ (s.crashed p).fuse = 0 ∧ (s.crashed p).calls = s.calls := by
  obtain ⟨hs, ho, hsu, hh, _⟩ := h
  have hc := crashed_of s N p hs (by rw [hsu]; exact hs)
  refine ⟨⟨hc.secs, hc.off, hc.sure, hh.congr hs.count hc.secs.count fun j g1 g2 => ?_⟩, hc.fuse, hc.calls⟩
  have hf := hh.fits
  have hw := hh.within
  rw [hc.same j (by omega) (by rw [hsu]), hsu]
theorem cut_crash {N s a b rs r} (h : Cut N s a b rs r) (p : List Int) : (Rdy N (s.crashed p) a b rs ∨ Rdy N (s.crashed p) a b (rs ++ [r])) ∧ (s.crashed p).fuse = 0 ∧ (s.crashed p).calls = s.calls := by
  have hc := crashed_of s N p h.now h.sure
  refine ⟨?_, hc.fuse, hc.calls⟩
  rcases h.back _ hc with hh | hh
  · exact .inl ⟨hc.secs, hc.off, hc.sure, hh⟩
  · exact .inr ⟨hc.secs, hc.off, hc.sure, hh⟩
/-- One place of a row of rows. -/
theorem Recs.at {w B v rs} (h : Recs w B v rs) (i : Nat) (hi : i < rs.length) : ∃ g cap ai ci, v = .slice (some ⟨g, 0, none⟩) rs.length cap ∧ w.cell? ⟨g, i, none⟩ = some (.slice ai (rs.getD i []).length ci) ∧
    Row w ai (rs.getD i []).length (rs.getD i []) ∧ (rs.getD i []).length ≤ ci ∧ (ai = none → ci = 0) ∧ (0 < (rs.getD i []).length → ∀ y, ai = some y → y.block < B ∨ ∃ cur, Blk.Is w y.block 5 cur) ∧ El w B (.slice ai (rs.getD i []).length ci) (rs.getD i []) := by
  obtain ⟨vals, ho, hp⟩ := h
  rcases id ho.2 with ⟨_, h2⟩ | ⟨g, cap, cur, h1, hg, hh, hn, hcap, _⟩
  · omega
  · obtain ⟨x, hx, ai, ci, rfl, h2, h3, h4, h5⟩ := hp i hi
    refine ⟨g, cap, ai, ci, h1, ?_, h2, h3, h4, h5, ⟨ai, ci, rfl, h2, h3, h4, h5⟩⟩
    subst h1
    rw [ho.cellAt i (by omega)]; exact hx
/-- The rows that are to be appended, and those that are there. -/
structure Two (w u : World) (vr vs : Value) (rows rs : List (List Int)) (i : Nat) : Prop where
  todo : Recs u w.heap.size vr rows
  sure : Recs u w.heap.size vs rs
  le : i ≤ rows.length
  few : rows.length ≤ 20
  small : ∀ r ∈ rows, r.length ≤ 300
  cnt : rs.length ≤ i
  apart : ∀ k, vr.ownBlock = some k → vs.ownBlock = some k → False
theorem Two.chg {w u u' vr vs rows rs i} {S : Nat → Prop} (h : Two w u vr vs rows rs i) (hc : Blk.Chg S u u') (hS : Calm S u w.heap.size) : Two w u' vr vs rows rs i :=
  ⟨h.todo.chg hc hS, h.sure.chg hc hS, h.le, h.few, h.small, h.cnt, h.apart⟩
theorem Two.below {w u u' vr vs rows rs i} (h : Two w u vr vs rows rs i) (hb : Below u.heap.size u u') : Two w u' vr vs rows rs i := h.chg (Blk.Chg.ofBelow' hb) (calm_none u w.heap.size)
theorem Two.next {w u vr vs rows rs i} (h : Two w u vr vs rows rs i) (hi : i < rows.length) : Two w u vr vs rows rs (i + 1) := ⟨h.todo, h.sure, hi, h.few, h.small, by have := h.cnt; omega, h.apart⟩
theorem Two.len {w u vr vs rows rs i} (h : Two w u vr vs rows rs i) {k : Nat} (hk : k < rows.length) : (rows.getD k []).length ≤ 300 := h.small _ (by simp [hk])
/-- The other row where one grows. -/
theorem recs_other {u u' : World} {B : Nat} {v v' : Value} {rs rs' : List (List Int)} (h : Recs u B v rs) (h' : Recs u B v' rs') (hne : ∀ k, v.ownBlock = some k → v'.ownBlock = some k → False) (hg : u.grownBy u' v'.ownBlock) : Recs u' B v rs := by
  obtain ⟨vals, ho, hp⟩ := h
  have hc := (Blk.Chg.refl (fun b => v'.ownBlock = some b) u).grown hg (fun k e _ => e)
  refine ⟨vals, hc.owns ho (fun b hb hs => hne b hb hs), fun i hi => ?_⟩
  obtain ⟨x, hx, he⟩ := hp i hi
  exact ⟨x, hx, he.grown h' hg⟩
theorem Two.push {w u u' vr vs vs' rows rs r i} (h : Two w u vr vs rows rs i) (hi : rs.length < i) (hs : Recs u' w.heap.size vs' (rs ++ [r])) (hg : u.grownBy u' vs.ownBlock) (hb : ∀ k, vs'.ownBlock = some k → vs.ownBlock = some k ∨ u.heap.size ≤ k) : Two w u' vr vs' rows (rs ++ [r]) i :=
  ⟨recs_other h.todo h.sure h.apart hg, hs, h.le, h.few, h.small, by rw [List.length_append, List.length_singleton]; omega, fun k e1 e2 => by
    rcases hb k e2 with h' | h'
    · exact h.apart k e1 h'
    · have := (h.todo.block e1).2.1; omega⟩
/-- A disk where a row of rows grows. -/
theorem at_grown {u u' : World} {B : Nat} {v : Value} {rs : List (List Int)} {d s} (h : Disk.At u d s) (h' : Recs u B v rs) (hg : u.grownBy u' v.ownBlock) : Disk.At u' d s := by
  refine h.chg ((Blk.Chg.refl (fun b => v.ownBlock = some b) u).grown hg (fun k e _ => e)) fun k hk e => ?_
  obtain ⟨_, _, cur, hc⟩ := h'.block e
  obtain ⟨c1, h1, _⟩ := h.now.lies
  obtain ⟨c2, h2, _⟩ := h.sure.lies
  rcases hk with rfl | rfl | rfl
  · exact (hc.ne h.obj (by decide)) rfl
  · exact (hc.ne h1 (by decide)) rfl
  · exact (hc.ne h2 (by decide)) rfl
theorem Run.grown {w u u' : World} {v : Value} {rs' : List (List Int)} {d p s l a b rs} (h : Run w u d p s l a b rs) (h' : Recs u w.heap.size v rs') (hg : u.grownBy u' v.ownBlock) : Run w u' d p s l a b rs := by
  refine ⟨at_grown h.disk h' hg, ?_, h.live, h.dnew, h.pnew, recs_below h.bel h' h.bel.size hg⟩
  refine h.log.chg ((Blk.Chg.refl (fun b => v.ownBlock = some b) u).grown hg (fun k e _ => e)) fun e => ?_
  obtain ⟨_, _, cur, hc⟩ := h'.block e
  exact (hc.ne h.log.obj (by decide)) rfl
theorem disk_calm {u : World} {d s B} (h : Disk.At u d s) (hB : d.From B) : Calm d.Has u B := fun k hk => by
  obtain ⟨c1, h1, _⟩ := h.now.lies
  obtain ⟨c2, h2, _⟩ := h.sure.lies
  refine ⟨hB.has hk, fun cur hc => ?_, fun cur hc => ?_⟩
  all_goals
    rcases hk with rfl | rfl | rfl
    · exact (hc.ne h.obj (by decide)) rfl
    · exact (hc.ne h1 (by decide)) rfl
    · exact (hc.ne h2 (by decide)) rfl
end Wal
end Go.Proofs.Ytjeidfknnophnaa

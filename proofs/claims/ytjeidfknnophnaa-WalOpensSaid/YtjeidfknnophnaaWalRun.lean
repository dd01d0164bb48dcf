/-
A log that is at work: its disk, itself, what it holds; Append upon it.
-/
import Derived.Test.YtjeidfknnophnaaWalAwake
namespace Go.Proofs.Ytjeidfknnophnaa
open Go.RowKit
set_option linter.unusedVariables false
namespace Wal
open Disk (Dk St Sec Secs fresh)

/-- A log at work in a law that began at w. -/
structure Run (w u : World) (d : Dk) (p : Nat) (s : St) (l : LSt) (a b : Nat) (rs : List (List Int)) : Prop where
  disk : Disk.At u d s
  log : LAt u p d.p l
  live : Live d.n s l a b rs
  dnew : d.From w.heap.size
  pnew : w.heap.size ≤ p
  bel : Below w.heap.size w u
theorem Run.below {w u u' d p s l a b rs} (h : Run w u d p s l a b rs) (hb : Below u.heap.size u u') : Run w u' d p s l a b rs :=
  ⟨h.disk.below hb, h.log.below hb, h.live, h.dnew, h.pnew, h.bel.trans (hb.mono h.bel.size)⟩
theorem Run.has {w u d p s l a b rs} (h : Run w u d p s l a b rs) {k : Nat} (hk : k = p ∨ d.Has k) : w.heap.size ≤ k := by
  rcases hk with rfl | hk
  · exact h.pnew
  · exact h.dnew.has hk
/-- Neither the log's block nor the disk's holds bytes, or rows of bytes. -/
theorem Run.calm {w u d p s l a b rs} (h : Run w u d p s l a b rs) : Calm (fun k => k = p ∨ d.Has k) u w.heap.size := fun k hk => by
  obtain ⟨c1, h1, _⟩ := h.disk.now.lies
  obtain ⟨c2, h2, _⟩ := h.disk.sure.lies
  refine ⟨h.has hk, fun cur hc => ?_, fun cur hc => ?_⟩
  all_goals
    rcases hk with rfl | rfl | rfl | rfl
    · exact (hc.ne h.log.obj (by decide)) rfl
    · exact (hc.ne h.disk.obj (by decide)) rfl
    · exact (hc.ne h1 (by decide)) rfl
    · exact (hc.ne h2 (by decide)) rfl
/-- An Append that was answered OK. -/
structure Grew (w : World) (d : Dk) (p : Nat) (s : St) (l : LSt) (a b : Nat) (rs : List (List Int)) (r : List Int) (u' : World) (s' : St) (l' : LSt) : Prop where
  run : Run w u' d p s' l' a b (rs ++ [r])
  fuse : s.fuse = 0 → s'.fuse = 0
  calls : s'.calls = s.calls + needN r.length + 3
  same : ∀ j, (j < a ∨ b ≤ j) → s'.now.getD j [] = s.now.getD j []
/-- An Append that the power has ended. -/
structure Fell (w : World) (d : Dk) (p : Nat) (s : St) (l : LSt) (a b : Nat) (rs : List (List Int)) (r : List Int) (u' : World) (s' : St) : Prop where
  disk : Disk.At u' d s'
  log : LAt u' p d.p { l with failed := true }
  lit : s.fuse ≠ 0
  cut : Cut d.n s' a b rs r
  bel : Below w.heap.size w u'
  calls : s'.calls ≤ s.calls + 200
def Apd (w u : World) (d : Dk) (p : Nat) (s : St) (l : LSt) (a b : Nat) (rs : List (List Int)) (r : List Int) (e : Ending) (u' : World) : Prop :=
  Blk.Chg (fun k => k = p ∨ d.Has k) u u' ∧ ((∃ s' l', e = .returned (.int .i64 0) ∧ Grew w d p s l a b rs r u' s' l') ∨ (∃ s', e = .returned (.int .i64 7) ∧ Fell w d p s l a b rs r u' s'))
theorem appendS_calls {N s l a b rs} (h : Live N s l a b rs) (r : List Int) : (appendS s l r).1.calls ≤ s.calls + needN r.length + 3 := by
  unfold appendS
  have h1 := wsure_calls s l.next (record r) (needN r.length)
  have h2 := wsure_calls (wsure s l.next (record r) (needN r.length)).1 l.base (setMark l.marks l.count) 1
  split
  · split <;> (show (wsure _ _ _ _).1.calls ≤ _; omega)
  · show (wsure _ _ _ _).1.calls ≤ _; omega
theorem run_append {w u d p s l a b rs} (h : Run w u d p s l a b rs) (ad : Option Addr) (len cap : Nat) (r : List Int) (hr : Row u ad len r) (hn : ad = none → cap = 0) (hcap : len ≤ cap)
    (ha : 0 < len → ∀ y, ad = some y → y.block < w.heap.size ∨ ∃ cur, Blk.Is u y.block 5 cur) (h8 : len ≤ 8192) (hc : rs.length < 512) (hf : a + 1 + used rs + needN len ≤ b) (hcal : s.calls < 4611686018427000000) :
    Calls Try.prog 29 #[.pointer (some ⟨p, 0, none⟩), .slice ad len cap] u (Apd w u d p s l a b rs r) := by
  have hcnt := hr.count
  refine (append_ok p d s l a b rs ad len cap r u h.log h.disk h.live hr hn hcap (fun h0 x off e hk => ?_) h8 hc hf hcal).mono fun e u' ha' => ⟨ha'.chg, ?_⟩
  · rcases ha h0 _ e with h' | ⟨cur, hcur⟩
    · have := h.has hk
      have h'' : x < w.heap.size := h'
      omega
    · exact (h.calm x hk).2.1 cur hcur
  · have hb' : Below w.heap.size w u' := h.bel.trans (ha'.chg.below (fun k hk => h.has hk) h.bel.size)
    have hlen := appendS_calls h.live r
    have hnl := needN_le r.length
    rcases append_live h.live r (by omega) hr.byt (by rw [hcnt]; exact hf) hc with ⟨e1, e2, e3, e4, e5⟩ | ⟨e1, e2, e3, e4⟩
    · refine .inl ⟨_, _, by rw [ha'.told, e1], ⟨ha'.disk, ha'.log, e2, h.dnew, h.pnew, hb'⟩, e4, e3, e5⟩
    · exact .inr ⟨_, by rw [ha'.told, e1], ha'.disk, by rw [← e2]; exact ha'.log, e3, e4, hb', by omega⟩
/-- Where no fuse burns. -/
theorem run_calm {w u d p s l a b rs} (h : Run w u d p s l a b rs) (h0 : s.fuse = 0) (ad : Option Addr) (len cap : Nat) (r : List Int) (hr : Row u ad len r) (hn : ad = none → cap = 0) (hcap : len ≤ cap)
    (ha : 0 < len → ∀ y, ad = some y → y.block < w.heap.size ∨ ∃ cur, Blk.Is u y.block 5 cur) (h8 : len ≤ 8192) (hc : rs.length < 512) (hf : a + 1 + used rs + needN len ≤ b) (hcal : s.calls < 4611686018427000000) :
    Calls Try.prog 29 #[.pointer (some ⟨p, 0, none⟩), .slice ad len cap] u fun e u' => e = .returned (.int .i64 0) ∧ (∃ s' l', Grew w d p s l a b rs r u' s' l') ∧ Blk.Chg (fun k => k = p ∨ d.Has k) u u' := by
  refine (run_append h ad len cap r hr hn hcap ha h8 hc hf hcal).mono fun e u' ⟨hch, hx⟩ => ?_
  rcases hx with ⟨s', l', he, hg⟩ | ⟨s', _, hg⟩
  · exact ⟨he, ⟨s', l', hg⟩, hch⟩
  · exact absurd h0 hg.lit
/-- A record that does not fit. -/
theorem run_room {w u d p s l a b rs} (h : Run w u d p s l a b rs) (ad : Option Addr) (len cap : Nat) (h8 : len ≤ 8192) (hf : rs.length = 512 ∨ b < a + 1 + used rs + needN len) :
    Calls Try.prog 29 #[.pointer (some ⟨p, 0, none⟩), .slice ad len cap] u fun e u' => e = .returned (.int .i64 6) ∧ Below u.heap.size u u' := by
  have hl := h.live.log
  exact append_room p d.p l ad len cap u h.log h8 (by rw [hl]; exact hf)
theorem Run.count {w u d p s l a b rs} (h : Run w u d p s l a b rs) : l.count = rs.length := by rw [h.live.log]; rfl
theorem Run.free {w u d p s l a b rs} (h : Run w u d p s l a b rs) : l.to - l.next = b - (a + 1 + used rs) := by rw [h.live.log]; rfl
/-- Behind Open. -/
theorem run_open {w u u' d p s a b rs v} (hd : Disk.At u d s) (hf : d.From w.heap.size) (hb : Below w.heap.size w u) (hr : Rdy d.n s a b rs) (ho : OpenedOk u d s a b rs p v u') :
    Run w u' d p s (opened a b (s.now.getD a []) rs) a b rs ∧ Recs u' u.heap.size v rs :=
  ⟨⟨hd.below ho.below, ho.log, hr.live, hf, Nat.le_trans hb.size ho.new, hb.trans (ho.below.mono hb.size)⟩, ho.recs⟩
theorem recs_mono {w : World} {B B' : Nat} {v : Value} {rs : List (List Int)} (h : Recs w B v rs) (hB : B' ≤ B) (hx : ∀ k, k < B → B' ≤ k → ∃ cur, Blk.Is w k 5 cur) : Recs w B' v rs := by
  obtain ⟨vals, ho, hp⟩ := h
  refine ⟨vals, ⟨ho.1, ?_⟩, fun i hi => ?_⟩
  · rcases ho.2 with h2 | ⟨g, cap, cur, hv, hg, r⟩
    · exact .inl h2
    · exact .inr ⟨g, cap, cur, hv, by omega, r⟩
  · obtain ⟨x, hx', ai, ci, h1, h2, h3, h4, h5⟩ := hp i hi
    refine ⟨x, hx', ai, ci, h1, h2, h3, h4, fun hl y hy => ?_⟩
    rcases h5 hl y hy with h | h
    · by_cases hlt : y.block < B'
      · exact .inl hlt
      · exact .inr (hx _ h (by omega))
    · exact .inr h
theorem Run.rdy {w u d p s l a b rs} (h : Run w u d p s l a b rs) : Rdy d.n s a b rs := h.live.rdy
end Wal
end Go.Proofs.Ytjeidfknnophnaa

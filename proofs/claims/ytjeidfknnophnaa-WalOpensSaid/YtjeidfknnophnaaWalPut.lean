/-
What an Append that is answered OK makes of a disk's sectors; the same by the reference's writes.
-/
import Derived.Test.YtjeidfknnophnaaWalRun
import Derived.Test.YtjeidfknnophnaaWalAll
import Derived.Test.YtjeidfknnophnaaRefKeep
namespace Go.Proofs.Ytjeidfknnophnaa
open Go.RowKit
set_option linter.unusedVariables false
namespace Wal
open Disk (Dk St Sec Secs fresh hasB)

/-- The two disks have no block in common. -/
theorem sep {w : World} {dk : Dk} {m : Ref.Rk} {sd sr : St} (h : Disk.At w dk sd) (k : Ref.At w m sr) : ∀ b, dk.Has b → ¬ m.Has b := by
  obtain ⟨c1, n1, _⟩ := h.now.lies
  obtain ⟨c2, n2, _⟩ := h.sure.lies
  have tr : ∀ b, m.Has b → ∃ T cs, Blk.Is w b T cs ∧ (T = 76 ∨ T = 25) := by
    rintro b (rfl | hb | hb)
    · exact ⟨_, _, k.obj, .inl rfl⟩
    · obtain ⟨_, c, hc⟩ := Ref.tbl_block k.now hb; exact ⟨_, _, hc, .inr rfl⟩
    · obtain ⟨_, c, hc⟩ := Ref.tbl_block k.sure hb; exact ⟨_, _, hc, .inr rfl⟩
  intro b hb hm
  obtain ⟨T, cs, hc, hT⟩ := tr b hm
  rcases hb with rfl | rfl | rfl
  · rcases hT with rfl | rfl
    · exact h.obj.ne hc (by decide) rfl
    · exact h.obj.ne hc (by decide) rfl
  · rcases hT with rfl | rfl
    · exact n1.ne hc (by decide) rfl
    · exact n1.ne hc (by decide) rfl
  · rcases hT with rfl | rfl
    · exact n2.ne hc (by decide) rfl
    · exact n2.ne hc (by decide) rfl
theorem noBytes {w : World} {dk : Dk} {sd : St} (h : Disk.At w dk sd) : ∀ b cur, Blk.Is w b 5 cur → ¬ dk.Has b := fun b cur hc => At_notBytes h hc
/-- Each side's change leaves the other. -/
theorem refKeeps {w w' : World} {dk : Dk} {m : Ref.Rk} {sd sr : St} (h : Disk.At w dk sd) (k : Ref.At w m sr) (hc : Blk.Chg dk.Has w w') : Ref.At w' m sr :=
  k.chg hc (fun b hb hd => sep h k b hd hb) (noBytes h)
theorem diskKeeps {w w' : World} {dk : Dk} {m : Ref.Rk} {sd sr : St} (h : Disk.At w dk sd) (k : Ref.At w m sr) (hc : Blk.Chg m.Has w w') : Disk.At w' dk sd :=
  h.chg hc (fun b hd hb => sep h k b hd hb)

theorem put_step (now : List (List Int)) (i : Nat) (zs : List Int) (k : Nat) : put now i zs (k + 1) = (put now i zs k).set (i + k) ((zs.drop (64 * k)).take 64) := by
  induction k generalizing now i zs with
  | zero => simp [put]
  | succ k ih =>
    rw [put, ih, put, List.drop_drop]
    congr 1
    · omega
    · congr 2; omega
theorem append_now {N s l a b rs} (h : Live N s l a b rs) (h0 : s.fuse = 0) (r : List Int) (hr : r.length ≤ 8192) (hby : Byte r) (hf : a + 1 + used rs + needN r.length ≤ b) (hc : rs.length < 512) :
    (appendS s l r).1.now = put (put s.now (a + 1 + used rs) (record r) (needN r.length)) a (setMark (s.now.getD a []) rs.length) 1 := by
  obtain ⟨hs, ho, hsu, hh, rfl⟩ := h
  have hw := hh.within
  have hrl := record_lenN hr
  have hsa := hs.at (show a < N by omega)
  have hsm := setMark_sec hsa rs.length
  have hps := put_secs hs (a + 1 + used rs) (record r) (needN r.length) hrl (record_byte hby)
  unfold appendS
  rw [show (opened a b (s.now.getD a []) rs).next = a + 1 + used rs from rfl, show (opened a b (s.now.getD a []) rs).base = a from rfl, show (opened a b (s.now.getD a []) rs).marks = s.now.getD a [] from rfl, show (opened a b (s.now.getD a []) rs).count = rs.length from rfl]
  rcases wsure_spec N (needN r.length) s (a + 1 + used rs) (record r) ho hs (by omega) hrl (record_byte hby) with ⟨d1, d2, d3, d4, d5, d6⟩ | ⟨_, _, _, _, d5, _⟩
  · rw [if_pos d1]
    rcases wsure_spec N 1 (wsure s (a + 1 + used rs) (record r) (needN r.length)).1 a (setMark (s.now.getD a []) rs.length) d2 (by rw [d3]; exact hps) (by omega) hsm.len hsm.byt with ⟨e1, e2, e3, e4, e5, e6⟩ | ⟨_, _, _, _, e5, _⟩
    · rw [if_pos e1]
      show (wsure _ a _ 1).1.now = _
      rw [e3, d3]
    · exact absurd (d6 h0) e5
  · exact absurd h0 d5
theorem put_mark {N : Nat} {now : List (List Int)} (h : now.length = N) (a : Nat) (ha : a < N) (i : Nat) (zs : List Int) (k : Nat) (hi : a < i) (m : List Int) (hm : m.length = 64) : (put (put now i zs k) a m 1).getD a [] = m := by
  rw [put_in _ _ _ _ _ (Nat.le_refl _) (by omega) (by rw [put_length]; omega), Nat.sub_self, Nat.mul_zero, List.drop_zero, List.take_of_length_le (by omega)]
/-- Where no fuse burns: what is on the disk then. -/
theorem run_put {w u d p s l a b rs} (h : Run w u d p s l a b rs) (h0 : s.fuse = 0) (ad : Option Addr) (len cap : Nat) (r : List Int) (hr : Row u ad len r) (hn : ad = none → cap = 0) (hcap : len ≤ cap)
    (ha : 0 < len → ∀ y, ad = some y → y.block < w.heap.size ∨ ∃ cur, Blk.Is u y.block 5 cur) (h8 : len ≤ 8192) (hc : rs.length < 512) (hf : a + 1 + used rs + needN len ≤ b) (hcal : s.calls < 4611686018427000000) :
    Calls Try.prog 29 #[.pointer (some ⟨p, 0, none⟩), .slice ad len cap] u fun e u' => e = .returned (.int .i64 0) ∧ (∃ s' l', Grew w d p s l a b rs r u' s' l' ∧ s'.now = put (put s.now (a + 1 + used rs) (record r) (needN len)) a (setMark (s.now.getD a []) rs.length) 1) ∧ Blk.Chg (fun k => k = p ∨ d.Has k) u u' := by
  have hcnt := hr.count
  refine (append_ok p d s l a b rs ad len cap r u h.log h.disk h.live hr hn hcap (fun h0 x off e hk => ?_) h8 hc hf hcal).mono fun e u' ha' => ?_
  · rcases ha h0 _ e with h' | ⟨cur, hcur⟩
    · have := h.has hk
      have h'' : x < w.heap.size := h'
      omega
    · exact (h.calm x hk).2.1 cur hcur
  · have hb' : Below w.heap.size w u' := h.bel.trans (ha'.chg.below (fun k hk => h.has hk) h.bel.size)
    have hnow := append_now h.live h0 r (by omega) hr.byt (by rw [hcnt]; exact hf) hc
    rw [hcnt] at hnow
    obtain ⟨e1, e2, e3, e4, e5⟩ := append_calm h.live h0 r (by omega) hr.byt (by rw [hcnt]; exact hf) hc
    exact ⟨by rw [ha'.told, e1], ⟨_, _, ⟨⟨ha'.disk, ha'.log, e2, h.dnew, h.pnew, hb'⟩, fun _ => e4, e3, e5⟩, hnow⟩, ha'.chg⟩

/-- A reference disk with the power on and no fuse. -/
structure Calm0 (sr : St) (now : List (List Int)) (c : Nat) : Prop where
  now : sr.now = now
  off : sr.off = false
  fuse : sr.fuse = 0
  calls : sr.calls ≤ c
theorem ref_put (m : Ref.Rk) (sr : St) (now : List (List Int)) (c i : Nat) (a : Option Addr) (cap : Nat) (zs : List Int) (w : World) (h : Ref.At w m sr) (hs : Calm0 sr now c) (hc : c < 4611686018427387904) (hi : i < m.n) (hr : Row w a 64 zs) (ha : ∀ x, a = some x → ¬ m.Has x.block) (hn : a = none → cap = 0) :
    Calls Try.prog 28 #[m.ptr, .int .i64 i, .slice a 64 cap] w fun e w' => e = .returned (.int .i64 0) ∧ (∃ sr', Ref.At w' m sr' ∧ Calm0 sr' (now.set i zs) (c + 1)) ∧ Blk.Chg m.Has w w' ∧ ∀ q, q < w.heap.size → Ref.NoRow w m q → Ref.NoRow w' m q := by
  have hlen := h.now.secs.count
  have hcnt := hr.count
  have hin : hasB (i : Int) sr.now.length = true := by simp [hasB, hlen, hi]
  have hcb := hs.calls
  refine (Ref.ref_write_fit m sr i a cap zs w h (by omega) hr ha hn hs.off (by omega) (by omega)).mono fun e w' ⟨he, hat, hch⟩ => ⟨?_, ⟨_, hat, ?_⟩, hch⟩
  · rw [he, Ref.writeErr_eq, if_neg (by rw [hs.off]; decide)]
    simp [hin, Ref.endErr, Ref.callLast, hs.fuse]
  · have e : Ref.refWrite sr i zs = sr.call.put i zs := by
      unfold Ref.refWrite
      rw [if_pos]
      simp [hs.off, hin, hcnt]
    rw [e]
    refine ⟨?_, ?_, ?_, ?_⟩
    · show sr.call.now.set (i : Int).toNat zs = _
      have : sr.call.now = sr.now := by unfold St.call; split <;> rfl
      rw [this, hs.now]; rfl
    · show sr.call.off = false
      unfold St.call; rw [if_neg (by rw [hs.off]; decide)]; simp [hs.fuse]
    · show sr.call.fuse = 0
      unfold St.call; rw [if_neg (by rw [hs.off]; decide)]; simp [hs.fuse]; rfl
    · show sr.call.calls ≤ c + 1
      have : sr.call.calls = sr.calls + 1 := by unfold St.call; split <;> rfl
      omega
end Wal
end Go.Proofs.Ytjeidfknnophnaa

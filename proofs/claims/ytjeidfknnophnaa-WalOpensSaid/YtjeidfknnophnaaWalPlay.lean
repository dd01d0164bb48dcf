/-
What WalPlays keeps from one record to the next.
-/
import Derived.Test.YtjeidfknnophnaaWalPut
import Derived.Test.YtjeidfknnophnaaWalOrderLaw
namespace Go.Proofs.Ytjeidfknnophnaa
open Go.RowKit
set_option linter.unusedVariables false
namespace Wal
open Disk (Dk St Sec Secs fresh hasB)

theorem used_ge : ∀ (rs : List (List Int)), (∀ r ∈ rs, r.length ≤ 8192) → rs.length ≤ used rs
  | [], _ => by simp
  | r :: rs, h => by
    have := used_ge rs fun x hx => h x (by simp [hx])
    have := (needN_pos (h r (by simp))).1
    rw [used_cons, List.length_cons]; omega
/-- Between two records. -/
def Play (w u : World) (d : Dk) (p : Nat) (m : Ref.Rk) (g M k us cn : Nat) : Prop :=
  ∃ s l rs sr, Run w u d p s l 1 (M + 1) rs ∧ s.fuse = 0 ∧ rs.length = cn ∧ us = 1 + used rs ∧ s.calls ≤ 10 + 200 * k ∧ Ref.At u m sr ∧ Calm0 sr s.now (10 + 200 * k) ∧ d.n = M + 2 ∧ m.n = M + 2 ∧ w.heap.size ≤ m.B ∧ Blk.Is u g 5 (bcells (s.now.getD 1 [])).toArray ∧ w.heap.size ≤ g ∧ Ref.NoRow u m g
theorem Play.below {w u u' d p m g M k us cn} (h : Play w u d p m g M k us cn) (hb : Below u.heap.size u u') : Play w u' d p m g M k us cn := by
  obtain ⟨s, l, rs, sr, h1, h2, h3, h4, h5, h6, h7, h8, h9, h10, h11, h12, h13⟩ := h
  exact ⟨s, l, rs, sr, h1.below hb, h2, h3, h4, h5, h6.below hb, h7, h8, h9, h10, (Blk.Chg.ofBelow' (S := fun _ => False) hb).is h11 (by simp), h12, h13.chg (S := fun _ => False) (Blk.Chg.ofBelow' hb) (by simp)⟩
theorem Play.next {w u d p m g M k us cn} (h : Play w u d p m g M k us cn) : Play w u d p m g M (k + 1) us cn := by
  obtain ⟨s, l, rs, sr, h1, h2, h3, h4, h5, h6, h7, h8⟩ := h
  exact ⟨s, l, rs, sr, h1, h2, h3, h4, by omega, h6, ⟨h7.now, h7.off, h7.fuse, by have := h7.calls; omega⟩, h8⟩
theorem Play.bounds {w u d p m g M k us cn} (h : Play w u d p m g M k us cn) : us ≤ M ∧ cn + 1 ≤ us ∧ Below w.heap.size w u := by
  obtain ⟨s, l, rs, sr, h1, h2, h3, h4, _⟩ := h
  have h5 := h1.live.holds.fits
  have h6 := used_ge rs h1.live.holds.small
  exact ⟨by omega, by omega, h1.bel⟩
/-- What Len and Free tell then. -/
theorem Play.told {w u d p m g M k us cn} (h : Play w u d p m g M k us cn) :
    (Calls Try.prog 24 #[.pointer (some ⟨p, 0, none⟩)] u fun e u' => e = .returned (.int .i64 cn) ∧ u = u') ∧
      (Calls Try.prog 25 #[.pointer (some ⟨p, 0, none⟩)] u fun e u' => e = .returned (.int .i64 ((M : Int) - us)) ∧ Below u.heap.size u u') := by
  have hbo := h.bounds
  obtain ⟨s, l, rs, sr, h1, h2, h3, h4, _⟩ := h
  have h5 := h1.live.holds.fits
  have ha := logLen_any p d.p l u h1.log
  rw [h1.count, h3] at ha
  have hb := free_any p d.p l u h1.log
  rw [h1.free] at hb
  refine ⟨ha, hb.mono fun e u' ht => ?_⟩
  obtain ⟨e1, e2⟩ := ht.below
  refine ⟨?_, e2⟩
  rw [e1]
  congr 2
  omega
theorem Play.long {w u d p m g M k us cn} (h : Play w u d p m g M k us cn) (a : Option Addr) (len cap : Nat) (hl : 8192 < len) (hs : len ≤ 9223372036854775807) :
    Calls Try.prog 29 #[.pointer (some ⟨p, 0, none⟩), .slice a len cap] u fun e u' => e = .returned (.int .i64 2) ∧ Play w u' d p m g M (k + 1) us cn := by
  obtain ⟨s, l, rs, sr, h1, h2⟩ := id h
  refine (append_long p d.p l a len cap u h1.log hl hs).mono fun e u' ⟨e1, e2⟩ => ⟨e1, ?_⟩
  subst e2; exact h.next
theorem Play.room {w u d p m g M k us cn} (h : Play w u d p m g M k us cn) (a : Option Addr) (len cap : Nat) (hl : len ≤ 8192) (hs : M < us + needN len) :
    Calls Try.prog 29 #[.pointer (some ⟨p, 0, none⟩), .slice a len cap] u fun e u' => e = .returned (.int .i64 6) ∧ Play w u' d p m g M (k + 1) us cn := by
  obtain ⟨s, l, rs, sr, h1, h2, h3, h4, _⟩ := id h
  refine (run_room h1 a len cap hl (.inr (by omega))).mono fun e u' ⟨e1, e2⟩ => ⟨e1, ?_⟩
  exact (h.below e2).next
theorem refNot {w : World} {m : Ref.Rk} {s : St} (h : Ref.At w m s) {b T : Nat} {cs : Array Value} (k : Blk.Is w b T cs) (h1 : T ≠ 76) (h2 : T ≠ 25) : ¬ m.Has b := by
  rintro (rfl | hb | hb)
  · exact (k.ne h.obj h1) rfl
  · obtain ⟨_, c, hc⟩ := Ref.tbl_block h.now hb; exact (k.ne hc h2) rfl
  · obtain ⟨_, c, hc⟩ := Ref.tbl_block h.sure hb; exact (k.ne hc h2) rfl
theorem bcells_inj {a b : List Int} (h : (bcells a).toArray = (bcells b).toArray) : a = b := by
  have h : bcells a = bcells b := by simpa using h
  apply List.ext_getElem?
  intro i
  have := congrArg (fun l : List Value => l[i]?) h
  simp only [bcells, List.getElem?_map] at this
  cases ha : a[i]? <;> cases hb : b[i]? <;> simp_all
theorem Run.chg {w v u d p s l a b rs} {S : Nat → Prop} (h : Run w v d p s l a b rs) (hc : Blk.Chg S v u) (hd : ∀ k, d.Has k → ¬ S k) (hp : ¬ S p) (hS : ∀ k, S k → w.heap.size ≤ k) : Run w u d p s l a b rs :=
  ⟨h.disk.chg hc hd, h.log.chg hc hp, h.live, h.dnew, h.pnew, h.bel.trans (hc.below hS h.bel.size)⟩
/-- While the reference's disk is written: j sectors of a record, by now. -/
def Writing (w v u : World) (d : Dk) (p : Nat) (m : Ref.Rk) (g M k us cn : Nat) (r : List Int) (j : Nat) : Prop :=
  ∃ s l rs sr sr0, Run w v d p s l 1 (M + 1) rs ∧ s.fuse = 0 ∧ rs.length = cn ∧ us = 1 + used rs ∧ s.calls ≤ 10 + 200 * k ∧ d.n = M + 2 ∧ m.n = M + 2 ∧ w.heap.size ≤ m.B ∧ Blk.Is v g 5 (bcells (s.now.getD 1 [])).toArray ∧ w.heap.size ≤ g ∧
    Ref.At v m sr0 ∧ Ref.At u m sr ∧ Calm0 sr (put s.now (1 + us) (record r) j) (10 + 200 * k + j) ∧ Blk.Chg m.Has v u ∧ Ref.NoRow u m g
theorem Play.writing {w u d p m g M k us cn} (h : Play w u d p m g M k us cn) (r : List Int) : Writing w u u d p m g M k us cn r 0 := by
  obtain ⟨s, l, rs, sr, h1, h2, h3, h4, h5, h6, h7, h8, h9, h10, h11, h12, h13⟩ := h
  exact ⟨s, l, rs, sr, sr, h1, h2, h3, h4, h5, h8, h9, h10, h11, h12, h6, h6, h7, Blk.Chg.refl _ _, h13⟩
theorem Writing.bel {w v u d p m g M k us cn r j} (h : Writing w v u d p m g M k us cn r j) : Below w.heap.size w u ∧ v.heap.size ≤ u.heap.size := by
  obtain ⟨s, l, rs, sr, sr0, h1, h2, h3, h4, h5, h8, h9, h10, h11, h12, h0, h6, h7, hc, hno⟩ := h
  exact ⟨h1.bel.trans (hc.below (fun k hk => Nat.le_trans h10 (h6.hasBase hk)) h1.bel.size), hc.size⟩
theorem Writing.step {w v u d p m g M k us cn r j} (h : Writing w v u d p m g M k us cn r j) (hk : k < 1000000) (hr : r.length ≤ 8192) (hj : j < needN r.length) (hf : us + needN r.length ≤ M) (a : Option Addr) (cap : Nat)
    (hx : Row u a 64 (((record r).drop (64 * j)).take 64)) (ha : ∀ x, a = some x → ∃ cur, Blk.Is u x.block 5 cur) (hn : a = none → cap = 0) :
    Calls Try.prog 28 #[m.ptr, .int .i64 ((1 + us + j : Nat) : Int), .slice a 64 cap] u fun e u' => e = .returned (.int .i64 0) ∧ Writing w v u' d p m g M k us cn r (j + 1) ∧ Blk.Chg m.Has u u' := by
  obtain ⟨s, l, rs, sr, sr0, h1, h2, h3, h4, h5, h8, h9, h10, h11, h12, h0, h6, h7, hc, hno⟩ := h
  have hnl := needN_le r.length
  refine (ref_put m sr _ _ (1 + us + j) a cap _ u h6 h7 (by omega) (by omega) hx (fun x e hk => ?_) hn).mono fun e u' ⟨e1, ⟨sr', e2, e3⟩, e4, e5⟩ => ⟨e1, ⟨s, l, rs, sr', sr0, h1, h2, h3, h4, h5, h8, h9, h10, h11, h12, h0, e2, ?_, hc.trans e4, e5 g (hc.is h11 (h0.bytes _ _ h11)).lt hno⟩, e4⟩
  · obtain ⟨cur, hcur⟩ := ha x e
    exact h6.bytes _ _ hcur hk
  · rw [put_step]
    exact ⟨e3.now, e3.off, e3.fuse, by have := e3.calls; omega⟩
theorem Writing.keepB {w v u u' d p m g M k us cn r j} (h : Writing w v u d p m g M k us cn r j) (hc : Blk.Chg m.Has u u') {b : Nat} {cur : Array Value} (hb : Blk.Is u b 5 cur) : Blk.Is u' b 5 cur := by
  obtain ⟨s, l, rs, sr, sr0, h1, h2, h3, h4, h5, h8, h9, h10, h11, h12, h0, h6, h7, hc', hno⟩ := h
  exact hc.is hb (h6.bytes _ _ hb)
/-- The marks' row while a record is written. -/
theorem Writing.marks {w v u d p m g M k us cn r j} (h : Writing w v u d p m g M k us cn r j) : ∃ mk, Sec mk ∧ Blk.Is u g 5 (bcells mk).toArray ∧ w.heap.size ≤ g := by
  obtain ⟨s, l, rs, sr, sr0, h1, h2, h3, h4, h5, h8, h9, h10, h11, h12, h0, h6, h7, hc, hno⟩ := h
  exact ⟨_, h1.live.secs.at (show 1 < d.n by omega), hc.is h11 (h0.bytes _ _ h11), h12⟩
/-- Both are written but for the log's own Append. -/
def Ready (w u : World) (d : Dk) (p : Nat) (m : Ref.Rk) (g M k us cn : Nat) (r : List Int) : Prop :=
  ∃ s l rs sr, Run w u d p s l 1 (M + 1) rs ∧ s.fuse = 0 ∧ rs.length = cn ∧ us = 1 + used rs ∧ s.calls ≤ 10 + 200 * k ∧ d.n = M + 2 ∧ m.n = M + 2 ∧ w.heap.size ≤ m.B ∧ Blk.Is u g 5 (bcells (setMark (s.now.getD 1 []) cn)).toArray ∧ w.heap.size ≤ g ∧
    Ref.At u m sr ∧ Calm0 sr (put (put s.now (1 + us) (record r) (needN r.length)) 1 (setMark (s.now.getD 1 []) cn) 1) (10 + 200 * k + 131) ∧ Ref.NoRow u m g
theorem Writing.last {w v u d p m g M k us cn r mk} (h : Writing w v u d p m g M k us cn r (needN r.length)) (hk : k < 1000000) (hr : r.length ≤ 8192) (hf : us + needN r.length ≤ M) (hcn : cn < 512)
    (hmk : Blk.Is u g 5 (bcells mk).toArray) (y : Int) (hy : y = bits .or .u8 (mk.getD (cn / 8) 0) (wgt cn)) :
    Calls Try.prog 28 #[m.ptr, .int .i64 1, .slice (some ⟨g, 0, none⟩) 64 64] (u.setCell ⟨g, cn / 8, none⟩ (.int .u8 y)) fun e u' => e = .returned (.int .i64 0) ∧ Ready w u' d p m g M k us cn r := by
  obtain ⟨s, l, rs, sr, sr0, h1, h2, h3, h4, h5, h8, h9, h10, h11, h12, h0, h6, h7, hc, hno⟩ := h
  have hnl := needN_le r.length
  have hs := h1.live.secs.at (show 1 < d.n by omega)
  have hgm := h0.bytes _ _ h11
  have hgu := hc.is h11 hgm
  obtain rfl := bcells_inj (hmk.inj hgu).2
  have hcg : Blk.Chg (fun b => b = g) u (u.setCell ⟨g, cn / 8, none⟩ (.int .u8 y)) := Blk.Chg.setAt (Blk.Chg.refl _ _) rfl
  have hset : Blk.Is (u.setCell ⟨g, cn / 8, none⟩ (.int .u8 y)) g 5 (bcells (setMark (s.now.getD 1 []) cn)).toArray := by
    have := hmk.set (cn / 8) (.int .u8 y)
    have e : (bcells (s.now.getD 1 [])).toArray.setIfInBounds (cn / 8) (.int .u8 y) = (bcells (setMark (s.now.getD 1 []) cn)).toArray := by
      apply Array.ext'
      simp [bcells, setMark, List.map_set, hy]
    rwa [e] at this
  have hgm' : ¬ m.Has g := h6.bytes _ _ hgu
  have h6' := h6.chgBut hno hcg hgm'
  have hno' : Ref.NoRow (u.setCell ⟨g, cn / 8, none⟩ (.int .u8 y)) m g := hno.chg hcg fun b hb e => hgm' (by subst e; exact .inr hb)
  have hall : Blk.Chg (fun b => m.Has b ∨ b = g) v (u.setCell ⟨g, cn / 8, none⟩ (.int .u8 y)) := (hc.mono fun k _ hk => .inl hk).trans (hcg.mono fun k _ hk => .inr hk)
  have hsm := setMark_sec hs cn
  have hrow : Row (u.setCell ⟨g, cn / 8, none⟩ (.int .u8 y)) (some ⟨g, 0, none⟩) 64 (setMark (s.now.getD 1 []) cn) := Row.ofIs hset 0 64 _ hsm.len (by omega) hsm.byt fun j hj => by
    have := bcells_at (setMark (s.now.getD 1 []) cn) j (by rw [hsm.len]; exact hj)
    rw [Nat.zero_add]; simpa using this
  refine (ref_put m sr _ _ 1 (some ⟨g, 0, none⟩) 64 _ _ h6' h7 (by omega) (by omega) hrow (fun x e hk => by cases e; exact hgm' hk) (by intro h; cases h)).mono fun e u' ⟨e1, ⟨sr', e2, e3⟩, e4, e5⟩ => ⟨e1, s, l, rs, sr', ?_, h2, h3, h4, h5, h8, h9, h10, e4.is hset hgm', h12, e2, ?_, e5 g hset.lt hno'⟩
  · refine h1.chg (hall.trans (e4.mono fun k _ hk => .inl hk)) (fun k hk e => ?_) (fun e => ?_) (fun k hk => ?_)
    · rcases e with e | e
      · exact sep h1.disk h0 k hk e
      · subst e; exact noBytes h1.disk _ _ h11 hk
    · rcases e with e | e
      · exact refNot h0 h1.log.obj (by decide) (by decide) e
      · subst e; exact (h1.log.obj.ne h11 (by decide)) rfl
    · rcases hk with hk | hk
      · exact Nat.le_trans h10 (h0.hasBase hk)
      · subst hk; exact h12
  · refine ⟨?_, e3.off, e3.fuse, by have := e3.calls; omega⟩
    rw [e3.now, put, put, List.take_of_length_le (by rw [hsm.len]; exact Nat.le_refl _)]
theorem Ready.bel {w u d p m g M k us cn r} (h : Ready w u d p m g M k us cn r) : Below w.heap.size w u := by
  obtain ⟨s, l, rs, sr, h1, _⟩ := h
  exact h1.bel
/-- The log's own Append then. -/
theorem Ready.append {w u d p m g M k us cn r} (h : Ready w u d p m g M k us cn r) (hk : k < 1000000) (ad : Option Addr) (len cap : Nat) (hr : Row u ad len r) (hn : ad = none → cap = 0) (hcap : len ≤ cap)
    (ha : 0 < len → ∀ y, ad = some y → y.block < w.heap.size) (h8 : len ≤ 8192) (hcn : cn < 512) (hf : us + needN len ≤ M) :
    Calls Try.prog 29 #[.pointer (some ⟨p, 0, none⟩), .slice ad len cap] u fun e u' => e = .returned (.int .i64 0) ∧ Play w u' d p m g M (k + 1) (us + needN len) (cn + 1) := by
  obtain ⟨s, l, rs, sr, h1, h2, h3, h4, h5, h8', h9, h10, h11, h12, h6, h7, h13⟩ := h
  have hcnt := hr.count
  have hnl := needN_le len
  rw [hcnt] at h7
  refine (run_put h1 h2 ad len cap r hr hn hcap (fun h0 y e => .inl (ha h0 y e)) h8 (by omega) (by omega) (by omega)).mono fun e u' ⟨e1, ⟨s', l', hg, hnow⟩, e3⟩ => ⟨e1, s', l', rs ++ [r], sr, hg.run, hg.fuse h2, ?_, ?_, ?_, ?_, ?_, h8', h9, h10, ?_, h12, ?_⟩
  · rw [List.length_append, List.length_singleton, h3]
  · rw [used_snoc, hcnt]; omega
  · rw [hg.calls, hcnt]; omega
  · refine h6.chg e3 (fun k hk e => ?_) (fun b cur hb e => ?_)
    · rcases e with e | e
      · subst e; exact refNot h6 h1.log.obj (by decide) (by decide) hk
      · exact sep h1.disk h6 k e hk
    · rcases e with e | e
      · subst e; exact (h1.log.obj.ne hb (by decide)) rfl
      · exact noBytes h1.disk _ _ hb e
  · refine ⟨?_, h7.off, h7.fuse, by have := h7.calls; omega⟩
    rw [h7.now, hnow, h3]
    congr 2
    omega
  · have hN : s.now.length = M + 2 := by rw [h1.live.secs.count]; exact h8'
    have hfit := h1.live.holds.fits
    have hs := h1.live.secs.at (show 1 < d.n by omega)
    have : s'.now.getD 1 [] = setMark (s.now.getD 1 []) cn := by
      rw [hnow, h3]
      exact put_mark hN 1 (by omega) _ _ _ (by omega) _ (setMark_sec hs cn).len
    rw [this]
    refine e3.is h11 fun e => ?_
    rcases e with e | e
    · subst e; exact (h1.log.obj.ne h11 (by decide)) rfl
    · exact noBytes h1.disk _ _ h11 e
  · refine h13.chg e3 fun b hb e => ?_
    rcases e with e | e
    · subst e; exact refNot h6 h1.log.obj (by decide) (by decide) (.inr hb)
    · exact sep h1.disk h6 b e (.inr hb)
end Wal
end Go.Proofs.Ytjeidfknnophnaa

/-
A log that is opened, that records are appended to; the statements' own helper awake.
-/
import Derived.Test.YtjeidfknnophnaaWalSem
import Derived.Test.YtjeidfknnophnaaDiskNewCopy
import Derived.Lib.SlBytesConst
namespace Go.Proofs.Ytjeidfknnophnaa
open Go.RowKit
set_option linter.unusedVariables false
namespace Wal
open Disk (Dk St Sec Secs fresh)

/-- A disk on which an area lies, all of it sure. -/
structure Rdy (N : Nat) (s : St) (a b : Nat) (rs : List (List Int)) : Prop where
  secs : Secs N s.now
  off : s.off = false
  sure : s.sure = s.now
  holds : Holds N s.now a b rs
theorem Live.rdy {N s l a b rs} (h : Live N s l a b rs) : Rdy N s a b rs := ⟨h.secs, h.off, h.sure, h.holds⟩
theorem Rdy.live {N s a b rs} (h : Rdy N s a b rs) : Live N s (opened a b (s.now.getD a []) rs) a b rs := ⟨h.secs, h.off, h.sure, h.holds, rfl⟩
/-- Format, where no fuse burns. -/
theorem format_good {N : Nat} {s : St} (hs : Secs N s.now) (ho : s.off = false) (hf : s.fuse = 0) (a b : Nat) (h1 : a < b) (h2 : b ≤ N) :
    (wsure s a Disk.zero 1).2 = 0 ∧ Rdy N (wsure s a Disk.zero 1).1 a b [] ∧ (wsure s a Disk.zero 1).1.calls = s.calls + 2 ∧ (wsure s a Disk.zero 1).1.fuse = 0 ∧ (wsure s a Disk.zero 1).1.now = put s.now a Disk.zero 1 := by
  rcases wsure_spec N 1 s a Disk.zero ho hs (by omega) Disk.zero_sec.len Disk.zero_sec.byt with ⟨d1, d2, d3, d4, d5, d6⟩ | ⟨_, _, _, _, d5, _⟩
  · have hp := put_secs hs a Disk.zero 1 Disk.zero_sec.len Disk.zero_sec.byt
    refine ⟨d1, ⟨by rw [d3]; exact hp, d2, by rw [d3, d4], ?_⟩, by rw [d5], d6 hf, d3⟩
    rw [d3]
    refine holds_new hp h1 h2 ?_
    rw [put_in _ _ _ _ _ (Nat.le_refl _) (by omega) (by rw [hs.count]; omega), Nat.sub_self, Nat.mul_zero, List.drop_zero, List.take_of_length_le (by rw [Disk.zero_sec.len]; exact Nat.le_refl _)]
  · exact absurd hf d5
/-- What Open hands back of an area. -/
structure OpenedOk (w : World) (d : Dk) (s : St) (a b : Nat) (rs : List (List Int)) (p : Nat) (v : Value) (w' : World) : Prop where
  below : Below w.heap.size w w'
  new : w.heap.size ≤ p
  log : LAt w' p d.p (opened a b (s.now.getD a []) rs)
  recs : Recs w' w.heap.size v rs
  recsB : ∀ B, B ≤ w.heap.size → Recs w' B v rs
theorem open_good (d : Dk) (s : St) (a b : Nat) (rs : List (List Int)) (w : World) (h : Disk.At w d s) (hr : Rdy d.n s a b rs) :
    Calls Try.prog 19 #[d.ptr, .int .i64 a, .int .i64 b] w fun e w' => ∃ p v, e = .returned (.tuple #[.pointer (some ⟨p, 0, none⟩), v, .int .i64 0]) ∧ OpenedOk w d s a b rs p v w' := by
  have hf := hr.holds.fits
  refine (open_yes d s a b w h (by omega) hr.holds.within hr.off).mono ?_
  rintro e w' ⟨hb, n, hm, hcase⟩
  obtain rfl := hm.inj hr.holds.isMarks
  have hrd := hr.holds.read hr.secs
  rcases hcase with ⟨h1, _⟩ | ⟨rs', p, v, h1, h2, h3, h4, rfl⟩
  · rw [hrd] at h1; cases h1
  · rw [hrd] at h1; cases h1
    exact ⟨p, v, rfl, hb, h2, h3, h4 _ (Nat.le_refl _), h4⟩
/-- Append, of a record that may be and that fits. -/
theorem append_ok (p : Nat) (d : Dk) (s : St) (l : LSt) (a b : Nat) (rs : List (List Int)) (ad : Option Addr) (len cap : Nat) (zs : List Int) (w : World) (h : LAt w p d.p l) (hd : Disk.At w d s) (hl : Live d.n s l a b rs)
    (hr : Row w ad len zs) (hn : ad = none → cap = 0) (hcap : len ≤ cap) (ha : 0 < len → ∀ b off, ad = some ⟨b, off, none⟩ → ¬ (b = p ∨ d.Has b)) (h8 : len ≤ 8192) (hc : rs.length < 512) (hf : a + 1 + used rs + needN len ≤ b) (hcal : s.calls < 4611686018427000000) :
    Calls Try.prog 29 #[.pointer (some ⟨p, 0, none⟩), .slice ad len cap] w (Appended w p d s l zs) := by
  obtain ⟨_, _, _, hh, rfl⟩ := hl
  exact append_go p d s _ ad len cap zs w h hd hr hn hcap ha h8 hc hf hh.within rfl hcal
theorem append_calm {N s l a b rs} (h : Live N s l a b rs) (h0 : s.fuse = 0) (r : List Int) (hr : r.length ≤ 8192) (hby : Byte r) (hf : a + 1 + used rs + needN r.length ≤ b) (hc : rs.length < 512) :
    (appendS s l r).2.2 = 0 ∧ Live N (appendS s l r).1 (appendS s l r).2.1 a b (rs ++ [r]) ∧ (appendS s l r).1.calls = s.calls + needN r.length + 3 ∧ (appendS s l r).1.fuse = 0 ∧
      ∀ j, (j < a ∨ b ≤ j) → (appendS s l r).1.now.getD j [] = s.now.getD j [] := by
  rcases append_live h r hr hby hf hc with ⟨h1, h2, h3, h4, h5⟩ | ⟨_, _, h3, _⟩
  · exact ⟨h1, h2, h3, h4 h0, h5⟩
  · exact absurd h0 h3
theorem fresh_secs (n : Nat) : Secs n (fresh n).now := Disk.secs_zero n

theorem row_one (w : World) (x : Int) (hx : 0 ≤ x ∧ x < 256) (fr : Nat × Nat) : Row (w.alloc (.cells #[.int .u8 x] 5 fr)) (some ⟨w.heap.size, 0, none⟩) 1 [x] := by
  refine ⟨rfl, by omega, by intro z hz; simp at hz; omega, fun _ => ⟨_, _, rfl, by simp, fun j hj => ?_⟩⟩
  obtain rfl : j = 0 := by omega
  have := cell_of_row (w.alloc (.cells #[.int .u8 x] 5 fr)) w.heap.size 0 #[.int .u8 x] 5 fr (heap_alloc_new w _)
  rw [this]; rfl
theorem At_lt {w d s k} (h : Disk.At w d s) (hk : d.Has k) : k < w.heap.size := by
  rcases hk with rfl | rfl | rfl
  · exact h.obj.lt
  · exact h.now.lt
  · exact h.sure.lt
theorem Recs.first {w B v rs} (h : Recs w B v rs) (hl : 0 < rs.length) : ∃ g cap ai ci, v = .slice (some ⟨g, 0, none⟩) rs.length cap ∧ w.cell? ⟨g, 0, none⟩ = some (.slice ai (rs.getD 0 []).length ci) ∧ Row w ai (rs.getD 0 []).length (rs.getD 0 []) := by
  obtain ⟨vals, ho, hp⟩ := h
  rcases id ho.2 with ⟨_, h2⟩ | ⟨g, cap, cur, h1, hg, hh, hn, hcap, _⟩
  · omega
  · obtain ⟨x, hx, ai, ci, rfl, h2, _⟩ := hp 0 hl
    refine ⟨g, cap, ai, ci, h1, ?_, h2⟩
    subst h1
    rw [ho.cellAt 0 (by omega)]; exact hx
theorem str_a : (strOfNums [97]).toList = [97] := by rw [ByteArray.toList_eq]; simp [strOfNums]

set_option maxRecDepth 100000 in
set_option maxHeartbeats 1000000 in
theorem awake_any (w : World) : Calls Try.prog 14 #[] w fun e w' => e = .returned (.bool true) ∧ Below w.heap.size w w' := by
  go_enter Try.func14, Try.ntmps14
  go_wp2_with fail
  refine (Disk.new_any 6 _).mono ?_
  rintro e w1 ⟨d, rfl, hdn, hf, hd1, b1⟩
  rw [show Disk.sizeOf 6 = 6 from rfl] at hd1 hdn
  have hfm := format_yes d (fresh 6) 1 6 w1 hd1 (by omega) (by omega) (by show 0 < _; decide)
  obtain ⟨g1, g2, g3, g4, g5⟩ := format_good (s := fresh 6) (fresh_secs 6) rfl rfl 1 6 (by omega) (by omega)
  obtain ⟨q, hq⟩ : ∃ q, wsure (fresh 6) 1 Disk.zero 1 = q := ⟨_, rfl⟩
  rw [hq] at hfm g1 g2 g3 g4 g5
  rw [g1] at hfm
  have HFM := Lib.hid hfm
  have G2 := Lib.hid g2
  have G3 := Lib.hid g3
  have G4 := Lib.hid g4
  have HDN := Lib.hid hdn
  clear hfm hd1 g1 g2 g3 g4 g5 hq hdn
  unfold Dk.ptr at *
  go_wp2_with fail
  refine HFM.out.mono ?_
  rintro e w2 ⟨rfl, hd2, c2⟩
  have b2 : Below w.heap.size w w2 := b1.trans (c2.below (fun k hk => hf.has hk) b1.size)
  have hop := open_good d q.1 1 6 [] w2 hd2 (by rw [HDN.out]; exact G2.out)
  unfold Dk.ptr at hop
  have HD2 := Lib.hid hd2
  have HOP := Lib.hid hop
  clear hd2 hop c2 HFM
  go_wp2_with fail
  refine HOP.out.mono ?_
  rintro e w3 ⟨p, v, rfl, ho⟩
  obtain ⟨a3, c3, rfl, hc3⟩ := ho.recs.shape
  have b3 := b2.trans (ho.below.mono b2.size)
  have L3 := Lib.hid ho.log
  have HP := Lib.hid ho.new
  have D3 := Lib.hid (HD2.out.below ho.below)
  have B3 := Lib.hid b3
  clear ho hc3 HD2 HOP b3
  rw [List.length_nil]
  have bA : Below w3.heap.size w3 (w3.alloc (.cells #[.int .u8 97] 5 (#[Value.int .u8 97].size, #[Value.int .u8 97].size + 1))) := (Below.refl _ _).alloc (Nat.le_refl _) _
  have hap := append_ok p d q.1 _ 1 6 [] (some ⟨w3.heap.size, 0, none⟩) 1 1 [97] _ (L3.out.below bA) (D3.out.below bA) (by rw [HDN.out]; exact G2.out.live) (row_one _ 97 (by omega) _) (by intro h; cases h) (Nat.le_refl _)
    (by
      rintro _ b off e (h | h)
      · cases e; have := L3.out.obj.lt; omega
      · cases e; have := At_lt D3.out h; omega) (by omega) (by simp) (by decide) (by rw [G3.out]; show 0 + 2 < _; decide)
  obtain ⟨e1, e2, e3, e4, e5⟩ := append_calm G2.out.live G4.out [97] (by decide) (by intro z hz; simp at hz; omega) (by decide) (by simp)
  obtain ⟨t, ht⟩ : ∃ t, appendS q.1 (opened 1 6 (q.1.now.getD 1 []) []) [97] = t := ⟨_, rfl⟩
  have hap2 : Calls Try.prog 29 #[.pointer (some ⟨p, 0, none⟩), .slice (some ⟨w3.heap.size, 0, none⟩) 1 1] (w3.alloc (.cells #[.int .u8 97] 5 (#[Value.int .u8 97].size, #[Value.int .u8 97].size + 1))) fun e w' => e = .returned (.int .i64 0) ∧ Disk.At w' d t.1 ∧ Blk.Chg (fun k => k = p ∨ d.Has k) (w3.alloc (.cells #[.int .u8 97] 5 (#[Value.int .u8 97].size, #[Value.int .u8 97].size + 1))) w' :=
    hap.mono fun e w' h => ⟨by rw [h.told, e1], by rw [← ht]; exact h.disk, h.chg⟩
  rw [ht] at e2
  have hcv := Lib.run_convert_bytes_const (P := Try.prog) w3 25 5 #[.int .u8 97] 1 1 Try.underlying25 Try.underlying5
  have HAP := Lib.hid hap2
  have E2 := Lib.hid e2
  clear hap hap2 e1 e2 e3 e4 e5 ht
  go_wp2_with fail
  refine HAP.out.mono ?_
  rintro e w4 ⟨rfl, hd4, c4⟩
  have bB := B3.out.trans (bA.mono B3.out.size)
  have b4 : Below w.heap.size w w4 := bB.trans (c4.below (fun k hk => by
    rcases hk with rfl | hk
    · have := HP.out; have := b2.size; omega
    · exact hf.has hk) bB.size)
  have hop := open_good d t.1 1 6 [[97]] w4 hd4 (by rw [HDN.out]; exact E2.out.rdy)
  unfold Dk.ptr at hop
  have HOP := Lib.hid hop
  have B4 := Lib.hid b4
  clear hd4 c4 bB b4 bA hop HAP D3 L3
  go_wp2_with fail
  refine HOP.out.mono ?_
  rintro e w5 ⟨p5, v5, rfl, ho⟩
  obtain ⟨g5, c5, ai, ci, rfl, hcell, hrow⟩ := ho.recs.first (by simp)
  have b5 := B4.out.trans (ho.below.mono B4.out.size)
  have hconv := hrow.conv ci
  have B5 := Lib.hid b5
  have hstr := str_a
  simp only [List.length_singleton, List.getD_cons_zero] at hcell hconv
  generalize strOfNums [97] = st at *
  clear ho hrow b5 HOP B4
  have hcmp : ({ data := #[97] } : ByteArray).toList = [97] := by rw [ByteArray.toList_eq]
  go_wp2_with fail
  refine (needN_any 56 _ (by omega)).mono ?_
  rintro e w' ⟨rfl, rfl⟩
  go_wp2_with fail
  refine (needN_any 57 _ (by omega)).mono ?_
  rintro e w' ⟨rfl, rfl⟩
  go_wp2
  go_ret
  exact ⟨rfl, B5.out⟩
end Wal
end Go.Proofs.Ytjeidfknnophnaa

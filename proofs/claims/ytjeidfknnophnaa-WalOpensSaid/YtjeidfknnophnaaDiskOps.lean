/-
The contracts of the program's disk: has, count, Fuse, Clone, Read.
-/
import Derived.Test.YtjeidfknnophnaaDiskMem
import Derived.WalkSpells
import Derived.Outline
namespace Go.Proofs.Ytjeidfknnophnaa
open Go.RowKit
set_option linter.unusedVariables false
namespace Disk

def hasB (i : Int) (n : Nat) : Bool := decide (0 ≤ i) && decide (i < n)
theorem has_any (d : Dk) (s : St) (i : Int) (w : World) (h : At w d s) :
    Calls Try.prog 50 #[d.ptr, .int .i64 i] w fun e w' => e = .returned (.bool (hasB i d.n)) ∧ w = w' := by
  obtain ⟨c0, c1, c2, c3, c4, f⟩ := h.flds
  clear f h c1 c2 c3 c4
  unfold Dk.ptr
  by_cases h0 : 0 ≤ i
  · have hf : hasB i d.n = decide (i < d.n) := by simp [hasB, h0]
    have HF := Lib.hid hf
    clear hf
    go_enter Try.func50, Try.ntmps50
    go_wp2
    go_ret
    exact ⟨by rw [HF.out]; rfl, rfl⟩
  · have hf : hasB i d.n = false := by simp [hasB, h0]
    have h1 : decide (0 ≤ i) = false := by simpa using h0
    have HF := Lib.hid hf
    clear hf
    go_enter Try.func50, Try.ntmps50
    go_wp2
    go_ret
    exact ⟨by rw [HF.out]; rfl, rfl⟩

theorem At.set {w w' d s} (h : At w d s) (s' : St) (hnow : s'.now = s.now) (hsure : s'.sure = s.sure) (h0 : 0 ≤ s'.fuse) (h1 : s'.fuse ≤ 9223372036854775807)
    (hobj : Blk.Is w' d.p 66 (d.cells s')) (hb : Blk.Chg (fun k => k = d.p) w w') : At w' d s' :=
  ⟨hobj, hnow ▸ h.now.chg hb (fun e => h.ne.1 e.symm), hsure ▸ h.sure.chg hb (fun e => h.ne.2 e.symm), h.apart, h0, h1⟩

theorem count_any (d : Dk) (s : St) (w : World) (h : At w d s) (hc : s.calls < 4611686018427387904) :
    Calls Try.prog 53 #[d.ptr] w fun e w' => e = .returned (.tuple #[]) ∧ At w' d s.count ∧ Blk.Chg (fun k => k = d.p) w w' := by
  obtain ⟨c0, c1, c2, c3, c4, f⟩ := h.flds
  have f2 := f 2
  have f3 := f 3
  have f4 := f 4
  have g0 := h.fuse0
  have g1 := h.fuse1
  have hobj := h.obj
  clear f c0 c1
  have H := Lib.hid h
  have O := Lib.hid hobj
  clear h hobj
  unfold Dk.ptr
  by_cases e0 : s.fuse = 0
  · have b0 : (s.fuse == 0) = true := by simp [e0]
    have b1 : s.count = { s with calls := s.calls + 1 } := by simp [St.count, e0]
    have B1 := Lib.hid b1
    clear b1 e0
    go_enter Try.func53, Try.ntmps53
    go_wp2
    refine bodyPost_ret (v := .tuple #[]) (results_none rfl _ _ _) rfl ⟨rfl, H.out.set _ (by rw [B1.out]) (by rw [B1.out]) (by rw [B1.out]; exact g0) (by rw [B1.out]; exact g1) ?_ ?_, ?_⟩
    · have := O.out.set 2 (.int .i64 (s.calls + 1))
      rw [B1.out]; simpa [Dk.cells] using this
    all_goals exact (Blk.Chg.refl _ w).setAt rfl
  · have b0 : (s.fuse == 0) = false := by simp [e0]
    by_cases e1 : s.fuse = 1
    · have b1 : s.count = { s with calls := s.calls + 1, fuse := 0, off := true } := by simp [St.count, e1]
      have b2 : (s.fuse - 1 == 0) = true := by simp [e1]
      have b3 : s.fuse - 1 = 0 := by omega
      have B1 := Lib.hid b1
      have B3 := Lib.hid b3
      clear b1 e0 e1 b3
      go_enter Try.func53, Try.ntmps53
      go_wp2
      go_end0
      refine ⟨rfl, H.out.set _ (by rw [B1.out]) (by rw [B1.out]) (by rw [B1.out]; show (0:Int) ≤ 0; decide) (by rw [B1.out]; show (0:Int) ≤ _; decide) ?_ ?_, ?_⟩
      · have := ((O.out.set 2 (.int .i64 (s.calls + 1))).set 3 (.int .i64 (s.fuse - 1))).set 4 (.bool true)
        rw [B1.out]; simpa [Dk.cells, B3.out] using this
      all_goals (refine Blk.Chg.setAt ?_ rfl; refine Blk.Chg.setAt ?_ rfl; exact Blk.Chg.setAt (Blk.Chg.refl _ w) rfl)
    · have b1 : s.count = { s with calls := s.calls + 1, fuse := s.fuse - 1 } := by simp [St.count, e0, e1]
      have b2 : (s.fuse - 1 == 0) = false := by simp; omega
      have g2 : 0 ≤ s.fuse - 1 := by omega
      have B1 := Lib.hid b1
      have G2 := Lib.hid g2
      clear b1 e0 e1 g2
      go_enter Try.func53, Try.ntmps53
      go_wp2
      refine bodyPost_end (results_none rfl _ _ _) rfl ⟨rfl, H.out.set _ (by rw [B1.out]) (by rw [B1.out]) (by rw [B1.out]; exact G2.out) (by rw [B1.out]; show s.fuse - 1 ≤ _; omega) ?_ ?_, ?_⟩
      · have := (O.out.set 2 (.int .i64 (s.calls + 1))).set 3 (.int .i64 (s.fuse - 1))
        rw [B1.out]; simpa [Dk.cells] using this
      all_goals (refine Blk.Chg.setAt ?_ rfl; exact Blk.Chg.setAt (Blk.Chg.refl _ w) rfl)

theorem fuse_any (d : Dk) (s : St) (n : Int) (w : World) (h : At w d s) (hn : n ≤ 9223372036854775807) :
    Calls Try.prog 31 #[d.ptr, .int .i64 n] w fun e w' => e = .returned (.tuple #[]) ∧ At w' d { s with fuse := max n 0 } ∧ Blk.Chg (fun k => k = d.p) w w' := by
  obtain ⟨c0, c1, c2, c3, c4, f⟩ := h.flds
  have f3 := f 3
  have hobj := h.obj
  clear f c0 c1
  have H := Lib.hid h
  have O := Lib.hid hobj
  clear h hobj
  unfold Dk.ptr
  go_enter Try.func31, Try.ntmps31
  go_wp2
  all_goals
    refine bodyPost_end (results_none rfl _ _ _) rfl ⟨rfl, H.out.set _ rfl rfl (by show 0 ≤ max n 0; omega) (by show max n 0 ≤ _; omega) ?_ ((Blk.Chg.refl _ w).setAt rfl), (Blk.Chg.refl _ w).setAt rfl⟩
    first
      | (have e : max n 0 = n := by omega
         have := O.out.set 3 (.int .i64 n)
         simpa [Dk.cells, e] using this)
      | (have e : max n 0 = 0 := by omega
         have := O.out.set 3 (.int .i64 0)
         simpa [Dk.cells, e] using this)

theorem cloneBytes_any (w : World) (a : Option Addr) (len cap : Nat) (zs : List Int) (h : Row w a len zs) (hl : len ≤ 140737488355328) (ha : a ≠ none) :
    Calls Try.prog 51 #[.slice a len cap] w fun e w' => ∃ v, e = .returned v ∧ Mine w' w.heap.size v zs ∧ Below w.heap.size w w' := by
  obtain ⟨x, rfl⟩ := Option.ne_none_iff_exists'.1 ha
  have m0 := mine_nil w
  have hz := h.count
  have h1 := Lib.hid (h.below ((Below.refl _ _).alloc (Nat.le_refl _) (.cells #[] 5)))
  clear h ha
  have hnil := fun w' n' c' => Lib.run_eql_slice_nil (P := Try.prog) w' 25 5 (some x) len cap n' c' Try.underlying25
  go_enter Try.func51, Try.ntmps51
  go_wp2_with (at_builtin; refine append_bytes rfl (.tmp 5) (.tmp 6) rfl w.heap.size _ [] rfl m0 (some x) len cap rfl zs h1.out (by intro h; cases h) ?_ ?_ ?_)
  · show 0 + len ≤ _; omega
  · simp
  intro v u hm hg
  go_wp2
  go_ret
  exact ⟨_, rfl, hm, (((Below.refl _ _).alloc (Nat.le_refl _) _).grown hg (by simp) (by simp [Value.ownBlock]))⟩

def zsec : Value := .agg (Array.replicate 64 (.int .u8 0))
theorem infoSec : (Try.prog.info? 81).map (fun i => (i.zero, i.size, i.bytes)) = some (some zsec, 64, 64) := by kernel_rfl

theorem Mem.src {w b n cap l} (h : Mem w b n cap l) : Src Try.prog 64 64 (.slice (some ⟨b, 0, none⟩) n cap) n (bcells l.flatten) w := by
  obtain ⟨cur, h1, h2, h3⟩ := h.lies
  have hf := h.secs.flat
  refine Src.ofSlice w Try.underlying64 _ n cap _ (by simp [hf]) (fun j u hj => ?_) (bcells_one _)
  have hl : j < l.flatten.length := by simpa using (List.getElem?_eq_some_iff.1 hj).1
  rw [Addr.add_mid, Nat.zero_add, h1.at (take_at h3 hf j (by omega)), ← bcells_at _ _ hl]
  exact hj

theorem Mem.ofOwn {w base g cap n l} (h : w.ownsRow base 81 64 (.slice (some ⟨g, 0, none⟩) n cap) n (bcells l.flatten)) (hs : Secs n l) (hf : n ≤ 4096) : Mem w g n cap l := by
  rcases h.2 with ⟨h1, _⟩ | ⟨g', cap', cur, hv, hg, hh, hn, hcap, hsz, htake⟩
  · cases h1
  · cases hv
    exact ⟨hs, hn, hf, hcap, cur, hh, hsz, htake⟩


/-- What Read tells. -/
def St.read (s : St) (i : Int) : List Int × Int := if s.off then ([], 7) else if hasB i s.now.length then (s.now.getD i.toNat [], 0) else ([], 1)

theorem read_any (d : Dk) (s : St) (i : Int) (w : World) (h : At w d s) :
    Calls Try.prog 33 #[d.ptr, .int .i64 i] w fun e w' => ∃ v, e = .returned (.tuple #[v, .int .i64 (s.read i).2]) ∧ Mine w' w.heap.size v (s.read i).1 ∧ Below w.heap.size w w' := by
  obtain ⟨c0, c1, c2, c3, c4, f⟩ := h.flds
  have hn := h.now.secs.count
  clear f c1 c2 c3
  unfold Dk.ptr
  cases ho : s.off with
  | true =>
    have hf : s.read i = ([], 7) := by simp [St.read, ho]
    rw [ho] at c4
    have HF := Lib.hid hf
    clear hf ho hn
    go_enter Try.func33, Try.ntmps33
    go_wp2
    go_ret2
    exact ⟨.slice none 0 0, by rw [HF.out]; rfl, by rw [HF.out]; exact mine_none _ _, Below.refl _ _⟩
  | false =>
    rw [ho] at c4
    cases hb : hasB i d.n with
    | false =>
      have hf : s.read i = ([], 1) := by simp [St.read, ho, hn, hb]
      have HF := Lib.hid hf
      have HB := Lib.hid hb
      have H := Lib.hid h
      clear hf ho hn hb h
      go_enter Try.func33, Try.ntmps33
      go_wp2_with fail
      refine (has_any d s i _ H.out).mono ?_
      rintro e w' ⟨rfl, rfl⟩
      rw [HB.out]
      go_wp2
      go_ret2
      exact ⟨.slice none 0 0, by rw [HF.out]; rfl, by rw [HF.out]; exact mine_none _ _, Below.refl _ _⟩
    | true =>
      have hf : s.read i = (s.now.getD i.toNat [], 0) := by simp [St.read, ho, hn, hb]
      have hb' : 0 ≤ i ∧ i < d.n := by simpa [hasB] using hb
      obtain ⟨g0, g1⟩ := hb'
      have hr := h.now.row i.toNat (by omega)
      have HF := Lib.hid hf
      have HB := Lib.hid hb
      have HR := Lib.hid hr
      have H := Lib.hid h
      clear hf ho hn hb h hr
      go_enter Try.func33, Try.ntmps33
      go_wp2_with fail
      refine (has_any d s i _ H.out).mono ?_
      rintro e w' ⟨rfl, rfl⟩
      rw [HB.out]
      go_wp2_with fail
      refine (cloneBytes_any _ _ 64 64 _ HR.out (by omega) (by simp)).mono ?_
      rintro e w' ⟨v, rfl, hm, hb⟩
      go_wp2
      go_ret2
      exact ⟨v, by rw [HF.out]; rfl, by rw [HF.out]; exact hm, hb⟩
end Disk
end Go.Proofs.Ytjeidfknnophnaa

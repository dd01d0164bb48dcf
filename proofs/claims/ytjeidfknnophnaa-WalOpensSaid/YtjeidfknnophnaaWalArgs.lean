/-
Rows of rows of bytes that came in; the statements' own helper small.
-/
import Derived.Test.YtjeidfknnophnaaWalAwake
import Derived.Deep.Slices
import Derived.Deep.Fields
import Derived.ChangeSame
import Derived.OpenShut
import Derived.ChangeOld
namespace Go.Proofs.Ytjeidfknnophnaa
open Go.RowKit Go.ChangeShapes Go.WideShapes Go.Deep
set_option linter.unusedVariables false
namespace Wal

/-- A slice of slices of bytes that came in: everything of it lies below B. -/
structure Arg (B : Nat) (w : World) (v : Value) (ls : List (List Int)) : Prop where
  short : ls.length ≤ 9223372036854775807
  shape : ∃ a cap, v = .slice a ls.length cap ∧ (0 < ls.length → ∃ b off, a = some ⟨b, off, none⟩ ∧ b < B ∧ ∀ i, i < ls.length →
    ∃ ai ci, w.cell? ⟨b, off + i, none⟩ = some (.slice ai (ls.getD i []).length ci) ∧ Row w ai (ls.getD i []).length (ls.getD i []) ∧ (ls.getD i []).length ≤ ci ∧ (ai = none → ci = 0) ∧ (0 < (ls.getD i []).length → ∀ y, ai = some y → y.block < B))
theorem Arg.below {B w u v ls} (h : Arg B w v ls) (hb : Below B w u) : Arg B u v ls := by
  obtain ⟨h0, a, cap, h1, h2⟩ := h
  refine ⟨h0, a, cap, h1, fun hl => ?_⟩
  obtain ⟨b, off, h3, h4, h5⟩ := h2 hl
  refine ⟨b, off, h3, h4, fun i hi => ?_⟩
  obtain ⟨ai, ci, g1, g2, g3, g4, g5⟩ := h5 i hi
  refine ⟨ai, ci, by rw [hb.cell (by exact h4)]; exact g1, ?_, g3, g4, g5⟩
  exact g2.keep (S := fun k => B ≤ k) (Blk.Chg.ofBelow hb fun k _ hk => hk) (fun hl b off e => by have := g5 hl _ e; show ¬ B ≤ b; have h7 : b < B := this; omega)

section
variable {H : Type} {enc : TypeId × Value → H} {w : World} {base : Nat}
/-- One row of bytes. -/
theorem open_bytes {n : Nat} {v : Value} {y : DataW H × List MemPlace} (h : DataW.trod enc Try.prog w base (fun _ => true) true n 25 [v] = some y) :
    ∃ a len cap zs, v = .slice a len cap ∧ IsRow .u8 w a len cap zs := by
  rcases open_ints Try.underlying25 Try.underlying5 (by kernel_rfl) h with ⟨hcs, _⟩ | ⟨x, l, c, zs, hcs, _, hl, hm, hz, _, hcell, hwz⟩
  · obtain rfl : v = .slice none 0 0 := by simpa using hcs
    exact ⟨none, 0, 0, [], rfl, .inl ⟨rfl, rfl, rfl, rfl⟩⟩
  · obtain rfl : v = .slice (some x) l c := by simpa using hcs
    exact ⟨some x, l, c, zs, rfl, .inr ⟨x, rfl, hl, hm, by simpa using hz, hcell, hwz⟩⟩
theorem cellsBytes : Try.prog.cellsOf 25 = 1 := by kernel_rfl
/-- One place. -/
def Place (w : World) (a : Addr) (i : Nat) (r : List Int) : Prop := ∃ ai ci, w.cell? (a.add i) = some (.slice ai r.length ci) ∧ Row w ai r.length r ∧ r.length ≤ ci ∧ (ai = none → ci = 0)
theorem rows_of {v : Value} {d : DataW H} {p : List MemPlace} (k : DataW.Trod enc Try.prog w 0 (fun _ => true) true 26 v d p) (o : Value.okWide Try.prog w .any base 26 v) : ∃ ls, Arg w.heap.size w v ls := by
  obtain ⟨a, len, cap, rfl⟩ := okWide_slice Try.underlying26 o
  obtain ⟨fuel, hf⟩ := k
  rcases open_slice Try.underlying26 hf with ⟨hcs, _⟩ | ⟨x, l, c, m, n, D, Pl, hcs, _, hl, hm, hmm, _, hi⟩
  · simp [Value.cells] at hcs
    obtain ⟨rfl, rfl, rfl⟩ := hcs
    exact ⟨[], by simp, none, 0, rfl, by simp⟩
  · simp [Value.cells] at hcs
    obtain ⟨rfl, rfl, rfl⟩ := hcs
    have hmc : m = cap := by simpa using hmm
    have hall : ∀ i, i < len → ∃ r, Place w x i r := fun i hil => by
      obtain ⟨cs', hc, ht⟩ := hi i (by omega)
      rw [cellsBytes, Nat.mul_one] at hc
      obtain ⟨_, hl1, hat⟩ := World.cells?_some hc
      match cs', hl1 with
      | [v0], _ =>
        obtain ⟨a0, l0, c0, zs, rfl, hrow⟩ := open_bytes ht
        have hr := hrow.row
        have hcnt := hr.count
        refine ⟨zs.take l0, a0, c0, ?_, by rw [hcnt]; exact hr, by rw [hcnt]; exact hrow.le, hrow.nil⟩
        have := hat 0 (by omega)
        rw [show (x.add i).add 0 = x.add i by rw [Go.Deep.add_add]; rfl] at this
        rw [hcnt]; simpa using this
    unfold maxLen at hm
    refine ⟨(List.range len).map fun i => if h : i < len then (hall i h).choose else [], by simp; omega, some x, cap, by simp, fun h0 => ?_⟩
    have h0' : 0 < len := by simpa using h0
    obtain ⟨b, off, ho⟩ : ∃ b off, x = ⟨b, off, none⟩ := by
      obtain ⟨_, _, h, _⟩ := (hall 0 h0').choose_spec
      obtain ⟨b, off, part⟩ := x
      have hp : part = none := by simpa [Addr.add] using World.cell?_spot h
      subst hp
      exact ⟨b, off, rfl⟩
    subst ho
    have hbl : b < w.heap.size := by
      obtain ⟨_, _, h, _⟩ := (hall 0 h0').choose_spec
      rw [Addr.add_mid] at h
      exact block_lt_of_cell h
    refine ⟨b, off, rfl, hbl, fun i hil => ?_⟩
    have hil' : i < len := by simpa using hil
    have e : ((List.range len).map fun i => if h : i < len then (hall i h).choose else []).getD i [] = (hall i hil').choose := by
      simp [hil']
    rw [e]
    obtain ⟨ai, ci, h1, h2, h3, h4⟩ := (hall i hil').choose_spec
    rw [Addr.add_mid] at h1
    refine ⟨ai, ci, h1, h2, h3, h4, fun hl y hy => ?_⟩
    obtain ⟨b', off', hb', hlt, _⟩ := h2.cells hl
    rw [hb'] at hy; cases hy; exact hlt
end

/-- The rows that small keeps. -/
def smallL (ls : List (List Int)) : List (List Int) := (ls.take 20).filter fun r => decide (r.length ≤ 300)
def smallTo (ls : List (List Int)) (k : Nat) : List (List Int) := ((ls.take k).take 20).filter fun r => decide (r.length ≤ 300)
theorem smallTo_len (ls : List (List Int)) (k : Nat) : (smallTo ls k).length ≤ 20 := by
  have h1 := List.length_filter_le (fun r : List Int => decide (r.length ≤ 300)) ((ls.take k).take 20)
  unfold smallTo
  rw [List.length_take] at h1
  omega
theorem smallTo_all (ls : List (List Int)) : smallTo ls ls.length = smallL ls := by unfold smallTo smallL; rw [List.take_length]
theorem smallTo_skip (ls : List (List Int)) (k : Nat) (h : 20 ≤ k) : smallTo ls (k + 1) = smallTo ls k := by
  unfold smallTo; rw [List.take_take, List.take_take, show min 20 (k + 1) = 20 by omega, show min 20 k = 20 by omega]
theorem smallTo_succ (ls : List (List Int)) (k : Nat) (h : k < 20) (hl : k < ls.length) : smallTo ls (k + 1) = smallTo ls k ++ if (ls.getD k []).length ≤ 300 then [ls.getD k []] else [] := by
  unfold smallTo
  rw [List.take_take, List.take_take, show min 20 (k + 1) = k + 1 by omega, show min 20 k = k by omega, List.take_succ_eq_append_getElem hl, List.filter_append]
  congr 1
  simp [hl, List.filter_cons]
theorem small_ok (ls : List (List Int)) : (smallL ls).length ≤ 20 ∧ ∀ r ∈ smallL ls, r.length ≤ 300 := by
  refine ⟨?_, fun r hr => ?_⟩
  · rw [← smallTo_all]; exact smallTo_len _ _
  · have := (List.mem_filter.1 hr).2
    simpa using this

set_option maxRecDepth 100000 in
theorem small_any (B : Nat) (v : Value) (ls : List (List Int)) (w : World) (h : Arg B w v ls) (hB : B ≤ w.heap.size) :
    Calls Try.prog 15 #[v] w fun e w' => ∃ v', e = .returned v' ∧ Recs w' B v' (smallL ls) ∧ Below w.heap.size w w' := by
  obtain ⟨hs, a, cap, rfl, hcells⟩ := h
  obtain ⟨n, hn⟩ : ∃ n, ls.length = n := ⟨_, rfl⟩
  rw [hn] at hs hcells
  rw [hn]
  have HN := Lib.hid hn
  have HC := Lib.hid hcells
  clear hn hcells
  go_enter Try.func15, Try.ntmps15
  go_wp2_with fail
  go_loopw [3, 8] (fun v i u => ∃ k : Nat, k ≤ n ∧ i = .int .i64 k ∧ Recs u B v (smallTo ls k) ∧ (∀ b, v.ownBlock = some b → w.heap.size ≤ b) ∧ Below w.heap.size w u) (fun _ i _ => n - (intOf i).toNat)
  case atStart => exact ⟨0, by omega, rfl, by rw [show smallTo ls 0 = [] from rfl]; exact recs_nil _ _, fun b e => by simp [Value.ownBlock] at e, Below.refl _ _⟩
  case round =>
    obtain ⟨k, hk, rfl, hrec, hown, hb⟩ := hrel
    obtain ⟨a5, c5, rfl, hc5⟩ := hrec.shape
    have hlen := smallTo_len ls k
    have HREC := Lib.hid hrec
    have HB := Lib.hid hb
    have hBS := hb.size
    have HO := Lib.hid hown
    clear hrec hb hown
    by_cases hlt : k < n
    · obtain ⟨b, off, rfl, hbB, hat⟩ := HC.out (by omega)
      obtain ⟨ai, ci, h1, h2, h3, h4, h5⟩ := hat k hlt
      have c1 : wr.cell? ⟨b, off + k, none⟩ = some (.slice ai (ls.getD k []).length ci) := by rw [HB.out.cell (by exact Nat.lt_of_lt_of_le hbB hB)]; exact h1
      have hel : El wr B (.slice ai (ls.getD k []).length ci) (ls.getD k []) :=
        ⟨ai, ci, rfl, h2.keep (S := fun k => B ≤ k) (Blk.Chg.ofBelow HB.out fun k _ hk => Nat.le_trans hB hk) (fun hl b off e => by have h7 : b < B := h5 hl _ e; show ¬ B ≤ b; omega), h3, h4, fun hl y hy => .inl (h5 hl y hy)⟩
      have hshort := h2.short
      have hsu := smallTo_succ ls k
      obtain ⟨r, hr⟩ : ∃ r, ls.getD k [] = r := ⟨_, rfl⟩
      rw [hr] at c1 hel hshort hsu
      obtain ⟨m, hm⟩ : ∃ m, r.length = m := ⟨_, rfl⟩
      rw [hm] at c1 hel hshort hsu
      have k0 : (0 : Int) ≤ k := by omega
      have k1 : (k : Int) < n := by omega
      have HEL := Lib.hid hel
      clear h1 h2 h3 h4 h5 hat hel hr
      by_cases h20 : k < 20
      · have hd20 : decide ((k : Int) < 20) = true := by simp; omega
        have hs1 := hsu h20 (by rw [HN.out]; exact hlt)
        by_cases h300 : m ≤ 300
        · have hd3 : decide ((m : Int) ≤ 300) = true := by simp; omega
          rw [if_pos h300] at hs1
          have HS1 := Lib.hid hs1
          have bA : Below wr.heap.size wr (wr.alloc (.cells #[.slice ai m ci] 25)) := (Below.refl _ _).alloc (Nat.le_refl _) _
          have hcell : (wr.alloc (.cells #[.slice ai m ci] 25)).cell? ((⟨wr.heap.size, 0, none⟩ : Addr).add 0) = some (.slice ai m ci) := by
            rw [Addr.add_mid]; exact (Blk.Is.new wr 25 #[.slice ai m ci]).at rfl
          have HCE := Lib.hid hcell
          have RA := Lib.hid (HREC.out.below bA)
          have EA := Lib.hid (HEL.out.below bA)
          have BA := Lib.hid (HB.out.trans (bA.mono hBS))
          have hBA : B ≤ (wr.alloc (.cells #[.slice ai m ci] 25)).heap.size := by rw [World.size_alloc]; omega
          clear hsu hs1 hcell bA HREC HEL
          go_wp2_with (at_builtin; refine append_rec2 rfl (.tmp 20) (.tmp 22) rfl B _ _ rfl RA.out _ _ rfl _ r HCE.out EA.out ?_ ?_ ?_)
          · omega
          · exact hBA
          intro v9 w9 r9 g9 k9
          have b9 := BA.out.grown g9 BA.out.size (fun k e => HO.out k e)
          have o9 : ∀ b, v9.ownBlock = some b → w.heap.size ≤ b := fun b e => by
            rcases k9 b e with h | h
            · exact HO.out b h
            · first
                | omega
                | (simp only [World.size_alloc] at h; omega)
          rw [← HS1.out] at r9
          obtain ⟨a9, c9, rfl, _⟩ := r9.shape
          have R9 := Lib.hid r9
          have B9 := Lib.hid b9
          have O9 := Lib.hid o9
          clear r9 b9 g9 k9 o9 RA EA BA hBA HCE c1
          go_wp2
          refine ⟨⟨k + 1, by omega, by go_num, R9.out, O9.out, B9.out⟩, ?_⟩
          simp [intOf]; omega
        · have hd3 : decide ((m : Int) ≤ 300) = false := by simp; omega
          rw [if_neg h300, List.append_nil] at hs1
          have HR1 := Lib.hid (show Recs wr B (.slice a5 (smallTo ls k).length c5) (smallTo ls (k + 1)) by rw [hs1]; exact HREC.out)
          clear hsu hs1 HREC HEL
          go_wp2
          refine ⟨⟨k + 1, by omega, by go_num, HR1.out, HO.out, HB.out⟩, ?_⟩
          simp [intOf]; omega
      · have hd20 : decide ((k : Int) < 20) = false := by simp; omega
        have HR1 := Lib.hid (show Recs wr B (.slice a5 (smallTo ls k).length c5) (smallTo ls (k + 1)) by rw [smallTo_skip ls k (by omega)]; exact HREC.out)
        clear hsu HREC HEL
        go_wp2
        refine ⟨⟨k + 1, by omega, by go_num, HR1.out, HO.out, HB.out⟩, ?_⟩
        simp [intOf]; omega
    · obtain rfl : k = n := by omega
      have hfin : Recs wr B (.slice a5 (smallTo ls k).length c5) (smallL ls) := by
        have := HREC.out
        rw [← HN.out, smallTo_all] at this
        rw [← HN.out, smallTo_all]; exact this
      have HFIN := Lib.hid hfin
      clear hfin HREC
      go_wp2
      go_ret
      exact ⟨_, rfl, HFIN.out, HB.out⟩
end Wal
end Go.Proofs.Ytjeidfknnophnaa

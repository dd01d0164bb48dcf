/-
How many bytes at the beginning are of signs of one kind; what is behind white space. strings.ContainsRune of the grammar's marks at a character that is no ASCII: none of them.
-/
import Derived.Test.YtapmpdljapbpeaaGreatDoorVerSmall
import Derived.Test.YtapmpdljapbpeaaGreatDoorRelDef
import Derived.Test.YtapmpdljapbpeaaGreatDoorShelf
import Derived.Test.YtapmpdljapbpeaaGreatDoorTextUtf
import Derived.Test.YtapmpdljapbpeaaGreatDoorVerPartK
import Derived.Laws.Runes
import Derived.Deep.QuietTactic
import Derived.StillTailTactics
import Derived.WalkMore
import Derived.WalkKit
import Derived.ProofKit
import Derived.Below
import Derived.Lib.Hide
import Derived.LoopN
import Derived.Deep.LoopGhost
import Derived.Lib.OthersKept
import Derived.IntWalk
namespace Go.Proofs.YtapmpdljapbpeaaGreatDoor
open Go.RowKit
set_option linter.unusedSimpArgs false
set_option linter.unusedVariables false
namespace Rl
open Ver (Bs li li_len li_drop li_ext li_ext_end li_ext_zero sz_high)
open Txt (b b_eq b_lt dec_low dec_high sz on_iff)
def spq (q : Nat → Bool) (l : Bs) : Nat := (l.takeWhile fun c => q c.toNat).length
theorem spq_cons (q : Nat → Bool) (c : UInt8) (r : Bs) : spq q (c :: r) = if q c.toNat = true then spq q r + 1 else 0 := by
  unfold spq
  rw [List.takeWhile_cons]
  split <;> rfl
theorem spq_more {s : ByteArray} {q : Nat → Bool} {k N : Nat} (h : k < s.size) (hk : q (b s k) = true) (hN : k + spq q ((li s).drop k) = N) : k + 1 + spq q ((li s).drop (k + 1)) = N := by
  obtain ⟨c, hc, hb⟩ := li_drop s k h
  rw [hc, spq_cons, hb, if_pos hk] at hN
  omega
theorem spq_stop {s : ByteArray} {q : Nat → Bool} {k N : Nat} (h : k < s.size) (hk : q (b s k) = false) (hN : k + spq q ((li s).drop k) = N) : N = k := by
  obtain ⟨c, hc, hb⟩ := li_drop s k h
  rw [hc, spq_cons, hb, if_neg (by rw [hk]; simp)] at hN
  omega
theorem spq_end {s : ByteArray} {q : Nat → Bool} {k N : Nat} (h : ¬ k < s.size) (hN : k + spq q ((li s).drop k) = N) : N = k := by
  rw [List.drop_eq_nil_of_le (by rw [li_len]; omega)] at hN
  exact hN.symm
theorem spq_jump {s : ByteArray} {q : Nat → Bool} {N : Nat} : ∀ (n k : Nat), k + n ≤ s.size → (∀ j, j < n → q (b s (k + j)) = true) → k + spq q ((li s).drop k) = N → k + n + spq q ((li s).drop (k + n)) = N
  | 0, _, _, _, h => h
  | n + 1, k, h1, h2, h => by
    have e := spq_more (by omega) (by have := h2 0 (by omega); rwa [Nat.add_zero] at this) h
    have := spq_jump n (k + 1) (by omega) (fun j hj => by have := h2 (j + 1) (by omega); rwa [show k + (j + 1) = k + 1 + j by omega] at this) e
    rwa [show k + 1 + n = k + (n + 1) by omega] at this
set_option maxRecDepth 100000 in
set_option maxHeartbeats 2000000 in
theorem span_any (f : Nat) (q : Nat → Bool) (hh : Bool) (hq : ∀ r, 128 ≤ r → q r = hh) (he : ∀ (args : Array Value) (w : World), (callFunc f args).run Tryz.prog w = .ok (.enter f args) w) (hf : ∀ (r : Nat) w, Calls Tryz.prog f #[.int .i32 r] w fun e w' => e = .returned (.bool (q r)) ∧ Below w.heap.size w w') (s : ByteArray) (w : World) (hs : s.size ≤ 9223372036854775807) :
    Calls Tryz.prog 158 #[.string s, .func (.func f) #[] #[]] w fun e w' => e = .returned (.int .i64 (spq q (li s))) ∧ Below w.heap.size w w' := by
  obtain ⟨G, hG⟩ : ∃ G, spq q (li s) = G := ⟨_, rfl⟩
  have HG := Lib.hid hG
  rw [hG]
  clear hG
  go_enter Tryz.func158, Tryz.ntmps158
  go_wp2
  go_loopg [] s.size (fun gf wx => ∃ pos : Nat, wx.heap[w.heap.size]? = some (.stringIter s pos) ∧ Below w.heap.size w wx ∧ Hid (pos + spq q ((li s).drop pos) = G) ∧ s.size ≤ pos + gf ∧ pos ≤ s.size)
  case atStart => exact ⟨0, World.iter_heap w s 0, (Below.refl _ _).alloc (Nat.le_refl _) _, (by rw [List.drop_zero, Nat.zero_add]; exact HG.out), by omega, by omega⟩
  case round =>
    obtain ⟨pos, hit, hbw, HN, hfu, hps⟩ := hrel
    by_cases hlt : pos < s.size
    · obtain ⟨g', rfl⟩ : ∃ g', gk = g' + 1 := ⟨gk - 1, by omega⟩
      have hnx : ∀ ty, (Instr.next (.pointer (some ⟨w.heap.size, 0, none⟩)) true ty).run Tryz.prog wr = _ := fun ty => Lib.run_next_any_at wr w.heap.size s pos ty hit hlt
      obtain ⟨W, hW⟩ : ∃ W, wr.iterAt w.heap.size s (pos + (Utf8.decode s pos).2) = W := ⟨_, rfl⟩
      have hit2 := Lib.iterAt_heap wr w.heap.size s pos (pos + (Utf8.decode s pos).2) hit
      have hbw2 := Lib.below_iterAt hbw (k := w.heap.size) (Nat.le_refl _) s (pos + (Utf8.decode s pos).2)
      rw [hW] at hnx hit2 hbw2
      clear hW hit hbw
      have hstep : ∃ n R, 0 < n ∧ Utf8.decode s pos = (R, n) ∧ pos + n ≤ s.size ∧ (q R = true → ∀ j, j < n → q (b s (pos + j)) = true) ∧ (q R = false → q (b s pos) = false) := by
        by_cases hb : b s pos < 128
        · refine ⟨1, b s pos, by omega, dec_low s pos hlt hb, by omega, fun h j hj => ?_, fun h => h⟩
          rw [show j = 0 by omega, Nat.add_zero]; exact h
        · rcases dec_high s pos hlt (by omega) with ⟨_, hd⟩ | ⟨h1, h2, h3, h4⟩
          · refine ⟨1, (Utf8.decode s pos).1, by omega, by rw [hd], by omega, fun h j hj => ?_, fun h => ?_⟩
            · rw [show j = 0 by omega, Nat.add_zero, hq _ (by omega)]
              rw [← h, hd, hq _ (by decide)]
            · rw [hq _ (by omega)]
              rw [← h, hd, hq _ (by decide)]
          · refine ⟨sz s pos, (Utf8.decode s pos).1, by omega, by rw [← h3], h2, fun h j hj => ?_, fun h => ?_⟩
            · rw [hq _ (sz_high s pos (by omega) j hj), ← h, hq _ h4]
            · rw [hq _ (by omega), ← h, hq _ h4]
      obtain ⟨n, R, hn0, hd, hnle, hyes, hno⟩ := hstep
      rw [hd] at hnx hit2
      have hc := hf R
      cases hqr : q R
      · have hN := spq_stop hlt (hno hqr) HN.out
        subst hN
        rw [hqr] at hc
        clear HN hyes hno hqr hd hf hq HG
        go_wp2_with fail
        refine (hc _).mono ?_
        rintro e w' ⟨rfl, kb⟩
        go_wp2_with fail
        go_ret
        exact ⟨rfl, hbw2.trans (kb.mono hbw2.size)⟩
      · have HM := Lib.hid (spq_jump n pos hnle (hyes hqr) HN.out)
        rw [hqr] at hc
        clear HN hyes hno hqr hd hf hq
        go_wp2_with fail
        refine (hc _).mono ?_
        rintro e w' ⟨rfl, kb⟩
        have hit3 : w'.heap[w.heap.size]? = some (.stringIter s (pos + n)) := (kb.block w.heap.size (Array.getElem?_eq_some_iff.1 hit2).1).trans hit2
        have hbw3 := hbw2.trans (kb.mono hbw2.size)
        clear kb hit2 hbw2
        go_wp2_with fail
        go_roundg g'
        case measure => omega
        case rel => exact ⟨pos + n, hit3, hbw3, HM, by omega, by omega⟩
    · have hne : ∀ ty, (Instr.next (.pointer (some ⟨w.heap.size, 0, none⟩)) true ty).run Tryz.prog wr = _ := fun ty => Lib.run_next_end_at wr w.heap.size s pos ty hit hlt
      have hN := spq_end hlt HN.out
      have hN2 : G = s.size := by omega
      subst hN2
      clear HN HG hN hf hq
      go_wp2_with fail
      go_ret
      exact ⟨rfl, hbw⟩
end Rl
end Go.Proofs.YtapmpdljapbpeaaGreatDoor
namespace Go.Proofs.YtapmpdljapbpeaaGreatDoor
open Go.RowKit
set_option linter.unusedSimpArgs false
set_option linter.unusedVariables false
namespace Rl
def marks : ByteArray := ⟨#[44, 124, 40, 41]⟩
theorem indexByte_any (s : ByteArray) (c : Int) (w : World) :
    Calls Tryz.prog 182 #[.string s, .int .u8 c] w fun e w' => e = .returned (.int .i64 (Lib.indexByte s.data.toList c.toNat.toUInt8)) ∧ w' = w := Any.strings_IndexByte { Tryz.lays151 with } s c w
theorem validRune_any (r : Int) (w : World) : Calls Tryz.prog 183 #[.int .i32 r] w fun e w' => e = .returned (.bool (Utf8.valid r)) ∧ w' = w := by
  have hv : Utf8.valid r = decide ((0 ≤ r ∧ r < 55296) ∨ (57343 < r ∧ r ≤ 1114111)) := validRune_eq r
  rw [hv]
  by_cases h0 : 0 ≤ r
  · by_cases h1 : r < 55296
    · rw [decide_eq_true (.inl ⟨h0, h1⟩)]
      clear hv
      go_enter Tryz.func183, Tryz.ntmps183
      go_wp2_with fail
      go_ret
      exact ⟨rfl, rfl⟩
    · by_cases h2 : 57343 < r
      · by_cases h3 : r ≤ 1114111
        · rw [decide_eq_true (.inr ⟨h2, h3⟩)]
          clear hv
          go_enter Tryz.func183, Tryz.ntmps183
          go_wp2_with fail
          go_ret
          exact ⟨rfl, rfl⟩
        · rw [decide_eq_false (by omega)]
          clear hv
          go_enter Tryz.func183, Tryz.ntmps183
          go_wp2_with fail
          go_ret
          exact ⟨rfl, rfl⟩
      · rw [decide_eq_false (by omega)]
        clear hv
        go_enter Tryz.func183, Tryz.ntmps183
        go_wp2_with fail
        go_ret
        exact ⟨rfl, rfl⟩
  · rw [decide_eq_false (by omega)]
    have h2 : ¬ 57343 < r := by omega
    clear hv
    go_enter Tryz.func183, Tryz.ntmps183
    go_wp2_with fail
    go_ret
    exact ⟨rfl, rfl⟩
theorem no_byte (s : ByteArray) (c : UInt8) (hs : ∀ b ∈ s.data.toList, b.toNat < 128) (hc : 128 ≤ c.toNat) : Lib.indexByte s.data.toList c = -1 := by
  rw [← Lib.firstIdx_eq]
  exact firstIdx_none _ _ fun b hb hbc => by have := hs b hb; rw [hbc] at this; omega
theorem marks_low : ∀ b ∈ marks.data.toList, b.toNat < 128 := by decide
set_option maxRecDepth 100000 in
set_option maxHeartbeats 4000000 in
theorem indexRune_high (r : Int) (w : World) (hr : 128 ≤ r) :
    Calls Tryz.prog 172 #[.string marks, .int .i32 r] w fun e w' => e = .returned (.int .i64 (-1)) ∧ Below w.heap.size w w' := by
  have h1 : ¬ r < 128 := by omega
  have h0 : 0 ≤ r := by omega
  have hsz : marks.size = 4 := rfl
  by_cases he : r = 65533
  · subst he
    obtain ⟨s, hs⟩ : ∃ s, marks = s := ⟨_, rfl⟩
    have hlow : ∀ pos, pos < s.size → Txt.b s pos < 128 := fun pos hp => by
      have := marks_low
      rw [hs] at this
      rw [Txt.b, dif_pos hp]
      exact this _ (Array.getElem_mem_toList (xs := s.data) hp)
    rw [hs] at hsz ⊢
    clear hs
    go_enter Tryz.func172, Tryz.ntmps172
    go_wp2
    go_loopg [] s.size (fun gf wx => ∃ pos : Nat, wx.heap[w.heap.size]? = some (.stringIter s pos) ∧ Below w.heap.size w wx ∧ s.size ≤ pos + gf ∧ pos ≤ s.size)
    case atStart => exact ⟨0, World.iter_heap w s 0, (Below.refl _ _).alloc (Nat.le_refl _) _, by omega, by omega⟩
    case round =>
      obtain ⟨pos, hit, hbw, hfu, hps⟩ := hrel
      by_cases hlt : pos < s.size
      · obtain ⟨g', rfl⟩ : ∃ g', gk = g' + 1 := ⟨gk - 1, by omega⟩
        have hnx : ∀ ty, (Instr.next (.pointer (some ⟨w.heap.size, 0, none⟩)) true ty).run Tryz.prog wr = _ := fun ty => Lib.run_next_any_at wr w.heap.size s pos ty hit hlt
        obtain ⟨W, hW⟩ : ∃ W, wr.iterAt w.heap.size s (pos + (Utf8.decode s pos).2) = W := ⟨_, rfl⟩
        have hit2 := Lib.iterAt_heap wr w.heap.size s pos (pos + (Utf8.decode s pos).2) hit
        have hbw2 := Lib.below_iterAt hbw (k := w.heap.size) (Nat.le_refl _) s (pos + (Utf8.decode s pos).2)
        rw [hW] at hnx hit2 hbw2
        have hb := hlow pos hlt
        rw [Txt.dec_low s pos hlt hb] at hnx hit2
        generalize Txt.b s pos = c at *
        have hne : ¬ (c : Int) = 65533 := by omega
        clear hW hit hbw hlow
        go_wp2_with fail
        go_roundg g'
        case measure => omega
        case rel => exact ⟨pos + 1, hit2, hbw2, by omega, by omega⟩
      · have hne : ∀ ty, (Instr.next (.pointer (some ⟨w.heap.size, 0, none⟩)) true ty).run Tryz.prog wr = _ := fun ty => Lib.run_next_end_at wr w.heap.size s pos ty hit hlt
        clear hlow
        go_wp2_with fail
        go_ret
        exact ⟨rfl, hbw⟩
  · cases hv : Utf8.valid r
    · have cv := fun w => validRune_any r w
      rw [hv] at cv
      clear hv
      go_enter Tryz.func172, Tryz.ntmps172
      go_wp2_with fail
      refine (cv _).mono ?_
      rintro e w' ⟨rfl, rfl⟩
      go_wp2_with fail
      go_ret
      exact ⟨rfl, Below.refl _ _⟩
    · have cv := fun w => validRune_any r w
      rw [hv] at cv
      obtain ⟨f1, f2, f3⟩ := encode_facts r hv hr
      have f3' : ∀ k, k + 1 = (Utf8.encode r).size → 128 ≤ Txt.b (Utf8.encode r) k := fun k hk => by
        have h := f3 (by omega)
        have hk' : (Utf8.encode r).size - 1 = k := by omega
        simp only [hk'] at h
        unfold Txt.b
        rw [dif_pos (by omega)]
        exact h
      clear f3
      obtain ⟨s, hs⟩ : ∃ s, marks = s := ⟨_, rfl⟩
      have hlow : ∀ pos, pos < s.size → Txt.b s pos < 128 := fun pos hp => by
        have := marks_low
        rw [hs] at this
        rw [Txt.b, dif_pos hp]
        exact this _ (Array.getElem_mem_toList (xs := s.data) hp)
      have hio : ∀ (k : Nat) (x : Int) (w : World), 128 ≤ x → x < 256 → Calls Tryz.prog 182 #[.string (s.extract k s.size), .int .u8 x] w fun e w' => e = .returned (.int .i64 (-1)) ∧ w' = w := fun k x w h1 h2 => by
        have c := indexByte_any (s.extract k s.size) x w
        rw [no_byte _ _ (fun b hb => by rw [← hs] at hb; exact marks_low b (mem_extract hb)) (by simp [UInt8.toNat_ofNat']; omega)] at c
        exact c
      rw [hs] at hsz ⊢
      clear hs hv
      have hcv : ∀ w, (convert 21 9 (.int .i32 r)).run Tryz.prog w = .ok (.string (Utf8.encode r)) w := fun w => run_convert_int_string w 21 9 .i32 r (by rw [Tryz.underlying21]; rfl) Tryz.underlying9
      generalize Utf8.encode r = rs at *
      have key : ∀ k, k + 1 = rs.size → k = 1 ∨ k = 2 ∨ k = 3 → Calls Tryz.prog 172 #[.string s, .int .i32 r] w fun e w' => e = .returned (.int .i64 (-1)) ∧ Below w.heap.size w w' := by
        intro k hk hk3
        have hs1 := f3' k hk
        have hs2 := Txt.b_lt rs k
        have hs3 := Txt.b_eq rs k (by omega)
        have hl1 := hlow k (by omega)
        have hks : k < s.size := by omega
        have hl3 := Txt.b_eq s k hks
        generalize Txt.b rs k = x at *
        generalize Txt.b s k = y at *
        have hxy : ¬ (y : Int) = (x : Int) := by omega
        have hkk : (rs.size : Int) - 1 = (k : Int) := by omega
        have hk4 : (k : Int) < (s.size : Int) := by omega
        have hk5 : (k : Int) < (rs.size : Int) := by omega
        have ho := fun m w => hio m x w (by omega) (by omega)
        obtain ⟨m, hm⟩ : ∃ m, k + 1 = m := ⟨_, rfl⟩
        have hsum : (k : Int) + 1 = (m : Int) := by omega
        have hm2 : (m : Int) ≤ s.size := by omega
        have hwr : IntKind.i64.wrap (m : Int) = (m : Int) := IntWalk.i64_in _ (by omega)
        clear hsz
        clear hio hlow f3'
        go_enter Tryz.func172, Tryz.ntmps172
        go_wp2_with fail
        refine (cv _).mono ?_
        rintro e w' ⟨rfl, rfl⟩
        go_wp2_with fail
        go_step3
        go_wp2_with fail
        refine wp_loop_rounds 2 ?_
        rw [rounds_succ]
        go_wp2_with fail
        go_step3
        go_wp2_with fail
        go_quiet (fail)
        have kq := Ver.below_drewN w' nq
        generalize w'.drewN nq = wd at *
        go_wp2_with fail
        go_quiet ((with_reducible exact Calls.quiet_of_same (ho _ _)))
        have kq2 : Below w'.heap.size w' (wd.drewN nq) := kq.trans ((Ver.below_drewN wd nq).mono kq.size)
        generalize wd.drewN nq = we at *
        go_wp2_with fail
        simp only [Exit.noGoto_ret]
        simp only [Exit.inBlock, Exit.then, Exit.noGoto_ret]
        go_ret
        exact ⟨rfl, kq2⟩
      have h4 : rs.size = 2 ∨ rs.size = 3 ∨ rs.size = 4 := by omega
      exact key (rs.size - 1) (by omega) (by omega)
end Rl
end Go.Proofs.YtapmpdljapbpeaaGreatDoor

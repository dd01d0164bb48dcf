/-
How many bytes at the beginning are of signs of one kind; what is behind white space.
-/
import Derived.Test.YtddfjndclgapcaaDoorVerSmall
import Derived.Test.YtddfjndclgapcaaDoorRelDef
namespace Go.Proofs.YtddfjndclgapcaaDoor
open Go.RowKit
set_option linter.unusedSimpArgs false
set_option linter.unusedVariables false
namespace Rl
open Ver (Bs li li_len li_drop li_ext li_ext_end li_ext_zero sz_high)
open Txt (b b_eq b_lt dec_low dec_high sz on_iff)
def spq (q : Nat → Bool) (l : Bs) : Nat := (l.takeWhile fun c => q c.toNat).length
theorem spq_le (q : Nat → Bool) (l : Bs) : spq q l ≤ l.length := (List.takeWhile_sublist _).length_le
theorem spq_cons (q : Nat → Bool) (c : UInt8) (r : Bs) : spq q (c :: r) = if q c.toNat = true then spq q r + 1 else 0 := by
  unfold spq
  rw [List.takeWhile_cons]
  split <;> rfl
theorem spq_more {s : ByteArray} {q : Nat → Bool} {k N : Nat} (h : k < s.size) (hk : q (b s k) = true) (hN : k + spq q ((li s).drop k) = N) : k + 1 + spq q ((li s).drop (k + 1)) = N := by
  obtain ⟨c, hc, hb⟩ := li_drop s k h
  rw [hc, spq_cons, hb, if_pos hk] at hN
  omega
theorem spq_stop {s : ByteArray} {q : Nat → Bool} {k N : Nat} (h : k < s.size) (hk : q (b s k) = false) (hN : k + spq q ((li s).drop k) = N) : N = k := by
  obtain ⟨c, hc, hb⟩ := li_drop s k h
  rw [hc, spq_cons, hb, if_neg (by rw [hk]; simp)] at hN
  omega
theorem spq_end {s : ByteArray} {q : Nat → Bool} {k N : Nat} (h : ¬ k < s.size) (hN : k + spq q ((li s).drop k) = N) : N = k := by
  rw [List.drop_eq_nil_of_le (by rw [li_len]; omega)] at hN
  exact hN.symm
theorem spq_jump {s : ByteArray} {q : Nat → Bool} {N : Nat} : ∀ (n k : Nat), k + n ≤ s.size → (∀ j, j < n → q (b s (k + j)) = true) → k + spq q ((li s).drop k) = N → k + n + spq q ((li s).drop (k + n)) = N
  | 0, _, _, _, h => h
  | n + 1, k, h1, h2, h => by
    have e := spq_more (by omega) (by have := h2 0 (by omega); rwa [Nat.add_zero] at this) h
    have := spq_jump n (k + 1) (by omega) (fun j hj => by have := h2 (j + 1) (by omega); rwa [show k + (j + 1) = k + 1 + j by omega] at this) e
    rwa [show k + 1 + n = k + (n + 1) by omega] at this
set_option maxRecDepth 100000 in
set_option maxHeartbeats 2000000 in
theorem span_any (f : Nat) (q : Nat → Bool) (hh : Bool) (hq : ∀ r, 128 ≤ r → q r = hh) (he : ∀ (args : Array Value) (w : World), (callFunc f args).run Tryd.prog w = .ok (.enter f args) w) (hf : ∀ (r : Nat) w, Calls Tryd.prog f #[.int .i32 r] w fun e w' => e = .returned (.bool (q r)) ∧ Below w.heap.size w w') (s : ByteArray) (w : World) (hs : s.size ≤ 9223372036854775807) :
    Calls Tryd.prog 74 #[.string s, .func (.func f) #[] #[]] w fun e w' => e = .returned (.int .i64 (spq q (li s))) ∧ Below w.heap.size w w' := by
  obtain ⟨G, hG⟩ : ∃ G, spq q (li s) = G := ⟨_, rfl⟩
  have HG := Lib.hid hG
  rw [hG]
  clear hG
  go_enter Tryd.func74, Tryd.ntmps74
  go_wp2
  go_loopg [] s.size (fun gf wx => ∃ pos : Nat, wx.heap[w.heap.size]? = some (.stringIter s pos) ∧ Below w.heap.size w wx ∧ Hid (pos + spq q ((li s).drop pos) = G) ∧ s.size ≤ pos + gf ∧ pos ≤ s.size)
  case atStart => exact ⟨0, World.iter_heap w s 0, (Below.refl _ _).alloc (Nat.le_refl _) _, (by rw [List.drop_zero, Nat.zero_add]; exact HG.out), by omega, by omega⟩
  case round =>
    obtain ⟨pos, hit, hbw, HN, hfu, hps⟩ := hrel
    by_cases hlt : pos < s.size
    · obtain ⟨g', rfl⟩ : ∃ g', gk = g' + 1 := ⟨gk - 1, by omega⟩
      have hnx : ∀ ty, (Instr.next (.pointer (some ⟨w.heap.size, 0, none⟩)) true ty).run Tryd.prog wr = _ := fun ty => Lib.run_next_any_at wr w.heap.size s pos ty hit hlt
      obtain ⟨W, hW⟩ : ∃ W, wr.iterAt w.heap.size s (pos + (Utf8.decode s pos).2) = W := ⟨_, rfl⟩
      have hit2 := Lib.iterAt_heap wr w.heap.size s pos (pos + (Utf8.decode s pos).2) hit
      have hbw2 := Lib.below_iterAt hbw (k := w.heap.size) (Nat.le_refl _) s (pos + (Utf8.decode s pos).2)
      rw [hW] at hnx hit2 hbw2
      clear hW hit hbw
      have hstep : ∃ n R, 0 < n ∧ Utf8.decode s pos = (R, n) ∧ pos + n ≤ s.size ∧ (q R = true → ∀ j, j < n → q (b s (pos + j)) = true) ∧ (q R = false → q (b s pos) = false) := by
        by_cases hb : b s pos < 128
        · refine ⟨1, b s pos, by omega, dec_low s pos hlt hb, by omega, fun h j hj => ?_, fun h => h⟩
          rw [show j = 0 by omega, Nat.add_zero]; exact h
        · rcases dec_high s pos hlt (by omega) with ⟨_, hd⟩ | ⟨h1, h2, h3, h4⟩
          · refine ⟨1, (Utf8.decode s pos).1, by omega, by rw [hd], by omega, fun h j hj => ?_, fun h => ?_⟩
            · rw [show j = 0 by omega, Nat.add_zero, hq _ (by omega)]
              rw [← h, hd, hq _ (by decide)]
            · rw [hq _ (by omega)]
              rw [← h, hd, hq _ (by decide)]
          · refine ⟨sz s pos, (Utf8.decode s pos).1, by omega, by rw [← h3], h2, fun h j hj => ?_, fun h => ?_⟩
            · rw [hq _ (sz_high s pos (by omega) j hj), ← h, hq _ h4]
            · rw [hq _ (by omega), ← h, hq _ h4]
      obtain ⟨n, R, hn0, hd, hnle, hyes, hno⟩ := hstep
      rw [hd] at hnx hit2
      have hc := hf R
      cases hqr : q R
      · have hN := spq_stop hlt (hno hqr) HN.out
        subst hN
        rw [hqr] at hc
        clear HN hyes hno hqr hd hf hq HG
        go_wp2_with fail
        refine (hc _).mono ?_
        rintro e w' ⟨rfl, kb⟩
        go_wp2_with fail
        go_ret
        exact ⟨rfl, hbw2.trans (kb.mono hbw2.size)⟩
      · have HM := Lib.hid (spq_jump n pos hnle (hyes hqr) HN.out)
        rw [hqr] at hc
        clear HN hyes hno hqr hd hf hq
        go_wp2_with fail
        refine (hc _).mono ?_
        rintro e w' ⟨rfl, kb⟩
        have hit3 : w'.heap[w.heap.size]? = some (.stringIter s (pos + n)) := (kb.block w.heap.size (Array.getElem?_eq_some_iff.1 hit2).1).trans hit2
        have hbw3 := hbw2.trans (kb.mono hbw2.size)
        clear kb hit2 hbw2
        go_wp2_with fail
        go_roundg g'
        case measure => omega
        case rel => exact ⟨pos + n, hit3, hbw3, HM, by omega, by omega⟩
    · have hne : ∀ ty, (Instr.next (.pointer (some ⟨w.heap.size, 0, none⟩)) true ty).run Tryd.prog wr = _ := fun ty => Lib.run_next_end_at wr w.heap.size s pos ty hit hlt
      have hN := spq_end hlt HN.out
      have hN2 : G = s.size := by omega
      subst hN2
      clear HN HG hN hf hq
      go_wp2_with fail
      go_ret
      exact ⟨rfl, hbw⟩
end Rl
end Go.Proofs.YtddfjndclgapcaaDoor

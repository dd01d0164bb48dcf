/-
slices.Clone of literals, of clauses; At, Copy.
-/
import Derived.Test.YtlpahomaokopoaaCnfSo
namespace Go.Proofs.Ytlpahomaokopoaa
open Go.RowKit
set_option linter.unusedSimpArgs false
set_option linter.unusedVariables false
namespace Cn
set_option maxRecDepth 100000 in
set_option maxHeartbeats 2000000 in
theorem cloneLits_any (v : Value) (l : List Int) (w : World) (h : LitV w v l) (hl : l.length ≤ 1000000) :
    Calls Try.prog 27 #[v] w fun e w' => ∃ v', e = .returned v' ∧ Lt w' w.heap.size v' l ∧ Below w.heap.size w w' := by
  obtain ⟨h0, a, cap, rfl, hc, hm, hnil, hr⟩ := id h
  cases a with
  | none =>
    obtain rfl : cap = 0 := hnil rfl
    have : l = [] := List.eq_nil_of_length_eq_zero (by omega)
    subst this
    clear hr h
    have hq : ∀ w : World, (binOp BinOp.eql 22 (.slice none 0 0) (.slice none 0 0)).run Try.prog w = .ok (.bool true) w := fun w => by kernel_rfl
    go_enter Try.func27, Try.ntmps27
    go_wp2_with fail
    go_ret
    exact ⟨_, rfl, Lt.nil _ _, Below.refl _ _⟩
  | some ad =>
    have hB : Below w.heap.size w (w.alloc (.cells #[] 45)) := (Below.refl _ _).alloc (Nat.le_refl _) _
    have SRC := Lib.hid (h.below hB).src
    have OWN := Lib.hid (World.ownsRow_lit (base := w.heap.size) (e := 45) (size := 1) w #[] 0 (Nat.le_refl _) (by decide) rfl)
    have HB := Lib.hid hB
    have hsz := hB.size
    obtain ⟨i0, hi, hz0, hz1, hz2⟩ := info_parts infoLit
    have HI := Lib.hid hi
    have H0 := Lib.hid h0
    obtain ⟨N, hN⟩ : ∃ N, l.length = N := ⟨_, rfl⟩
    have HN := Lib.hid hN
    obtain ⟨CS, hCS⟩ : ∃ CS, lcells l = CS := ⟨_, rfl⟩
    have HCS := Lib.hid hCS
    rw [hCS] at SRC
    rw [hN] at hl SRC hc ⊢
    clear h hr hi hB hN hCS h0
    have hq : ∀ w : World, (binOp BinOp.eql 22 (.slice (some ad) N cap) (.slice none 0 0)).run Try.prog w = .ok (.bool false) w := fun w => by kernel_rfl
    go_enter Try.func27, Try.ntmps27
    go_wp2_with (at_builtin; refine Own.wpList_append_src rfl (.tmp 5) (.tmp 6) 22 22 rfl w.heap.size 45 i0 _ 1 8 Try.underlying22 HI.out hz0 hz1 hz2 rfl _ 0 [] rfl OWN.out _ N CS rfl SRC.out (by simp only [maxLen]; omega) (by omega) hsz ?_; intro v' w' o1 g1; have k1 : Below w.heap.size w w' := Own.below_grown HB.out OWN.out g1 hsz)
    have o2 : Lt w' w.heap.size v' l := ⟨H0.out, by rw [HN.out, HCS.out]; simpa using o1⟩
    clear o1 g1
    go_ret
    exact ⟨_, rfl, o2, k1⟩
set_option maxRecDepth 100000 in
set_option maxHeartbeats 2000000 in
theorem cloneLitss_any (v : Value) (n : Nat) (hs : List Value) (B : Nat) (w : World) (h : w.ownsRow B 22 1 v n hs) (hl : n ≤ 5000) (h1 : ∀ u ∈ hs, u.oneCell' = true) :
    Calls Try.prog 35 #[v] w fun e w' => ∃ v', e = .returned v' ∧ w'.ownsRow w.heap.size 22 1 v' n hs ∧ Below w.heap.size w w' := by
  have hlen : hs.length = n := by rw [h.1, Nat.mul_one]
  rcases Nat.eq_zero_or_pos n with hz | hz
  · subst hz
    have : hs = [] := List.eq_nil_of_length_eq_zero hlen
    subst this
    obtain ⟨a, cap, rfl, _, hm, hnil⟩ := own_shape h
    cases a with
    | none =>
      obtain rfl : cap = 0 := hnil rfl
      clear h
      have hq : ∀ w : World, (binOp BinOp.eql 28 (.slice none 0 0) (.slice none 0 0)).run Try.prog w = .ok (.bool true) w := fun w => by kernel_rfl
      go_enter Try.func35, Try.ntmps35
      go_wp2_with fail
      go_ret
      exact ⟨_, rfl, World.ownsRow_nil _ _ _ _, Below.refl _ _⟩
    | some ad =>
      have hB : Below w.heap.size w (w.alloc (.cells #[] 22)) := (Below.refl _ _).alloc (Nat.le_refl _) _
      have OWN := Lib.hid (World.ownsRow_lit (base := w.heap.size) (e := 22) (size := 1) w #[] 0 (Nat.le_refl _) (by decide) rfl)
      have SRC := Lib.hid (Src.ofSlice (P := Try.prog) (size := 1) (w.alloc (.cells #[] 22)) Try.underlying28 ad 0 cap [] rfl (fun j u hj => by simp at hj) (by simp))
      have HB := Lib.hid hB
      have hsz := hB.size
      obtain ⟨i0, hi, hz0, hz1, hz2⟩ := info_parts infoLits
      have HI := Lib.hid hi
      clear h hi hB
      have hq : ∀ w : World, (binOp BinOp.eql 28 (.slice (some ad) 0 cap) (.slice none 0 0)).run Try.prog w = .ok (.bool false) w := fun w => by kernel_rfl
      go_enter Try.func35, Try.ntmps35
      go_wp2_with (at_builtin; refine Own.wpList_append_src rfl (.tmp 5) (.tmp 6) 28 28 rfl w.heap.size 22 i0 _ 1 24 Try.underlying28 HI.out hz0 hz1 hz2 rfl _ 0 [] rfl OWN.out _ 0 [] rfl SRC.out (by simp only [maxLen]; omega) (by omega) hsz ?_; intro v' w' o1 g1; have k1 : Below w.heap.size w w' := Own.below_grown HB.out OWN.out g1 hsz)
      have o2 : w'.ownsRow w.heap.size 22 1 v' 0 [] := by simpa using o1
      clear o1 g1
      go_ret
      exact ⟨_, rfl, o2, k1⟩
  · obtain ⟨g, cap, rfl, hc⟩ := own_slice h hz
    have hB : Below w.heap.size w (w.alloc (.cells #[] 22)) := (Below.refl _ _).alloc (Nat.le_refl _) _
    have SRC := Lib.hid (Src.ofSlice (P := Try.prog) (size := 1) (w.alloc (.cells #[] 22)) Try.underlying28 ⟨g, 0, none⟩ n cap hs (by rw [hlen, Nat.mul_one]) (fun j u hj => by
      rw [Addr.add_mid, Nat.zero_add]; exact cell_on (own_cell h hj) hB) h1)
    have OWN := Lib.hid (World.ownsRow_lit (base := w.heap.size) (e := 22) (size := 1) w #[] 0 (Nat.le_refl _) (by decide) rfl)
    have HB := Lib.hid hB
    have hsz := hB.size
    obtain ⟨i0, hi, hz0, hz1, hz2⟩ := info_parts infoLits
    have HI := Lib.hid hi
    clear h hi hB hlen h1
    have hq : ∀ w : World, (binOp BinOp.eql 28 (.slice (some ⟨g, 0, none⟩) n cap) (.slice none 0 0)).run Try.prog w = .ok (.bool false) w := fun w => by kernel_rfl
    go_enter Try.func35, Try.ntmps35
    go_wp2_with (at_builtin; refine Own.wpList_append_src rfl (.tmp 5) (.tmp 6) 28 28 rfl w.heap.size 22 i0 _ 1 24 Try.underlying28 HI.out hz0 hz1 hz2 rfl _ 0 [] rfl OWN.out _ n hs rfl SRC.out (by simp only [maxLen]; omega) (by omega) hsz ?_; intro v' w' o1 g1; have k1 : Below w.heap.size w w' := Own.below_grown HB.out OWN.out g1 hsz)
    have o2 : w'.ownsRow w.heap.size 22 1 v' n hs := by simpa using o1
    clear o1 g1
    go_ret
    exact ⟨_, rfl, o2, k1⟩
set_option maxHeartbeats 2000000 in
/-- At, of a place. -/
theorem at_any {B p : Nat} {v : Value} {n : Nat} {L : List (List Int)} {w : World} (h : CSet w B p v n L) (i : Nat) (c : List Int) (hi : L[i]? = some c) :
    Calls Try.prog 22 #[.pointer (some ⟨p, 0, none⟩), .int .i64 i] w fun e w' => ∃ v', e = .returned v' ∧ Lt w' w.heap.size v' c ∧ Below w.heap.size w w' := by
  have c1 : w.cell? ⟨p, 1, none⟩ = some v := h.is.at (i := 1) rfl
  have hlen := h.len
  have hlt : i < L.length := (List.getElem?_eq_some_iff.1 hi).1
  obtain ⟨g, cap, u, rfl, cu, hu⟩ := h.rows.at hi
  have hsm := h.small c (List.mem_of_getElem? hi)
  have cl := len_any h
  have cc := cloneLits_any u c w hu.lit (by omega)
  obtain ⟨ua, ucap, rfl⟩ := hu.lit.shape
  obtain ⟨N, hN⟩ : ∃ N, L.length = N := ⟨_, rfl⟩
  obtain ⟨C, hC⟩ : ∃ C, c.length = C := ⟨_, rfl⟩
  rw [hN] at c1 cl hlt hlen
  rw [hC] at cc cu
  have g1 : decide ((i : Int) < 0) = false := by simp
  have g2 : decide ((i : Int) ≥ (N : Int)) = false := by simp; omega
  have hi0 : (0 : Int) ≤ i := by omega
  have hiN : (i : Int) < N := by omega
  clear h hi hu hsm hN hC
  go_enter Try.func22, Try.ntmps22
  go_wp2_with fail
  refine cl.mono ?_
  rintro e w' ⟨rfl, rfl⟩
  go_wp2_with fail
  refine cc.mono ?_
  rintro e w' ⟨v', rfl, k1, k2⟩
  have K1 := Lib.hid k1
  have K2 := Lib.hid k2
  clear k1 k2
  go_wp2_with fail
  go_ret
  exact ⟨_, rfl, K1.out, K2.out⟩
set_option maxHeartbeats 2000000 in
/-- At, of no place. -/
theorem at_none {B p : Nat} {v : Value} {n : Nat} {L : List (List Int)} {w : World} (h : CSet w B p v n L) (i : Int) (hi : i < 0 ∨ (L.length : Int) ≤ i) :
    Calls Try.prog 22 #[.pointer (some ⟨p, 0, none⟩), .int .i64 i] w fun e w' => e = .returned (.slice none 0 0) ∧ w' = w := by
  have cl := len_any h
  have hlen := h.len
  obtain ⟨N, hN⟩ : ∃ N, L.length = N := ⟨_, rfl⟩
  rw [hN] at cl hlen hi
  clear h hN
  by_cases h0 : i < 0
  · have g1 : decide (i < 0) = true := by simp; omega
    clear h0 hi cl
    go_enter Try.func22, Try.ntmps22
    go_wp2_with fail
    go_ret
    exact ⟨rfl, rfl⟩
  · have g1 : decide (i < 0) = false := by simp; omega
    have g2 : decide (i ≥ (N : Int)) = true := by simp; omega
    clear h0 hi
    go_enter Try.func22, Try.ntmps22
    go_wp2_with fail
    refine cl.mono ?_
    rintro e w' ⟨rfl, rfl⟩
    go_wp2_with fail
    go_ret
    exact ⟨rfl, rfl⟩
theorem at_nil (w : World) : Calls Try.prog 22 #[.pointer none, .int .i64 0] w fun e w' => e = .returned (.slice none 0 0) ∧ w' = w := by
  have cl := len_nil w
  go_enter Try.func22, Try.ntmps22
  go_wp2_with fail
  refine cl.mono ?_
  rintro e w' ⟨rfl, rfl⟩
  go_wp2_with fail
  go_ret
  exact ⟨rfl, rfl⟩
theorem copy_nil (w : World) : Calls Try.prog 24 #[.pointer none] w fun e w' => e = .returned (.pointer none) ∧ w' = w := by
  go_enter Try.func24, Try.ntmps24
  go_wp2_with fail
  go_ret
  exact ⟨rfl, rfl⟩
end Cn
end Go.Proofs.Ytlpahomaokopoaa

/-
Does a literal hold in a model; does a set; its length, its variables; a new one.
-/
import Derived.Test.YtlpahomaokopoaaCnfLits
namespace Go.Proofs.Ytlpahomaokopoaa
open Go.RowKit
set_option linter.unusedSimpArgs false
set_option linter.unusedVariables false
namespace Cn
theorem wrap_id {x : Int} (h1 : -9223372036854775808 ≤ x) (h2 : x ≤ 9223372036854775807) : IntKind.i64.wrap x = x := by rw [IntKind.wrap]; simp [IntKind.bits, IntKind.signed]; omega
set_option maxHeartbeats 4000000 in
theorem isSo_any (mv : Value) (m : List Bool) (x : Int) (w : World) (hm : BoolV w mv m) (h0 : x ≠ 0) (h1 : x.natAbs ≤ 200) :
    Calls Try.prog 38 #[mv, .int .i64 x] w fun e w' => e = .returned (.bool (so m x)) ∧ w' = w := by
  obtain ⟨a, cap, rfl, hc, hc2, hr⟩ := hm
  have e0 : IntKind.i64.wrap (-x) = -x := wrap_id (by omega) (by omega)
  obtain ⟨k, hk⟩ : ∃ k : Nat, x.natAbs = k + 1 := ⟨x.natAbs - 1, by omega⟩
  obtain ⟨N, hN⟩ : ∃ N, m.length = N := ⟨_, rfl⟩
  obtain ⟨G, hG⟩ : ∃ G, so m x = G := ⟨_, rfl⟩
  rw [hG]
  unfold so at hG
  rw [show x.natAbs - 1 = k by omega] at hG
  rw [hN] at hr hc ⊢
  by_cases hlt : k < N
  · obtain ⟨b, off, rfl, hcell⟩ := hr (by omega)
    obtain ⟨y, hy⟩ : ∃ y, m[k]? = some y := ⟨m[k]'(by omega), List.getElem?_eq_getElem _⟩
    have c1 := hcell k y hy
    have hGy : (y == decide (0 < x)) = G := by rw [← hG, List.getD_eq_getElem?_getD, hy]; rfl
    have HG := Lib.hid hGy
    clear hGy hG hcell hy hr hN
    by_cases hx : 0 < x
    · have g2 : decide (x > 0) = true := by simp; omega
      have g3 : decide (0 < x) = true := by simp; omega
      have hcmp : ¬ x < -x := by omega
      have hkx : k = (x).toNat - 1 := by omega
      rw [g3] at HG
      have hl1 : x - 1 < (N : Int) := by omega
      have hl0 : 0 ≤ x - 1 := by omega
      rw [hkx] at c1
      clear hkx hlt g3
      go_enter Try.func38, Try.ntmps38
      go_wp2_with fail
      go_ret
      exact ⟨by rw [← HG.out]; first | rfl | simp, rfl⟩
    · have g2 : decide (x > 0) = false := by simp; omega
      have g3 : decide (0 < x) = false := by simp; omega
      have hcmp : x < -x := by omega
      have hkx : k = (-x).toNat - 1 := by omega
      rw [g3] at HG
      have hl1 : -x - 1 < (N : Int) := by omega
      have hl0 : 0 ≤ -x - 1 := by omega
      rw [hkx] at c1
      clear hkx hlt g3
      go_enter Try.func38, Try.ntmps38
      go_wp2_with fail
      go_ret
      exact ⟨by rw [← HG.out]; first | rfl | simp, rfl⟩
  · have hGy : (false == decide (0 < x)) = G := by rw [← hG, List.getD_eq_getElem?_getD, List.getElem?_eq_none (by omega)]; rfl
    have HG := Lib.hid hGy
    clear hGy hG hr hN
    by_cases hx : 0 < x
    · have g2 : decide (x > 0) = true := by simp; omega
      have g3 : decide (0 < x) = true := by simp; omega
      have hcmp : ¬ x < -x := by omega
      have hkx : k = (x).toNat - 1 := by omega
      rw [g3] at HG
      have hl1 : ¬ (x - 1 < (N : Int)) := by omega
      clear hkx hlt g3
      go_enter Try.func38, Try.ntmps38
      go_wp2_with fail
      go_ret
      exact ⟨by rw [← HG.out]; first | rfl | simp, rfl⟩
    · have g2 : decide (x > 0) = false := by simp; omega
      have g3 : decide (0 < x) = false := by simp; omega
      have hcmp : x < -x := by omega
      have hkx : k = (-x).toNat - 1 := by omega
      rw [g3] at HG
      have hl1 : ¬ (-x - 1 < (N : Int)) := by omega
      clear hkx hlt g3
      go_enter Try.func38, Try.ntmps38
      go_wp2_with fail
      go_ret
      exact ⟨by rw [← HG.out]; first | rfl | simp, rfl⟩
set_option maxHeartbeats 2000000 in
theorem holdsF_any (b : Nat) (mv : Value) (m : List Bool) (x : Int) (w : World) (hb : w.cell? ⟨b, 0, none⟩ = some mv) (hm : BoolV w mv m) (h0 : x ≠ 0) (h1 : x.natAbs ≤ 200) :
    Calls Try.prog 37 #[.int .i64 x, .pointer (some ⟨b, 0, none⟩)] w fun e w' => e = .returned (.bool (so m x)) ∧ Below w.heap.size w w' := by
  have cc := isSo_any mv m x w hm h0 h1
  obtain ⟨a, cap, rfl⟩ := hm.shape
  obtain ⟨G, hG⟩ : ∃ G, so m x = G := ⟨_, rfl⟩
  obtain ⟨N, hN⟩ : ∃ N, m.length = N := ⟨_, rfl⟩
  rw [hN] at hb cc
  rw [hG] at cc ⊢
  clear hG hm hN
  go_enter Try.func37, Try.ntmps37
  go_wp2_with fail
  refine cc.mono ?_
  rintro e w' ⟨rfl, rfl⟩
  go_wp2_with fail
  go_ret
  exact ⟨rfl, Below.refl _ _⟩
set_option maxHeartbeats 4000000 in
theorem holds_any (p : Nat) (v : Value) (n : Nat) (L : List (List Int)) (B : Nat) (mv : Value) (m : List Bool) (w : World) (h : CSet w B p v n L) (hm : BoolV w mv m) :
    Calls Try.prog 25 #[.pointer (some ⟨p, 0, none⟩), mv] w fun e w' => e = .returned (.bool (holds m L)) ∧ Below w.heap.size w w' := by
  obtain ⟨ma, mcap, rfl⟩ := hm.shape
  obtain ⟨M, hM⟩ : ∃ M, m.length = M := ⟨_, rfl⟩
  rw [hM] at hm ⊢
  have hb1 := (Below.refl w.heap.size w).alloc (Nat.le_refl _) (.cells #[.slice ma M mcap] 29)
  have i1 := Blk.Is.new w 29 #[.slice ma M mcap]
  obtain ⟨W1, hW1⟩ : ∃ W1, w.alloc (.cells #[.slice ma M mcap] 29) = W1 := ⟨_, rfl⟩
  rw [hW1] at hb1 i1
  have hs1 := h.below hb1
  have c1 : W1.cell? ⟨p, 1, none⟩ = some v := hs1.is.at (i := 1) rfl
  have cb := i1.at (i := 0) rfl
  have CB := Lib.hid cb
  have hm1 := hm.below hb1
  obtain ⟨va, vcap, rfl, _, hvm⟩ := h.rows.shape
  obtain ⟨N, hN⟩ : ∃ N, L.length = N := ⟨_, rfl⟩
  have HN := Lib.hid hN
  have hlen := h.len
  rw [hN] at c1 hlen hs1 h
  have HM := Lib.hid hm1
  have HS := Lib.hid hs1
  have HB1 := Lib.hid hb1
  have HOK := Lib.hid h.okay
  have hn2 := h.vars
  have hu := hW1
  obtain ⟨G, hG⟩ : ∃ G, holds m L = G := ⟨_, rfl⟩
  have HG := Lib.hid hG
  rw [hG]
  clear hG hN h hm hm1 hs1 hb1 i1 hW1 hM cb
  have eg : ∀ args w, (callFunc 37 args).run Try.prog w = .ok (.enter 37 args) w := enters_of Try.func37 (by kernel_rfl) rfl
  go_enter Try.func25, Try.ntmps25
  go_wp2_with fail
  clear hu c1
  go_loopg [14] N (fun gf s14 wx => ∃ k : Nat, s14 = .int .i64 k ∧ Hid (Below W1.heap.size W1 wx) ∧ Hid (holds m (L.take k) = true) ∧ k ≤ N ∧ N ≤ k + gf)
  case atStart => exact ⟨0, rfl, Below.refl _ _, by rw [List.take_zero]; exact Lib.hid rfl, by omega, by omega⟩
  case round =>
    obtain ⟨k, rfl, HB, HA, hkn, hfu⟩ := hrel
    by_cases hlk : k < N
    · obtain ⟨g', rfl⟩ : ∃ g', gk = g' + 1 := ⟨gk - 1, by omega⟩
      have hlk' : (k : Int) < (N : Int) := by omega
      have hk0 : (0 : Int) ≤ k := by omega
      have hkl : k < L.length := by rw [HN.out]; exact hlk
      obtain ⟨c, hcx⟩ : ∃ c, L[k]? = some c := ⟨L[k], List.getElem?_eq_getElem _⟩
      obtain ⟨g, gcap, u, e1, cu, hlu⟩ := HS.out.rows.at hcx
      simp only [Value.slice.injEq] at e1
      obtain ⟨rfl, eN, rfl⟩ := e1
      clear eN
      have c2 := cell_on cu HB.out
      have hok : ∀ x ∈ c, x ≠ 0 ∧ x.natAbs ≤ 200 := fun x hx => by
        have := HOK.out c (List.mem_of_getElem? hcx) x hx
        omega
      have hlv := (hlu.below HB.out).lit
      have cc := contains_any 37 #[.pointer (some ⟨w.heap.size, 0, none⟩)] eg (so m) u c wr hlv (fun W x hx hb => holdsF_any w.heap.size (.slice ma M mcap) m x W (cell_on (cell_on CB.out HB.out) hb) ((HM.out.below HB.out).below hb) (hok x hx).1 (hok x hx).2)
      obtain ⟨ca, ccap, rfl⟩ := hlv.shape
      obtain ⟨cl, hcl⟩ : ∃ cl, c.length = cl := ⟨_, rfl⟩
      rw [hcl] at c2 cc
      obtain ⟨Gc, hGc⟩ : ∃ Gc, c.any (so m) = Gc := ⟨_, rfl⟩
      rw [hGc] at cc
      have HGC := Lib.hid hGc
      have HCX := Lib.hid hcx
      clear cu hlu hok hlv hcl hGc hcx hkl
      cases Gc with
      | false =>
        have hg : G = false := by
          rw [← HG.out]
          unfold holds
          rw [List.all_eq_false]
          exact ⟨c, List.mem_of_getElem? HCX.out, by unfold holdsC; rw [HGC.out]; decide⟩
        subst hg
        go_wp2_with fail
        refine cc.mono ?_
        rintro e w' ⟨rfl, k1⟩
        have K1 := Lib.hid (HB1.out.trans ((HB.out.trans (k1.mono HB.out.size)).mono HB1.out.size))
        clear k1
        go_wp2_with fail
        go_ret
        exact ⟨rfl, K1.out⟩
      | true =>
        go_wp2_with fail
        refine cc.mono ?_
        rintro e w' ⟨rfl, k1⟩
        have HB2 := Lib.hid (HB.out.trans (k1.mono HB.out.size))
        have HA2 : Hid (holds m (L.take (k + 1)) = true) := by
          refine Lib.hid ?_
          have := HA.out
          unfold holds at this ⊢
          rw [List.take_add_one, List.all_append, this, HCX.out]
          simp [holdsC, HGC.out]
        clear k1 c2
        go_wp2_with fail
        go_roundg g'
        case measure => omega
        case rel => exact ⟨k + 1, by go_num, HB2, HA2, by omega, by omega⟩
    · obtain rfl : k = N := by omega
      have hge : ¬ (k : Int) < (k : Int) := by omega
      have hg : G = true := by
        rw [← HG.out, ← HA.out, ← HN.out, List.take_length]
      subst hg
      go_wp2_with fail
      go_ret
      exact ⟨rfl, HB1.out.trans (HB.out.mono HB1.out.size)⟩
theorem holds_nil (mv : Value) (m : List Bool) (w : World) (hm : BoolV w mv m) :
    Calls Try.prog 25 #[.pointer none, mv] w fun e w' => e = .returned (.bool false) ∧ Below w.heap.size w w' := by
  obtain ⟨ma, mcap, rfl⟩ := hm.shape
  obtain ⟨M, hM⟩ : ∃ M, m.length = M := ⟨_, rfl⟩
  rw [hM]
  have HB1 := Lib.hid ((Below.refl w.heap.size w).alloc (Nat.le_refl _) (.cells #[.slice ma M mcap] 29))
  clear hm hM
  go_enter Try.func25, Try.ntmps25
  go_wp2_with fail
  go_ret
  exact ⟨rfl, HB1.out⟩
theorem len_any {B p : Nat} {v : Value} {n : Nat} {L : List (List Int)} {w : World} (h : CSet w B p v n L) :
    Calls Try.prog 21 #[.pointer (some ⟨p, 0, none⟩)] w fun e w' => e = .returned (.int .i64 L.length) ∧ w' = w := by
  have c1 : w.cell? ⟨p, 1, none⟩ = some v := h.is.at (i := 1) rfl
  obtain ⟨va, vcap, rfl, _⟩ := h.rows.shape
  obtain ⟨N, hN⟩ : ∃ N, L.length = N := ⟨_, rfl⟩
  rw [hN] at c1 ⊢
  clear h hN
  go_enter Try.func21, Try.ntmps21
  go_wp2
  go_ret
  exact ⟨rfl, rfl⟩
theorem len_nil (w : World) : Calls Try.prog 21 #[.pointer none] w fun e w' => e = .returned (.int .i64 0) ∧ w' = w := by
  go_enter Try.func21, Try.ntmps21
  go_wp2
  go_ret
  exact ⟨rfl, rfl⟩
theorem vars_any {B p : Nat} {v : Value} {n : Nat} {L : List (List Int)} {w : World} (h : CSet w B p v n L) :
    Calls Try.prog 16 #[.pointer (some ⟨p, 0, none⟩)] w fun e w' => e = .returned (.int .i64 n) ∧ w' = w := by
  have c1 : w.cell? ⟨p, 0, none⟩ = some (.int .i64 n) := h.is.at (i := 0) rfl
  clear h
  go_enter Try.func16, Try.ntmps16
  go_wp2
  go_ret
  exact ⟨rfl, rfl⟩
theorem vars_nil (w : World) : Calls Try.prog 16 #[.pointer none] w fun e w' => e = .returned (.int .i64 0) ∧ w' = w := by
  go_enter Try.func16, Try.ntmps16
  go_wp2
  go_ret
  exact ⟨rfl, rfl⟩
/-- How many variables New makes of a number. -/
def vars (n : Int) : Nat := min n.toNat 200
theorem new_any (n : Int) (w : World) :
    Calls Try.prog 14 #[.int .i64 n] w fun e w' => e = .returned (.pointer (some ⟨w.heap.size, 0, none⟩)) ∧ w'.heap.size = w.heap.size + 1 ∧ CSet w' w.heap.size w.heap.size (.slice none 0 0) (vars n) [] ∧ Below w.heap.size w w' := by
  have key : ∀ z : Int, z = ((vars n : Nat) : Int) → (w.alloc (.cells #[.int .i64 z, .slice none 0 0] 55)).heap.size = w.heap.size + 1 ∧ CSet (w.alloc (.cells #[.int .i64 z, .slice none 0 0] 55)) w.heap.size w.heap.size (.slice none 0 0) (vars n) [] ∧ Below w.heap.size w (w.alloc (.cells #[.int .i64 z, .slice none 0 0] 55)) := by
    rintro z rfl
    exact ⟨by simp, ⟨Blk.Is.new w 55 _, Nat.le_refl _, Rows2.nil _ _, by unfold vars; omega, by simp, okay_nil _, fun c hc => by simp at hc⟩, (Below.refl _ _).alloc (Nat.le_refl _) _⟩
  have HK := Lib.hid key
  clear key
  obtain ⟨V, hV⟩ : ∃ V, vars n = V := ⟨_, rfl⟩
  have HV := Lib.hid hV
  rw [hV] at HK ⊢
  clear hV
  go_enter Try.func14, Try.ntmps14
  go_wp2_with fail
  all_goals (go_ret; refine ⟨rfl, HK.out _ ?_⟩; rw [← HV.out]; unfold vars; omega)
end Cn
end Go.Proofs.Ytlpahomaokopoaa

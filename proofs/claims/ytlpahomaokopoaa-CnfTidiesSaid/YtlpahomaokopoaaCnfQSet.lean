/-
The reference's sets: new ones, what may be, what holds; are two rows of literals the same?
-/
import Derived.Test.YtlpahomaokopoaaCnfAdd
import Derived.Test.YtlpahomaokopoaaCnfQTidy
namespace Go.Proofs.Ytlpahomaokopoaa
open Go.RowKit
set_option linter.unusedSimpArgs false
set_option linter.unusedVariables false
namespace Cn
theorem qnew_any (n : Int) (w : World) :
    Calls Try.prog 15 #[.int .i64 n] w fun e w' => e = .returned (.pointer (some ⟨w.heap.size, 0, none⟩)) ∧ w'.heap.size = w.heap.size + 1 ∧ QSet w' w.heap.size w.heap.size (.slice none 0 0) (vars n) [] ∧ Below w.heap.size w w' := by
  have key : ∀ z : Int, z = ((vars n : Nat) : Int) → (w.alloc (.cells #[.int .i64 z, .slice none 0 0] 36)).heap.size = w.heap.size + 1 ∧ QSet (w.alloc (.cells #[.int .i64 z, .slice none 0 0] 36)) w.heap.size w.heap.size (.slice none 0 0) (vars n) [] ∧ Below w.heap.size w (w.alloc (.cells #[.int .i64 z, .slice none 0 0] 36)) := by
    rintro z rfl
    exact ⟨by simp, ⟨Blk.Is.new w 36 _, Nat.le_refl _, Rows2.nil _ _, by unfold vars; omega, by simp, okay_nil _, fun c hc => by simp at hc⟩, (Below.refl _ _).alloc (Nat.le_refl _) _⟩
  have HK := Lib.hid key
  clear key
  obtain ⟨V, hV⟩ : ∃ V, vars n = V := ⟨_, rfl⟩
  have HV := Lib.hid hV
  rw [hV] at HK ⊢
  clear hV
  go_enter Try.func15, Try.ntmps15
  go_wp2_with fail
  all_goals (go_ret; refine ⟨rfl, HK.out _ ?_⟩; rw [← HV.out]; unfold vars; omega)
theorem below_drewN (w : World) (n : Nat) : Below w.heap.size w (w.drewN n) := ⟨rfl, rfl, rfl, Nat.le_refl _, fun _ _ => rfl⟩
set_option maxHeartbeats 4000000 in
theorem qmay_any {B p : Nat} {v : Value} {n : Nat} {L : List (List Int)} {w : World} (h : QSet w B p v n L) (x : Int) (hx : I64 x) :
    Calls Try.prog 34 #[.pointer (some ⟨p, 0, none⟩), .int .i64 x] w fun e w' => e = .returned (.bool (may n x)) ∧ Below w.heap.size w w' := by
  have c0 : w.cell? ⟨p, 0, none⟩ = some (.int .i64 n) := h.is.at (i := 0) rfl
  have hv := h.vars
  have e0 : IntKind.u64.wrap (n : Int) = n := by simp [IntKind.wrap, IntKind.bits, IntKind.signed]; omega
  obtain ⟨G, hG⟩ : ∃ G, may n x = G := ⟨_, rfl⟩
  rw [hG]
  unfold may at hG
  clear h
  by_cases h0 : x = 0
  · have g0 : (x != 0) = false := by simp [h0]
    have g9 : G = false := by rw [← hG]; simp [h0]
    subst g9
    clear h0 hG
    go_enter Try.func34, Try.ntmps34
    go_wp2_with fail
    go_quiet (fail)
    have HB := Lib.hid (below_drewN w nq)
    generalize w.drewN nq = wd at *
    go_wp2_with fail
    go_ret
    exact ⟨rfl, HB.out⟩
  · have g0 : (x != 0) = true := by simp [h0]
    have cs := fun W => size_any x W hx
    have g9 : G = decide (x.natAbs ≤ n) := by rw [← hG]; simp [h0]
    obtain ⟨X, hX⟩ : ∃ X, x.natAbs = X := ⟨_, rfl⟩
    rw [hX] at cs g9
    have HG := Lib.hid g9
    have hq := Lib.hid cs
    clear h0 hG hX hx cs g9
    go_enter Try.func34, Try.ntmps34
    go_wp2_with fail
    go_quiet ((with_reducible exact Calls.quiet_of_same (hq.out _)))
    have HB := Lib.hid (below_drewN w nq)
    generalize w.drewN nq = wd at *
    go_wp2_with fail
    go_ret
    exact ⟨by rw [HG.out]; rfl, HB.out⟩
set_option maxHeartbeats 4000000 in
theorem sameLits_any (v u : Value) (l r : List Int) (w : World) (h1 : LitV w v l) (h2 : LitV w u r) :
    Calls Try.prog 13 #[v, u] w fun e w' => e = .returned (.bool (decide (l = r))) ∧ Below w.heap.size w w' := by
  have hb1 := h1.len
  obtain ⟨_, a1, c1, rfl, hc1, _, _, q1⟩ := h1
  obtain ⟨_, a2, c2, rfl, hc2, _, _, q2⟩ := h2
  obtain ⟨n, hn⟩ : ∃ n, l.length = n := ⟨_, rfl⟩
  obtain ⟨m, hm⟩ : ∃ m, r.length = m := ⟨_, rfl⟩
  have HN := Lib.hid hn
  have HM := Lib.hid hm
  rw [hn] at hc1 q1 hb1 ⊢
  rw [hm] at hc2 q2 ⊢
  have Q1 := Lib.hid q1
  have Q2 := Lib.hid q2
  obtain ⟨G, hG⟩ : ∃ G, decide (l = r) = G := ⟨_, rfl⟩
  have HG := Lib.hid hG
  rw [hG]
  clear hG hn hm q1 q2 hc1 hc2
  by_cases hnm : n = m
  · subst hnm
    have g0 : ((n : Int) != (n : Int)) = false := by simp
    go_enter Try.func13, Try.ntmps13
    go_wp2_with fail
    go_loopg [13] n (fun gf s13 wx => ∃ k : Nat, s13 = .int .i64 k ∧ Hid (Below w.heap.size w wx) ∧ Hid (∀ j, j < k → l[j]? = r[j]?) ∧ k ≤ n ∧ n ≤ k + gf)
    case atStart => exact ⟨0, rfl, Below.refl _ _, Lib.hid (fun j hj => absurd hj (by omega)), by omega, by omega⟩
    case round =>
      obtain ⟨k, rfl, HB, HE, hkn, hfu⟩ := hrel
      by_cases hlk : k < n
      · obtain ⟨g', rfl⟩ : ∃ g', gk = g' + 1 := ⟨gk - 1, by omega⟩
        have hlk' : (k : Int) < (n : Int) := by omega
        have hk0 : (0 : Int) ≤ k := by omega
        obtain ⟨x, hx⟩ : ∃ x, l[k]? = some x := ⟨l[k]'(by rw [HN.out]; exact hlk), List.getElem?_eq_getElem _⟩
        obtain ⟨y, hy⟩ : ∃ y, r[k]? = some y := ⟨r[k]'(by rw [HM.out]; exact hlk), List.getElem?_eq_getElem _⟩
        obtain ⟨b1, o1, rfl, p1⟩ := Q1.out (by omega)
        obtain ⟨b2, o2, rfl, p2⟩ := Q2.out (by omega)
        have hbd := HB.out.trans ((Below.refl wr.heap.size wr).drew.mono HB.out.size)
        have y1 := cell_on (p1 k x hx) hbd
        have y2 := cell_on (p2 k y hy) hbd
        have HX := Lib.hid hx
        have HY := Lib.hid hy
        have HB2 := Lib.hid hbd
        clear hbd p1 p2 hx hy
        by_cases hxy : x = y
        · have hne : (x != y) = false := by simp [hxy]
          have HE2 : Hid (∀ j, j < k + 1 → l[j]? = r[j]?) := Lib.hid (fun j hj => by
            by_cases e : j = k
            · subst e; rw [HX.out, HY.out, hxy]
            · exact HE.out j (by omega))
          clear HB hxy HE
          go_wp2_with fail
          go_region
          generalize wr.drew = Vd at *
          clear y1 y2 hne
          go_wp2_with fail
          go_roundg g'
          case measure => omega
          case rel => exact ⟨k + 1, by go_num, HB2, HE2, by omega, by omega⟩
        · have hne : (x != y) = true := by simp [hxy]
          have hg : G = false := by
            rw [← HG.out, decide_eq_false_iff_not]
            intro e
            subst e
            exact hxy (Option.some.inj (HX.out.symm.trans HY.out))
          subst hg
          clear HB hxy HE
          go_wp2_with fail
          go_region
          generalize wr.drew = Vd at *
          clear y1 y2 hne
          go_wp2_with fail
          go_ret
          exact ⟨rfl, HB2.out⟩
      · obtain rfl : k = n := by omega
        have hge : ¬ (k : Int) < (k : Int) := by omega
        have hg : G = true := by
          rw [← HG.out, decide_eq_true_eq]
          apply List.ext_getElem?
          intro j
          by_cases hj : j < k
          · exact HE.out j hj
          · rw [List.getElem?_eq_none (by rw [HN.out]; omega), List.getElem?_eq_none (by rw [HM.out]; omega)]
        subst hg
        go_wp2_with fail
        go_ret
        exact ⟨rfl, HB.out⟩
  · have g0 : ((n : Int) != (m : Int)) = true := by simp; omega
    have hg : G = false := by
      rw [← HG.out, decide_eq_false_iff_not]
      intro e
      subst e
      exact hnm (HN.out.symm.trans HM.out)
    subst hg
    clear hnm
    go_enter Try.func13, Try.ntmps13
    go_wp2_with fail
    go_ret
    exact ⟨rfl, Below.refl _ _⟩
set_option maxHeartbeats 4000000 in
theorem qso_any (mv : Value) (m : List Bool) (x : Int) (w : World) (hm : BoolV w mv m) (h0 : x ≠ 0) (h1 : x.natAbs ≤ 200) :
    Calls Try.prog 39 #[mv, .int .i64 x] w fun e w' => e = .returned (.bool (so m x)) ∧ w' = w := by
  have cs := size_any x w (by unfold I64; omega)
  obtain ⟨a, cap, rfl, hc, hc2, hr⟩ := hm
  obtain ⟨k, hk⟩ : ∃ k : Nat, x.natAbs = k + 1 := ⟨x.natAbs - 1, by omega⟩
  obtain ⟨N, hN⟩ : ∃ N, m.length = N := ⟨_, rfl⟩
  obtain ⟨G, hG⟩ : ∃ G, so m x = G := ⟨_, rfl⟩
  rw [hG]
  unfold so at hG
  rw [show x.natAbs - 1 = k by omega] at hG
  rw [hN] at hr hc ⊢
  rw [hk] at cs
  have e1 : IntKind.u64.wrap (((k + 1 : Nat) : Int) - 1) = k := by simp [IntKind.wrap, IntKind.bits, IntKind.signed]; omega
  have e2 : IntKind.u64.wrap (N : Int) = N := by simp [IntKind.wrap, IntKind.bits, IntKind.signed]; omega
  have hkb : k ≤ 200 := by omega
  clear hk h1
  have hGy : (decide (k < N) && m.getD k false) = m.getD k false := by
    by_cases hlt : k < N
    · simp [hlt]
    · rw [List.getD_eq_getElem?_getD, List.getElem?_eq_none (by omega)]; simp
  obtain ⟨P0, hP0⟩ : ∃ P0, decide (0 < x) = P0 := ⟨_, rfl⟩
  have g2 : decide (x > 0) = P0 := hP0
  rw [hP0] at hG
  clear hP0 h0
  by_cases hlt : k < N
  · obtain ⟨b, off, rfl, hcell⟩ := hr (by omega)
    obtain ⟨y, hy⟩ : ∃ y, m[k]? = some y := ⟨m[k]'(by omega), List.getElem?_eq_getElem _⟩
    have c1 := hcell k y hy
    have hl1 : (k : Int) < (N : Int) := by omega
    have hl0 : (0 : Int) ≤ (k : Int) := by omega
    have hg : (y == P0) = G := by rw [← hG, List.getD_eq_getElem?_getD, hy]; rfl
    have HG := Lib.hid hg
    clear hg hG hGy hcell hy hr hN
    go_enter Try.func39, Try.ntmps39
    go_wp2_with fail
    refine cs.mono ?_
    rintro e w' ⟨rfl, rfl⟩
    go_wp2_with fail
    go_ret
    exact ⟨by rw [← HG.out]; first | rfl | simp | simp_all, rfl⟩
  · have hl1 : ¬ (k : Int) < (N : Int) := by omega
    have hg : (false == P0) = G := by rw [← hG, List.getD_eq_getElem?_getD, List.getElem?_eq_none (by omega)]; rfl
    have HG := Lib.hid hg
    clear hg hG hGy hr hN
    go_enter Try.func39, Try.ntmps39
    go_wp2_with fail
    refine cs.mono ?_
    rintro e w' ⟨rfl, rfl⟩
    go_wp2_with fail
    go_ret
    exact ⟨by rw [← HG.out]; first | rfl | simp | simp_all, rfl⟩
end Cn
end Go.Proofs.Ytlpahomaokopoaa

/-
What is a literal; what a row of literals contains; is there room.
-/
import Derived.Test.YtlpahomaokopoaaCnfKit
namespace Go.Proofs.Ytlpahomaokopoaa
open Go.RowKit
set_option linter.unusedSimpArgs false
set_option linter.unusedVariables false
namespace Cn
set_option maxHeartbeats 2000000 in
theorem isLit_any (p : Nat) (v : Value) (n : Nat) (x : Int) (w : World) (h : Blk.Is w p 55 #[.int .i64 n, v]) (hn : n ≤ 200) :
    Calls Try.prog 46 #[.pointer (some ⟨p, 0, none⟩), .int .i64 x] w fun e w' => e = .returned (.bool (may n x)) ∧ w' = w := by
  have c0 : w.cell? ⟨p, 0, none⟩ = some (.int .i64 n) := h.at (i := 0) rfl
  have hw : IntKind.i64.wrap (-(n : Int)) = -(n : Int) := by rw [IntKind.wrap]; simp [IntKind.bits, IntKind.signed]; omega
  clear h
  unfold may
  by_cases h0 : x = 0
  · have g0 : (x != 0) = false := by simp [h0]
    have g9 : decide (x ≠ 0 ∧ x.natAbs ≤ n) = false := by simp [h0]
    rw [g9]
    clear h0 g9
    go_enter Try.func46, Try.ntmps46
    go_wp2
    go_ret
    exact ⟨rfl, rfl⟩
  · have g0 : (x != 0) = true := by simp [h0]
    by_cases h1 : -(n : Int) ≤ x
    · have g1 : decide (-(n : Int) ≤ x) = true := by simp [h1]
      by_cases h2 : x ≤ n
      · have g2 : decide (x ≤ (n : Int)) = true := by simp [h2]
        have g9 : decide (x ≠ 0 ∧ x.natAbs ≤ n) = true := by simp [h0]; omega
        rw [g9]
        clear h0 h1 h2 g9
        go_enter Try.func46, Try.ntmps46
        go_wp2
        go_ret
        exact ⟨rfl, rfl⟩
      · have g2 : decide (x ≤ (n : Int)) = false := by simp [h2]
        have g9 : decide (x ≠ 0 ∧ x.natAbs ≤ n) = false := by simp [h0]; omega
        rw [g9]
        clear h0 h1 h2 g9
        go_enter Try.func46, Try.ntmps46
        go_wp2
        go_ret
        exact ⟨rfl, rfl⟩
    · have g1 : decide (-(n : Int) ≤ x) = false := by simp [h1]
      have g9 : decide (x ≠ 0 ∧ x.natAbs ≤ n) = false := by simp [h0]; omega
      rw [g9]
      clear h0 h1 g9
      go_enter Try.func46, Try.ntmps46
      go_wp2
      go_ret
      exact ⟨rfl, rfl⟩
set_option maxHeartbeats 2000000 in
theorem takesF_any (b p : Nat) (v : Value) (n : Nat) (x : Int) (w : World) (hb : w.cell? ⟨b, 0, none⟩ = some (.pointer (some ⟨p, 0, none⟩))) (h : Blk.Is w p 55 #[.int .i64 n, v]) (hn : n ≤ 200) :
    Calls Try.prog 45 #[.int .i64 x, .pointer (some ⟨b, 0, none⟩)] w fun e w' => e = .returned (.bool (!may n x)) ∧ Below w.heap.size w w' := by
  have cc := isLit_any p v n x w h hn
  clear h
  obtain ⟨G, hG⟩ : ∃ G, may n x = G := ⟨_, rfl⟩
  rw [hG] at cc ⊢
  clear hG
  go_enter Try.func45, Try.ntmps45
  go_wp2_with fail
  refine cc.mono ?_
  rintro e w' ⟨rfl, rfl⟩
  go_wp2_with fail
  go_ret
  exact ⟨rfl, Below.refl _ _⟩
/-- slices.IndexFunc: is there one? -/
theorem index_any (g : Nat) (lb : Array Value) (eg : ∀ args w, (callFunc g args).run Try.prog w = .ok (.enter g args) w) (p : Int → Bool) (v : Value) (l : List Int) (w : World) (hl : LitV w v l)
    (hp : ∀ (W : World) (x : Int), x ∈ l → Below w.heap.size w W → Calls Try.prog g (#[.int .i64 x] ++ lb) W fun e w' => e = .returned (.bool (p x)) ∧ Below W.heap.size W w') :
    Calls Try.prog 47 #[v, .func (.func g) #[] lb] w fun e w' => (∃ k : Int, e = .returned (.int .i64 k) ∧ decide (0 ≤ k) = l.any p) ∧ Below w.heap.size w w' := by
  have hlen := hl.len
  obtain ⟨_, a, cap, rfl, hc, _, _, hr⟩ := hl
  obtain ⟨n, hn⟩ : ∃ n, l.length = n := ⟨_, rfl⟩
  have HN := Lib.hid hn
  have HP := Lib.hid hp
  rw [hn] at hc hr hlen ⊢
  have HR := Lib.hid hr
  clear hr hn hp
  go_enter Try.func47, Try.ntmps47
  go_wp2_with fail
  go_loopg [8] n (fun gf s8 wx => ∃ k : Nat, s8 = .int .i64 k ∧ Hid (Below w.heap.size w wx) ∧ Hid ((l.take k).any p = false) ∧ k ≤ n ∧ n ≤ k + gf)
  case atStart => exact ⟨0, rfl, Below.refl _ _, by rw [List.take_zero]; exact Lib.hid rfl, by omega, by omega⟩
  case round =>
    obtain ⟨k, rfl, HB, HA, hkn, hfu⟩ := hrel
    by_cases hlk : k < n
    · obtain ⟨g', rfl⟩ : ∃ g', gk = g' + 1 := ⟨gk - 1, by omega⟩
      have hlk' : (k : Int) < (n : Int) := by omega
      have hk0 : (0 : Int) ≤ k := by omega
      have hkl : k < l.length := by rw [HN.out]; exact hlk
      obtain ⟨x, hx⟩ : ∃ x, l[k]? = some x := ⟨l[k], List.getElem?_eq_getElem _⟩
      obtain ⟨b, off, rfl, hcell⟩ := HR.out (by omega)
      have c1 := cell_on (hcell k x hx) HB.out
      have cc := HP.out wr x (List.mem_of_getElem? hx) HB.out
      have HX := Lib.hid hx
      obtain ⟨G, hG⟩ : ∃ G, p x = G := ⟨_, rfl⟩
      have HG := Lib.hid hG
      rw [hG] at cc
      clear hcell hG hx hkl
      have eg' := eg
      cases G with
      | true =>
        go_wp2_with fail
        refine cc.mono ?_
        rintro e w' ⟨rfl, k1⟩
        have K1 := Lib.hid k1
        clear k1
        go_wp2_with fail
        go_ret
        refine ⟨⟨k, rfl, ?_⟩, HB.out.trans (K1.out.mono HB.out.size)⟩
        rw [List.any_eq_true.2 ⟨x, List.mem_of_getElem? HX.out, HG.out⟩]
        simp
      | false =>
        go_wp2_with fail
        refine cc.mono ?_
        rintro e w' ⟨rfl, k1⟩
        have HB2 := Lib.hid (HB.out.trans (k1.mono HB.out.size))
        have HA2 : Hid ((l.take (k + 1)).any p = false) := by
          have hkl : k < l.length := (List.getElem?_eq_some_iff.1 HX.out).1
          refine Lib.hid ?_
          rw [List.take_add_one, List.any_append, HA.out, HX.out]
          simp [HG.out]
        clear k1
        go_wp2_with fail
        go_roundg g'
        case measure => omega
        case rel => exact ⟨k + 1, by go_num, HB2, HA2, by omega, by omega⟩
    · obtain rfl : k = n := by omega
      have hge : ¬ (k : Int) < (k : Int) := by omega
      go_wp2_with fail
      go_ret
      have := HA.out
      rw [← HN.out, List.take_length] at this
      exact ⟨⟨-1, rfl, by rw [this]; decide⟩, HB.out⟩
theorem contains_any (g : Nat) (lb : Array Value) (eg : ∀ args w, (callFunc g args).run Try.prog w = .ok (.enter g args) w) (p : Int → Bool) (v : Value) (l : List Int) (w : World) (hl : LitV w v l)
    (hp : ∀ (W : World) (x : Int), x ∈ l → Below w.heap.size w W → Calls Try.prog g (#[.int .i64 x] ++ lb) W fun e w' => e = .returned (.bool (p x)) ∧ Below W.heap.size W w') :
    Calls Try.prog 36 #[v, .func (.func g) #[] lb] w fun e w' => e = .returned (.bool (l.any p)) ∧ Below w.heap.size w w' := by
  have cc := index_any g lb eg p v l w hl hp
  obtain ⟨a, cap, rfl⟩ := hl.shape
  obtain ⟨N, hN⟩ : ∃ N, l.length = N := ⟨_, rfl⟩
  obtain ⟨G, hG⟩ : ∃ G, l.any p = G := ⟨_, rfl⟩
  rw [hN, hG] at cc
  rw [hN, hG]
  clear hN hl hp hG
  go_enter Try.func36, Try.ntmps36
  go_wp2_with fail
  refine cc.mono ?_
  rintro e w' ⟨⟨k, rfl, hk⟩, k1⟩
  have K1 := Lib.hid k1
  clear k1
  have hk' : decide (k ≥ 0) = G := hk
  clear hk
  go_wp2_with fail
  go_ret
  exact ⟨by first | rfl | simp [← hk'] | simp_all, K1.out⟩
/-- takes, of a set. -/
theorem takes_any (p : Nat) (v : Value) (n : Nat) (L : List (List Int)) (B : Nat) (cv : Value) (c : List Int) (w : World) (h : CSet w B p v n L) (hc : LitV w cv c) :
    Calls Try.prog 32 #[.pointer (some ⟨p, 0, none⟩), cv] w fun e w' => e = .returned (.bool (takes n L c)) ∧ Below w.heap.size w w' := by
  have hb1 := (Below.refl w.heap.size w).alloc (Nat.le_refl _) (.cells #[.pointer (some ⟨p, 0, none⟩)] 30)
  have i1 := Blk.Is.new w 30 #[.pointer (some ⟨p, 0, none⟩)]
  obtain ⟨W1, hW1⟩ : ∃ W1, w.alloc (.cells #[.pointer (some ⟨p, 0, none⟩)] 30) = W1 := ⟨_, rfl⟩
  rw [hW1] at hb1 i1
  have hs1 := is_on h.is hb1
  have c1 : W1.cell? ⟨p, 1, none⟩ = some v := hs1.at (i := 1) rfl
  have c0 : W1.cell? ⟨w.heap.size, 0, none⟩ = some (.pointer (some ⟨p, 0, none⟩)) := i1.at (i := 0) rfl
  have eg : ∀ args w, (callFunc 45 args).run Try.prog w = .ok (.enter 45 args) w := enters_of Try.func45 (by kernel_rfl) rfl
  have cc := contains_any 45 #[.pointer (some ⟨w.heap.size, 0, none⟩)] eg (fun x => !may n x) cv c W1 (hc.below hb1) (fun W x _ hb => takesF_any w.heap.size p v n x W (cell_on c0 hb) (is_on hs1 hb) h.vars)
  obtain ⟨a, cap, rfl, hcp, _⟩ := h.rows.shape
  obtain ⟨ca, ccap, rfl⟩ := hc.shape
  obtain ⟨N, hN⟩ : ∃ N, L.length = N := ⟨_, rfl⟩
  obtain ⟨G, hG⟩ : ∃ G, takes n L c = G := ⟨_, rfl⟩
  have hlen := h.len
  have hm : (c.any fun x => !may n x) = !mays n c := by unfold mays; rw [List.not_all_eq_any_not]
  rw [hm] at cc
  rw [hG]
  rw [hN] at c1 hlen
  unfold takes at hG
  rw [hN] at hG
  have HB1 := Lib.hid hb1
  have hu := hW1
  clear hN h hc i1 hs1 hm hW1 hcp hb1
  by_cases hr : N < 5000
  · have g1 : decide ((N : Int) ≥ 5000) = false := by simp; omega
    have : G = mays n c := by rw [← hG]; simp [hr]
    rw [← this] at cc
    clear hG this
    go_enter Try.func32, Try.ntmps32
    go_wp2_with fail
    refine cc.mono ?_
    rintro e w' ⟨rfl, k1⟩
    have K1 := Lib.hid k1
    clear k1 hu
    go_wp2_with fail
    go_ret
    exact ⟨by simp, HB1.out.trans (K1.out.mono HB1.out.size)⟩
  · have g1 : decide ((N : Int) ≥ 5000) = true := by simp; omega
    have : G = false := by rw [← hG]; simp [hr]
    subst this
    clear hG cc
    go_enter Try.func32, Try.ntmps32
    go_wp2_with fail
    go_ret
    exact ⟨rfl, HB1.out⟩
/-- takes, of none. -/
theorem takes_nil (cv : Value) (w : World) (ca : Option Addr) (cn cc : Nat) (hcv : cv = .slice ca cn cc) : Calls Try.prog 32 #[.pointer none, cv] w fun e w' => e = .returned (.bool false) ∧ Below w.heap.size w w' := by
  subst hcv
  have hb1 := (Below.refl w.heap.size w).alloc (Nat.le_refl _) (.cells #[.pointer none] 30)
  have HB1 := Lib.hid hb1
  clear hb1
  go_enter Try.func32, Try.ntmps32
  go_wp2_with fail
  go_ret
  exact ⟨rfl, HB1.out⟩
end Cn
end Go.Proofs.Ytlpahomaokopoaa

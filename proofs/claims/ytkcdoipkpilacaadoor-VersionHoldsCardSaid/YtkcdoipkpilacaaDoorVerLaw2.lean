/-
The walk of the law VersionHolds.
-/
import Derived.Test.YtkcdoipkpilacaaDoorVerAwake
namespace Go.Proofs.YtkcdoipkpilacaaDoor
open Go.RowKit
set_option linter.unusedSimpArgs false
set_option linter.unusedVariables false
namespace Ver
/-- The two variables that the closure captures lie there. -/
def Boxed (p q : Nat) (s0 s1 : ByteArray) (w : World) : Prop := MaxLen w ∧ w.cell? ⟨p, 0, none⟩ = some (.string s0) ∧ w.cell? ⟨q, 0, none⟩ = some (.string s1)
theorem Boxed.on {p q : Nat} {s0 s1 : ByteArray} {w w' : World} (h : Boxed p q s0 s1 w) (hb : Below w.heap.size w w') : Boxed p q s0 s1 w' :=
  ⟨h.1.on hb, (hb.cell (p := ⟨p, 0, none⟩) (lt_cell h.2.1)).trans h.2.1, (hb.cell (p := ⟨q, 0, none⟩) (lt_cell h.2.2)).trans h.2.2⟩
theorem closure_any (r : Int) (p q : Nat) (s0 s1 : ByteArray) (w : World) (z0 : s0.size ≤ 4611686018427387904) (z1 : s1.size ≤ 4611686018427387904) (h : Boxed p q s0 s1 w) :
    Calls Tryd.prog 28 #[.int .i64 r, .pointer (some ⟨p, 0, none⟩), .pointer (some ⟨q, 0, none⟩)] w fun e w' => e = .returned (.bool (holdsV r (li s0) (li s1))) ∧ Below w.heap.size w w' := by
  obtain ⟨hm, h0, h1⟩ := h
  have c := holds_any r s0 s1 w z0 z1 hm
  clear hm
  generalize holdsV r (li s0) (li s1) = g at *
  go_enter Tryd.func28, Tryd.ntmps28
  go_wp2_with fail
  refine c.mono ?_
  rintro e w1 ⟨rfl, k1⟩
  go_wp2_with fail
  go_ret
  exact ⟨rfl, k1⟩
theorem b2i_any (g : Bool) (w : World) : Calls Tryd.prog 27 #[.bool g] w fun e w' => e = .returned (.int .i64 (if g = true then 1 else 0)) ∧ w' = w := by
  cases g
  all_goals
    go_enter Tryd.func27, Tryd.ntmps27
    go_wp2_with fail
    go_ret
    exact ⟨rfl, rfl⟩
theorem holds_no {a c : Bs} (h : ¬ ((parse a).isSome = true ∧ (parse c).isSome = true)) (r : Int) (hr : r ≠ 0) : holdsV r a c = false := by
  unfold holdsV
  rw [if_neg hr]
  cases h1 : (parse a).isSome
  · rfl
  · cases h2 : (parse c).isSome
    · rfl
    · exact absurd ⟨h1, h2⟩ h
theorem holds_yes {a c : Bs} {x : Int} (h1 : (parse a).isSome = true) (h2 : (parse c).isSome = true) (hx : cmpV a c = x) (r : Int) :
    holdsV r a c = if r = 0 then true else if r = 1 then decide (x < 0) else if r = 2 then decide (x ≤ 0) else if r = 3 then decide (x = 0) else if r = 4 then decide (0 ≤ x) else if r = 5 then decide (0 < x) else false := by
  unfold holdsV
  rw [h1, h2, hx]
  by_cases hr : r = 0
  · rw [if_pos hr, if_pos hr]
  · rw [if_neg hr, if_neg hr]; rfl
set_option maxRecDepth 100000 in
set_option maxHeartbeats 8000000 in
theorem holds_walk (s0 s1 : ByteArray) (w : World) (w0 : s0.size ≤ 140737488351232) (w1 : s1.size ≤ 140737488351232) (hm : MaxLen w) :
    Calls Tryd.prog 8 #[.string s0, .string s1] w fun e w' => e = .returned (.bool true) ∧ Below w.heap.size w w' := by
  have z0 : s0.size ≤ 4611686018427387904 := by omega
  have z1 : s1.size ≤ 4611686018427387904 := by omega
  have pa := fun w hm => parse_any s0 w z0 hm
  have pb := fun w hm => parse_any s1 w z1 hm
  have ho := fun r p q w => closure_any r p q s0 s1 w z0 z1
  have hb := fun r w hm => holds_any r s1 s0 w z1 z0 hm
  have HM := Lib.hid hm
  clear hm
  have hmf : ∀ (fn : Fn) (first cap : Array Value) (w : World), (Instr.makeFunc fn first cap).run Tryd.prog w = .ok (.func fn first cap) w := fun _ _ _ _ => rfl
  have hno : ∀ r, r ≠ 0 → ¬ ((parse (li s0)).isSome = true ∧ (parse (li s1)).isSome = true) → holdsV r (li s0) (li s1) = false := fun r hr h => holds_no h r hr
  have hyes := fun x h1 h2 hx r => @holds_yes (li s0) (li s1) x h1 h2 hx r
  have hyes2 := fun x h1 h2 hx r => @holds_yes (li s1) (li s0) x h1 h2 hx r
  have hturn := cmpV_turn (li s0) (li s1)
  have hone := cmpV_one (li s0) (li s1)
  obtain ⟨a1, a2, a3, na, ea, ia, ja⟩ := told_shape (parse (li s0))
  obtain ⟨b1, b2, b3, nb, eb, ib, jb⟩ := told_shape (parse (li s1))
  rw [ea] at pa
  rw [eb] at pb
  have hM2 : Boxed w.heap.size (w.heap.size + 1) s0 s1 ((w.alloc (.cells #[.string s0] 9)).alloc (.cells #[.string s1] 9)) := by
    refine ⟨HM.out.on (((Below.refl _ _).alloc (Nat.le_refl _) _).alloc (by simp) _), ?_, ?_⟩
    · rw [World.cell?_alloc_past _ _ _ (by simp), World.cell?_alloc_at _ _ _ _ rfl]; rfl
    · rw [World.cell?_alloc_at _ _ _ _ (by simp)]; rfl
  have hB2 : Below w.heap.size w ((w.alloc (.cells #[.string s0] 9)).alloc (.cells #[.string s1] 9)) := ((Below.refl _ _).alloc (Nat.le_refl _) _).alloc (by simp) _
  have hc0 : ((w.alloc (.cells #[.string s0] 9)).alloc (.cells #[.string s1] 9)).cell? ⟨w.heap.size, 0, none⟩ = some (.string s0) := hM2.2.1
  have hc1 : ((w.alloc (.cells #[.string s0] 9)).alloc (.cells #[.string s1] 9)).cell? ⟨w.heap.size + 1, 0, none⟩ = some (.string s1) := hM2.2.2
  have HYES := Lib.hid hyes
  have HYES2 := Lib.hid hyes2
  have HNO := Lib.hid hno
  have HTURN := Lib.hid hturn
  have HONE := Lib.hid hone
  have HIA := Lib.hid ia
  have HIB := Lib.hid ib
  have HBX := Lib.hid hM2
  clear hyes hyes2 hno hturn hone ia ib hM2 ea eb
  go_enter Tryd.func8, Tryd.ntmps8
  go_wp2_with fail
  generalize ((w.alloc (.cells #[.string s0] 9)).alloc (.cells #[.string s1] 9)) = W at *
  refine (pa _ HBX.out.1).mono ?_
  rintro e u1 ⟨rfl, k⟩
  have BX1 := Lib.hid (HBX.out.on k)
  have k1 := hB2.trans (k.mono hB2.size)
  have x0 := BX1.out.2.1
  have x1 := BX1.out.2.2
  clear k HBX hB2 hc0 hc1 pa
  go_wp2_with fail
  refine (pb _ BX1.out.1).mono ?_
  rintro e u2 ⟨rfl, k⟩
  have BX2 := Lib.hid (BX1.out.on k)
  have k2 := k1.trans (k.mono k1.size)
  clear k BX1 k1 pb x0 x1
  by_cases hok : na = 0 ∧ nb = 0
  · have h1 := HIA.out.2 hok.1
    have h2 := HIB.out.2 hok.2
    obtain ⟨rfl, rfl⟩ := hok
    have hone := HONE.out
    have hturn := HTURN.out
    unfold One at hone
    have hy := fun r => HYES.out _ h1 h2 rfl r
    have hy2 := fun r => HYES2.out _ h2 h1 rfl r
    rw [hturn] at hy2
    generalize cmpV (li s0) (li s1) = x at *
    have e0 := hy 0
    have e1 := hy 1
    have e2 := hy 2
    have e3 := hy 3
    have e4 := hy 4
    have e5 := hy 5
    have e6 := hy2 1
    clear HYES HYES2 HNO HTURN HONE HIA HIB hturn hy hy2 ja jb h1 h2
    rcases hone with rfl | rfl | rfl
    all_goals
      simp at e0 e1 e2 e3 e4 e5 e6
      go_wp2_with fail
      refine (ho 1 _ _ _ BX2.out).mono ?_
      rintro e u3 ⟨rfl, k⟩
      rw [e1]
      have BX3 := Lib.hid (BX2.out.on k)
      have k3 := k2.trans (k.mono k2.size)
      clear k BX2 k2
      go_wp2_with fail
      refine (ho 3 _ _ _ BX3.out).mono ?_
      rintro e u4 ⟨rfl, k⟩
      rw [e3]
      have BX4 := Lib.hid (BX3.out.on k)
      have k4 := k3.trans (k.mono k3.size)
      clear k BX3 k3
      go_wp2_with fail
      refine (ho 5 _ _ _ BX4.out).mono ?_
      rintro e u5 ⟨rfl, k⟩
      rw [e5]
      have BX5 := Lib.hid (BX4.out.on k)
      have k5 := k4.trans (k.mono k4.size)
      clear k BX4 k4
      go_wp2_with fail
      refine (b2i_any _ _).mono ?_
      rintro e v ⟨rfl, hv⟩
      subst hv
      go_wp2_with fail
      refine (b2i_any _ _).mono ?_
      rintro e v ⟨rfl, hv⟩
      subst hv
      go_wp2_with fail
      refine (b2i_any _ _).mono ?_
      rintro e v ⟨rfl, hv⟩
      subst hv
      go_wp2_with fail
      refine (ho 2 _ _ _ BX5.out).mono ?_
      rintro e u6 ⟨rfl, k⟩
      rw [e2]
      have BX6 := Lib.hid (BX5.out.on k)
      have k6 := k5.trans (k.mono k5.size)
      clear k BX5 k5
      go_wp2_with fail
      refine (ho 4 _ _ _ BX6.out).mono ?_
      rintro e u7 ⟨rfl, k⟩
      rw [e4]
      have BX7 := Lib.hid (BX6.out.on k)
      have k7 := k6.trans (k.mono k6.size)
      clear k BX6 k6
      go_wp2_with fail
      refine (ho 0 _ _ _ BX7.out).mono ?_
      rintro e u8 ⟨rfl, k⟩
      rw [e0]
      have BX8 := Lib.hid (BX7.out.on k)
      have k8 := k7.trans (k.mono k7.size)
      clear k BX7 k7
      have y0 := BX8.out.2.1
      have y1 := BX8.out.2.2
      go_wp2_with fail
      refine (hb 1 _ BX8.out.1).mono ?_
      rintro e u9 ⟨rfl, k⟩
      rw [e6]
      have BX9 := Lib.hid (BX8.out.on k)
      have k9 := k8.trans (k.mono k8.size)
      clear k BX8 k8
      have aw := awake_any _ BX9.out.1
      go_wp2_with fail
      refine aw.mono ?_
      rintro e u ⟨rfl, k⟩
      go_wp2_with fail
      go_ret
      exact ⟨rfl, k9.trans (k.mono k9.size)⟩
  · have hn : ¬ ((parse (li s0)).isSome = true ∧ (parse (li s1)).isSome = true) := fun h => hok ⟨HIA.out.1 h.1, HIB.out.1 h.2⟩
    have e1 := HNO.out 1 (by decide) hn
    have e2 := HNO.out 2 (by decide) hn
    have e3 := HNO.out 3 (by decide) hn
    have e4 := HNO.out 4 (by decide) hn
    have e5 := HNO.out 5 (by decide) hn
    clear HYES HYES2 HNO HTURN HONE HIA HIB hn
    have hsel : na = 3 ∨ (na = 0 ∧ nb = 3) := by omega
    clear ja jb hok
    rcases hsel with rfl | ⟨rfl, rfl⟩
    all_goals
      go_wp2_with fail
      refine (ho 1 _ _ _ BX2.out).mono ?_
      rintro e u3 ⟨rfl, k⟩
      rw [e1]
      have BX3 := Lib.hid (BX2.out.on k)
      have k3 := k2.trans (k.mono k2.size)
      clear k BX2 k2
      go_wp2_with fail
      refine (ho 2 _ _ _ BX3.out).mono ?_
      rintro e u4 ⟨rfl, k⟩
      rw [e2]
      have BX4 := Lib.hid (BX3.out.on k)
      have k4 := k3.trans (k.mono k3.size)
      clear k BX3 k3
      go_wp2_with fail
      refine (ho 3 _ _ _ BX4.out).mono ?_
      rintro e u5 ⟨rfl, k⟩
      rw [e3]
      have BX5 := Lib.hid (BX4.out.on k)
      have k5 := k4.trans (k.mono k4.size)
      clear k BX4 k4
      go_wp2_with fail
      refine (ho 4 _ _ _ BX5.out).mono ?_
      rintro e u6 ⟨rfl, k⟩
      rw [e4]
      have BX6 := Lib.hid (BX5.out.on k)
      have k6 := k5.trans (k.mono k5.size)
      clear k BX5 k5
      go_wp2_with fail
      refine (ho 5 _ _ _ BX6.out).mono ?_
      rintro e u7 ⟨rfl, k⟩
      rw [e5]
      have BX7 := Lib.hid (BX6.out.on k)
      have k7 := k6.trans (k.mono k6.size)
      clear k BX6 k6
      have aw := awake_any _ BX7.out.1
      go_wp2_with fail
      refine aw.mono ?_
      rintro e u ⟨rfl, k⟩
      go_wp2_with fail
      go_ret
      exact ⟨rfl, k7.trans (k.mono k7.size)⟩
end Ver
end Go.Proofs.YtkcdoipkpilacaaDoor

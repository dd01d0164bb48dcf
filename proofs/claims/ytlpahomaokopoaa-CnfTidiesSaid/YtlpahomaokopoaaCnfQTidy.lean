/-
The reference's Tidy.
-/
import Derived.Test.YtlpahomaokopoaaCnfTidy
import Derived.Test.YtlpahomaokopoaaReg
import Derived.Test.YtlpahomaokopoaaHeld
import Derived.OrdersHeld
import Derived.Deep.MidRow
namespace Go.Proofs.Ytlpahomaokopoaa
open Go.RowKit
set_option linter.unusedSimpArgs false
set_option linter.unusedVariables false
namespace Cn
theorem lit_size (w : World) : (sizeOf 45).run Try.prog w = .ok 1 w := by
  obtain ⟨i0, hi, hz0, hz1, hz2⟩ := info_parts infoLit
  simp [sizeOf, typeInfo, hi, hz1]
theorem at_sliceL {x v : Value} {lo hi : Option Value} {w : World} (h : (Instr.slice 22 x lo hi none).run Try.prog w = .ok v w) : (Instr.sliceAt 22 x lo hi none).run Try.prog w = .ok v w := by
  have e : Try.prog.elem 22 = 45 := by kernel_rfl
  rw [run_sliceAt_slice w 22 x lo hi none (by rw [e]; exact Try.underlying22)]
  exact h
theorem slice_headL (ra : Option Addr) (n rc t : Nat) (h : t ≤ rc) (w : World) : (Instr.slice 22 (.slice ra n rc) none (some (.int .i64 (t : Int))) none).run Try.prog w = .ok (.slice ra t rc) w := by
  have hsz := lit_size w
  have h0 : ∀ x : Addr, x.add 0 = x := fun x => by
    obtain ⟨b, o, p⟩ := x
    cases p <;> simp [Addr.add]
  cases ra <;> simp [h0, Instr.slice, Instr.sliceBounds, Instr.sliceBound, asIntOf, run_underlying Try.underlying22, hsz, h]
theorem slice_tailL (R : Nat) (n rc t : Nat) (h : t ≤ n) (hn : n ≤ rc) : ∃ o, (∀ w, (Instr.slice 22 (.slice (some ⟨R, 0, none⟩) n rc) (some (.int .i64 (t : Int))) none none).run Try.prog w = .ok (.slice (some ⟨R, o, none⟩) (n - t) (rc - t)) w) ∧ (t < rc → o = t) := by
  have h0 : (0 : Int) ≤ t := by omega
  by_cases e : rc = t
  · refine ⟨0, fun w => ?_, fun h => by omega⟩
    have hsz := lit_size w
    simp [Instr.slice, Instr.sliceBounds, Instr.sliceBound, asIntOf, run_underlying Try.underlying22, hsz, h0, h, e]
  · refine ⟨t, fun w => ?_, fun _ => rfl⟩
    have hsz := lit_size w
    simp [Instr.slice, Instr.sliceBounds, Instr.sliceBound, asIntOf, run_underlying Try.underlying22, hsz, h0, h, e, Addr.add] <;> omega
theorem slice_noneL (w : World) : (Instr.slice 22 (.slice none 0 0) (some (.int .i64 0)) none none).run Try.prog w = .ok (.slice none 0 0) w := by
  have hsz := lit_size w
  simp [Instr.slice, Instr.sliceBounds, Instr.sliceBound, asIntOf, run_underlying Try.underlying22, hsz]
theorem head_lit {w : World} {B : Nat} {ra : Option Addr} {rc n t : Nat} {o : List Int} (h : Lt w B (.slice ra n rc) o) (hd : o.length = n) (ht : t ≤ n) : LitV w (.slice ra t rc) (o.take t) := by
  obtain ⟨hz, a, cap, e, h1, h2, h3, h4⟩ := h.lit
  simp only [Value.slice.injEq] at e
  obtain ⟨rfl, _, rfl⟩ := e
  have hl : (o.take t).length = t := by rw [List.length_take]; omega
  refine ⟨fun x hx => hz x (List.mem_of_mem_take hx), ra, rc, by rw [hl], by rw [hl]; omega, h2, h3, fun h0 => ?_⟩
  rw [hl] at h0
  obtain ⟨b, off, e, hc⟩ := h4 (by omega)
  refine ⟨b, off, e, fun i x hx => hc i x ?_⟩
  rw [List.getElem?_take] at hx
  split at hx
  · exact hx
  · cases hx
theorem tail_lit {w : World} {B : Nat} {ra : Option Addr} {rc n t : Nat} {o : List Int} (h : Lt w B (.slice ra n rc) o) (hd : o.length = n) (ht : t ≤ n) : ∃ vt, (∀ w, (Instr.slice 22 (.slice ra n rc) (some (.int .i64 (t : Int))) none none).run Try.prog w = .ok vt w) ∧ ∀ u, Below w.heap.size w u → LitV u vt (o.drop t) := by
  have hl : (o.drop t).length = n - t := by rw [List.length_drop]; omega
  have hz : Lz (o.drop t) := fun x hx => h.1 x (List.mem_of_mem_drop hx)
  rcases h.2.2 with ⟨e, e0⟩ | ⟨R, cap, cur, e, _, _, hc, hm, _⟩
  · simp only [Value.slice.injEq] at e
    obtain ⟨rfl, _, rfl⟩ := e
    obtain rfl : t = 0 := by omega
    obtain rfl : n = 0 := by omega
    exact ⟨.slice none 0 0, slice_noneL, fun u _ => ⟨hz, none, 0, by rw [hl], by rw [hl]; omega, by omega, fun _ => rfl, fun h0 => by rw [hl] at h0; omega⟩⟩
  · simp only [Value.slice.injEq] at e
    obtain ⟨rfl, _, rfl⟩ := e
    unfold maxLen at hm
    obtain ⟨off, hrun, ho⟩ := slice_tailL R n rc t ht (by omega)
    refine ⟨_, hrun, fun u hu => ⟨hz, some ⟨R, off, none⟩, rc - t, by rw [hl], by rw [hl]; omega, by omega, by simp, fun h0 => ⟨R, off, rfl, fun i x hx => ?_⟩⟩⟩
    rw [hl] at h0
    rw [ho (by omega)]
    rw [List.getElem?_drop] at hx
    have h2 := (h.below hu).2
    rw [hd] at h2
    exact own_cell h2 (lcells_get hx)
theorem size_any (x : Int) (w : World) (h : I64 x) : Calls Try.prog 44 #[.int .i64 x] w fun e w' => e = .returned (.int .u64 x.natAbs) ∧ w' = w := by
  unfold I64 at h
  by_cases h0 : x < 0
  · have g1 : decide (x < 0) = true := by simp [h0]
    have e1 : IntKind.u64.wrap (-(x + 1)) = -(x + 1) := by simp [IntKind.wrap, IntKind.bits, IntKind.signed]; omega
    have e2 : IntKind.u64.wrap (-(x + 1) + 1) = (x.natAbs : Nat) := by simp [IntKind.wrap, IntKind.bits, IntKind.signed]; omega
    have e3 : (x.natAbs : Int) = -(x + 1) + 1 := by omega
    rw [e3] at e2 ⊢
    go_enter Try.func44, Try.ntmps44
    go_wp2_with fail
    go_ret
    exact ⟨by first | rfl | simp [e1, e2], rfl⟩
  · have g1 : decide (x < 0) = false := by simp [h0]
    have e1 : IntKind.u64.wrap x = x := by simp [IntKind.wrap, IntKind.bits, IntKind.signed]; omega
    have e3 : (x.natAbs : Int) = x := by omega
    rw [e3]
    go_enter Try.func44, Try.ntmps44
    go_wp2_with fail
    go_ret
    exact ⟨by first | rfl | simp [e1], rfl⟩
theorem less_any (x y : Int) (w : World) (h : I64 x) (h2 : I64 y) : Calls Try.prog 31 #[.int .i64 x, .int .i64 y] w fun e w' => e = .returned (.bool (decide (x.natAbs < y.natAbs))) ∧ w' = w := by
  have cx := size_any x w h
  have cy := size_any y w h2
  obtain ⟨X, hX⟩ : ∃ X, x.natAbs = X := ⟨_, rfl⟩
  obtain ⟨Y, hY⟩ : ∃ Y, y.natAbs = Y := ⟨_, rfl⟩
  rw [hX] at cx ⊢
  rw [hY] at cy ⊢
  clear hX hY h h2
  go_enter Try.func31, Try.ntmps31
  go_wp2_with fail
  refine cx.mono ?_
  rintro e w' ⟨rfl, rfl⟩
  go_wp2_with fail
  refine cy.mono ?_
  rintro e w' ⟨rfl, rfl⟩
  go_wp2_with fail
  go_ret
  exact ⟨by first | rfl | simp, rfl⟩
theorem ins_ok {o : List Int} {x : Int} {t : Nat} (hu : Up o) (hlo : ∀ j y, j < t → o[j]? = some y → y.natAbs < x.natAbs) (hhi : ∀ y, o[t]? = some y → x.natAbs < y.natAbs) : Up (o.take t ++ [x] ++ o.drop t) ∧ ∀ y ∈ o, y.natAbs ≠ x.natAbs := by
  have hlo' : ∀ y ∈ o.take t, y.natAbs < x.natAbs := fun y hy => by
    obtain ⟨j, hj, rfl⟩ := List.mem_iff_getElem.1 hy
    have hjt : j < t := by rw [List.length_take] at hj; omega
    refine hlo j _ hjt ?_
    have := List.getElem?_eq_getElem hj
    rw [List.getElem?_take, if_pos hjt] at this
    exact this
  have hhi' : ∀ y ∈ o.drop t, x.natAbs < y.natAbs := fun y hy => by
    obtain ⟨j, hj, rfl⟩ := List.mem_iff_getElem.1 hy
    rw [List.getElem_drop]
    have hjl : t + j < o.length := by rw [List.length_drop] at hj; omega
    have h0 := hhi o[t] (List.getElem?_eq_getElem (by omega))
    rcases Nat.eq_zero_or_pos j with h1 | h1
    · subst h1; exact h0
    · unfold Up at hu
      rw [List.pairwise_iff_getElem] at hu
      have := hu t (t + j) (by omega) hjl (by omega)
      omega
  refine ⟨?_, fun y hy => ?_⟩
  · have hu' : (o.take t ++ o.drop t).Pairwise fun a b => a.natAbs < b.natAbs := by rw [List.take_append_drop]; exact hu
    rw [List.pairwise_append] at hu'
    unfold Up
    rw [List.append_assoc, List.pairwise_append]
    refine ⟨hu'.1, List.pairwise_cons.2 ⟨hhi', hu'.2.1⟩, fun a ha b hb => ?_⟩
    have h1 := hlo' a ha
    rcases List.mem_cons.1 hb with h2 | h2
    · subst h2; exact h1
    · have := hhi' b h2; omega
  · rw [← List.take_append_drop t o] at hy
    rcases List.mem_append.1 hy with h1 | h1
    · have := hlo' y h1; omega
    · have := hhi' y h1; omega
theorem mem_put {o : List Int} {x z : Int} {t : Nat} : z ∈ o.take t ++ [x] ++ o.drop t ↔ z ∈ o ∨ z = x := by
  have : z ∈ o ↔ z ∈ o.take t ∨ z ∈ o.drop t := by
    rw [← List.mem_append, List.take_append_drop]
  rw [this]
  simp only [List.mem_append, List.mem_singleton]
  constructor
  · rintro ((h | h) | h)
    · exact .inl (.inl h)
    · exact .inr h
    · exact .inl (.inr h)
  · rintro ((h | h) | h)
    · exact .inl (.inl h)
    · exact .inr h
    · exact .inl (.inr h)
theorem bad_snoc {c : List Int} {x : Int} (h : bad c = false) (hx : x ≠ 0) (hn : -x ∉ c) : bad (c ++ [x]) = false := by
  rw [bad_no] at h ⊢
  intro y hy hny
  rcases List.mem_append.1 hy with h1 | h1
  · rcases List.mem_append.1 hny with h2 | h2
    · exact h y h1 h2
    · have : -y = x := by simpa using h2
      apply hn
      rw [show -x = y by omega]
      exact h1
  · have e1 : y = x := by simpa using h1
    subst e1
    rcases List.mem_append.1 hny with h2 | h2
    · exact hn h2
    · have : -y = y := by simpa using h2
      omega
/-- What the loop keeps: what is sorted in. -/
structure TidQ (c : List Int) (k m : Nat) (o : List Int) : Prop where
  len : o.length = m
  up : Up o
  mem : ∀ x, x ∈ o ↔ x ∈ c.take k
  good : bad (c.take k) = false
theorem TidQ.skip {c : List Int} {k m : Nat} {o : List Int} {x : Int} (h : TidQ c k m o) (hx : c[k]? = some x) (hm : x ∈ o) : TidQ c (k + 1) m o := by
  have hmm : ∀ z, z ∈ c.take k ↔ z ∈ c.take (k + 1) := fun z => by
    rw [List.take_add_one, hx]
    constructor
    · intro hz; exact List.mem_append_left _ hz
    · intro hz
      rcases List.mem_append.1 hz with h1 | h1
      · exact h1
      · have : z = x := by simpa using h1
        subst this
        exact (h.mem z).1 hm
  exact ⟨h.len, h.up, fun z => (h.mem z).trans (hmm z), by rw [← bad_same hmm]; exact h.good⟩
theorem TidQ.put {c : List Int} {k m t : Nat} {o : List Int} {x : Int} (h : TidQ c k m o) (hx : c[k]? = some x) (h0 : x ≠ 0) (htm : t ≤ m) (hlo : ∀ j y, j < t → o[j]? = some y → y.natAbs < x.natAbs) (hhi : ∀ y, o[t]? = some y → x.natAbs < y.natAbs) : TidQ c (k + 1) (m + 1) (o.take t ++ [x] ++ o.drop t) := by
  obtain ⟨h1, h2⟩ := ins_ok h.up hlo hhi
  refine ⟨?_, h1, fun z => ?_, ?_⟩
  · simp only [List.length_append, List.length_take, List.length_drop, List.length_singleton]
    have := h.len
    omega
  · rw [mem_put, List.take_add_one, hx, List.mem_append, h.mem z]
    simp
  · rw [List.take_add_one, hx]
    exact bad_snoc h.good h0 fun hn => h2 _ ((h.mem _).2 hn) (by rw [Int.natAbs_neg])
set_option maxRecDepth 100000 in
set_option maxHeartbeats 16000000 in
theorem qtidy_any (v : Value) (l : List Int) (w : World) (h : LitV w v l) (hl : l.length ≤ 1000000) :
    Calls Try.prog 12 #[v] w fun e w' => ∃ v', e = .returned (.tuple #[v', .bool (!bad l)]) ∧ Lt w' w.heap.size v' (tidy l) ∧ Below w.heap.size w w' := by
  have H := Lib.hid h
  obtain ⟨hz, sa, scap, rfl, hc1, hc2, _, hr⟩ := h
  have HZ := Lib.hid hz
  have HR := Lib.hid hr
  obtain ⟨N, hN⟩ : ∃ N, l.length = N := ⟨_, rfl⟩
  have HN := Lib.hid hN
  rw [hN] at hl H HR ⊢
  obtain ⟨G, hG⟩ : ∃ G, bad l = G := ⟨_, rfl⟩
  have HG := Lib.hid hG
  rw [hG]
  clear hN hz hr hG hc1 hc2
  go_enter Try.func12, Try.ntmps12
  go_wp2_with fail
  go_loopg [4, 10] N (fun gf s4 s10 wx => ∃ (k m : Nat) (ra : Option Addr) (rc : Nat) (o : List Int), s4 = .slice ra m rc ∧ s10 = .int .i64 k ∧ Hid (Lt wx w.heap.size (.slice ra m rc) o) ∧ Hid (TidQ l k m o) ∧ Hid (Below w.heap.size w wx) ∧ m ≤ k ∧ k ≤ N ∧ N ≤ k + gf)
  case atStart => exact ⟨0, 0, none, 0, [], rfl, rfl, Lib.hid (Lt.nil _ _), Lib.hid ⟨rfl, List.Pairwise.nil, fun x => by simp, rfl⟩, Lib.hid (Below.refl _ _), by omega, by omega, by omega⟩
  case round =>
    obtain ⟨k, m, ra, rc, o, rfl, rfl, HO, HQ, HB, hmk, hkn, hfu⟩ := hrel
    by_cases hlt : k < N
    · obtain ⟨g', rfl⟩ : ∃ g', gk = g' + 1 := ⟨gk - 1, by omega⟩
      have hlt' : (k : Int) < (N : Int) := by omega
      have hk0 : (0 : Int) ≤ k := by omega
      have hkl : k < l.length := by rw [HN.out]; exact hlt
      obtain ⟨x, hx⟩ : ∃ x, l[k]? = some x := ⟨l[k], List.getElem?_eq_getElem _⟩
      obtain ⟨kb, off, rfl, hcl⟩ := HR.out (by omega)
      have x0 := cell_on (hcl k x hx) HB.out
      have HX := Lib.hid hx
      have hxl := List.mem_of_getElem? hx
      have HXZ := Lib.hid (HZ.out x hxl)
      by_cases h0 : x = 0
      · have hg : G = true := by rw [← HG.out, bad_iff]; exact ⟨x, hxl, by rw [h0] at hxl ⊢; simpa using hxl⟩
        subst hg
        have g0 : (x == 0) = true := by simp [h0]
        have HT := Lib.hid (tidy_bad HG.out)
        clear hkl hx hcl hxl h0
        go_wp2_with fail
        go_ret2
        exact ⟨_, rfl, by rw [HT.out]; exact Lt.nil _ _, HB.out⟩
      have g0 : (x == 0) = false := by simp [h0]
      have H0 := Lib.hid h0
      clear hkl hx hcl h0
      go_wp2_with fail
      clear x0 g0
      rename World => wo
      go_loopg [7] m (fun gf s7 wx => ∃ t : Nat, s7 = .int .i64 t ∧ wx = wo ∧ Hid (∀ j y, j < t → o[j]? = some y → y.natAbs < x.natAbs) ∧ t ≤ m ∧ m ≤ t + gf)
      case atStart => exact ⟨0, rfl, rfl, Lib.hid (fun j y hj => absurd hj (by omega)), by omega, by omega⟩
      case round =>
        obtain ⟨t, rfl, rfl, HE, htm, hfu2⟩ := hrel
        have ht0 : (0 : Int) ≤ t := by omega
        have HOW := HO
        have BWW := HB
        by_cases htl : t < m
        · have htl' : decide ((t : Int) < (m : Int)) = true := decide_eq_true (by omega)
          have htl9 : (t : Int) < (m : Int) := by omega
          obtain ⟨y, hy⟩ : ∃ y, o[t]? = some y := ⟨o[t]'(by rw [HQ.out.len]; exact htl), List.getElem?_eq_getElem _⟩
          have hown := HOW.out.2
          rw [HQ.out.len] at hown
          obtain ⟨R, c2, e2, hcr⟩ := own_slice hown (by omega)
          simp only [Value.slice.injEq, true_and] at e2
          obtain ⟨rfl, rfl⟩ := e2
          have cy := own_cell hown (lcells_get hy)
          have HY := Lib.hid hy
          have cl := less_any y x wr (HOW.out.1 y (List.mem_of_getElem? hy)) HXZ.out
          clear hy hown
          by_cases hnl : y.natAbs < x.natAbs
          · rw [decide_eq_true hnl] at cl
            obtain ⟨gk', rfl⟩ : ∃ gk', gk = gk' + 1 := ⟨gk - 1, by omega⟩
            have HE2 : Hid (∀ j y, j < t + 1 → o[j]? = some y → y.natAbs < x.natAbs) := Lib.hid fun j z hj hz => by
              by_cases e : j = t
              · subst e
                rw [HY.out] at hz
                obtain rfl := Option.some.inj hz
                exact hnl
              · exact HE.out j z (by omega) hz
            clear HE hnl
            go_wp2_with fail
            refine cl.mono ?_
            rintro e w9 ⟨rfl, rfl⟩
            go_wp2_with fail
            go_roundg gk'
            case measure => omega
            case rel => exact ⟨t + 1, by go_num, rfl, HE2, by omega, by omega⟩
          · rw [decide_eq_false hnl] at cl
            have HNL := Lib.hid hnl
            clear hnl
            by_cases hyx : y = x
            · have g1 : (y == x) = true := by simp [hyx]
              have INS := Lib.hid (HQ.out.skip HX.out (by rw [← hyx]; exact List.mem_of_getElem? HY.out))
              clear hyx
              go_wp2_with fail
              refine cl.mono ?_
              rintro e w9 ⟨rfl, rfl⟩
              go_wp2_with fail
              go_roundg g'
              case measure => omega
              case rel => exact ⟨k + 1, m, _, rc, o, by rfl, by go_num, HO, INS, HB, by omega, by omega, by omega⟩
            · have g1 : (y == x) = false := by simp [hyx]
              by_cases hyn : y = wrap64 (-x)
              · have g2 : (y == wrap64 (-x)) = true := by simp [hyn]
                have hxm : x ≠ wrap64 (-x) := fun e => hyx (hyn.trans e.symm)
                have g3 : (x != wrap64 (-x)) = true := by simp [hxm]
                have hz9 := HXZ.out
                unfold I64 at hz9
                have hyn2 : y = -x := by
                  rw [hyn]
                  refine IntWalk.wrap64_in _ ⟨by omega, ?_⟩
                  rcases Int.lt_or_le (-9223372036854775808) x with h | h
                  · omega
                  · exfalso
                    have : x = -9223372036854775808 := by omega
                    rw [this] at hxm
                    exact hxm (by unfold wrap64; omega)
                have hg : G = true := by
                  rw [← HG.out, bad_iff]
                  refine ⟨x, hxl, ?_⟩
                  rw [← hyn2]
                  exact List.mem_of_mem_take ((HQ.out.mem y).1 (List.mem_of_getElem? HY.out))
                subst hg
                have HT := Lib.hid (tidy_bad HG.out)
                clear hyx hyn hxm hz9 hyn2 hxl
                go_wp2_with fail
                refine cl.mono ?_
                rintro e w9 ⟨rfl, rfl⟩
                go_wp2_with fail
                go_ret2
                exact ⟨_, rfl, by rw [HT.out]; exact Lt.nil _ _, HB.out⟩
              · have g2 : (y == wrap64 (-x)) = false := by simp [hyn]
                have hz9 := HXZ.out
                have hyz := HOW.out.1 y (List.mem_of_getElem? HY.out)
                unfold I64 at hz9 hyz
                have hgt : x.natAbs < y.natAbs := by
                  have h1 := HNL.out
                  rcases Nat.lt_or_ge x.natAbs y.natAbs with h2 | h2
                  · exact h2
                  · exfalso
                    have h3 : y = -x := by omega
                    apply hyn
                    rw [IntWalk.wrap64_in _ ⟨by omega, by omega⟩]
                    exact h3
                have INS := Lib.hid (HQ.out.put HX.out H0.out (by omega) HE.out fun z hz => by rw [HY.out] at hz; obtain rfl := Option.some.inj hz; exact hgt)
                clear hyx hyn hz9 hyz hgt
                go_wp2_with fail
                refine cl.mono ?_
                rintro e w9 ⟨rfl, rfl⟩
                go_upto_region 13 with fail
                clear cl cy
                obtain ⟨ra, hra⟩ : ∃ ra : Option Addr, some (⟨R, 0, none⟩ : Addr) = ra := ⟨_, rfl⟩
                rw [hra] at HO HOW ⊢
                clear hra
                rename World => wc
                have hle : t ≤ m := by omega
                obtain ⟨vt, hrun, hslt⟩ := tail_lit HOW.out HQ.out.len hle
                obtain ⟨HC, hHC⟩ : ∃ HC, lcells (o.take t) = HC := ⟨_, rfl⟩
                obtain ⟨TC, hTC⟩ : ∃ TC, lcells (o.drop t) = TC := ⟨_, rfl⟩
                have SH : Hid (∀ u, Below wc.heap.size wc u → Src Try.prog 1 22 (.slice ra t rc) t HC u) := Lib.hid fun u hu => by
                  rw [← hHC]
                  exact (head_lit (HOW.out.below hu) HQ.out.len hle).src
                have ST : Hid (∀ u, Below wc.heap.size wc u → Src Try.prog 1 22 vt (m - t) TC u) := Lib.hid fun u hu => by
                  have h := hslt u hu
                  obtain ⟨ta, tc, e⟩ := h.shape
                  rw [List.length_drop, HQ.out.len] at e
                  subst e
                  rw [← hTC]
                  exact h.src
                obtain ⟨_, _, eo, hrc, _⟩ := own_shape HOW.out.2
                rw [HQ.out.len] at eo hrc
                simp only [Value.slice.injEq, true_and] at eo
                obtain ⟨hx9, rfl⟩ := eo
                clear hx9
                have HEADH := Lib.hid (fun w => at_sliceL (w := w) (slice_headL ra m rc t (by omega) w))
                have TAILH := Lib.hid (fun w => at_sliceL (hrun w))
                have HHC := Lib.hid hHC
                have HTC := Lib.hid hTC
                obtain ⟨i0, hi0, hz0, hz1, hz2⟩ := info_parts infoLit
                have HI0 := Lib.hid hi0
                clear hrun hslt hHC hTC hi0
                refine wp_region_held (S := fun u => Below wc.heap.size wc u) (by kernel_rfl) ?_
                have hS0 : Below wc.heap.size wc wc.drew := (Below.refl _ _).drew
                change wpAnyH _ _ _ _ _ 12 _ _ wc.drew
                generalize wc.drew = u0 at *
                refine wpAnyH_take (i := 0) (v := .slice ra m rc) rfl (by kernel_rfl) (by kernel_rfl) (by kernel_rfl) (fun _ _ _ h => h) (.inl ⟨rfl, fun w _ => rfl⟩) hS0 ?_
                simp only [Act.put, List.getElem_toArray, List.getElem_cons_zero, List.getElem_cons_succ, List.setIfInBounds_toArray, List.set_cons_zero, List.set_cons_succ]
                refine wpAnyH_take (i := 1) (v := .int .i64 t) rfl (by kernel_rfl) (by kernel_rfl) (by kernel_rfl) (fun _ _ _ h => h) (.inl ⟨rfl, fun w _ => rfl⟩) hS0 ?_
                simp only [Act.put, List.getElem_toArray, List.getElem_cons_zero, List.getElem_cons_succ, List.setIfInBounds_toArray, List.set_cons_zero, List.set_cons_succ]
                refine wpAnyH_take (i := 7) (v := .slice ra m rc) rfl (by kernel_rfl) (by kernel_rfl) (by kernel_rfl) (fun _ _ _ h => h) (.inl ⟨rfl, fun w _ => rfl⟩) hS0 ?_
                simp only [Act.put, List.getElem_toArray, List.getElem_cons_zero, List.getElem_cons_succ, List.setIfInBounds_toArray, List.set_cons_zero, List.set_cons_succ]
                refine wpAnyH_take (i := 8) (v := .int .i64 t) rfl (by kernel_rfl) (by kernel_rfl) (by kernel_rfl) (fun _ _ _ h => h) (.inl ⟨rfl, fun w _ => rfl⟩) hS0 ?_
                simp only [Act.put, List.getElem_toArray, List.getElem_cons_zero, List.getElem_cons_succ, List.setIfInBounds_toArray, List.set_cons_zero, List.set_cons_succ]
                refine wpAnyH_take (i := 4) (v := .int .i64 x) rfl (by kernel_rfl) (by kernel_rfl) (by kernel_rfl) (fun _ _ _ h => h) (.inl ⟨rfl, fun w _ => rfl⟩) hS0 ?_
                simp only [Act.put, List.getElem_toArray, List.getElem_cons_zero, List.getElem_cons_succ, List.setIfInBounds_toArray, List.set_cons_zero, List.set_cons_succ]
                refine wpAnyH_take (i := 2) (v := .slice ra t rc) rfl (by kernel_rfl) (by kernel_rfl) (by kernel_rfl) (fun _ _ _ h => h) (.inl ⟨rfl, fun w _ => by simp [execOp]; erw [HEADH.out w]; rfl⟩) hS0 ?_
                simp only [Act.put, List.getElem_toArray, List.getElem_cons_zero, List.getElem_cons_succ, List.setIfInBounds_toArray, List.set_cons_zero, List.set_cons_succ]
                refine wpAnyH_take (i := 9) (v := vt) rfl (by kernel_rfl) (by kernel_rfl) (by kernel_rfl) (fun _ _ _ h => h) (.inl ⟨rfl, fun w _ => by simp [execOp]; erw [TAILH.out w]; rfl⟩) hS0 ?_
                simp only [Act.put, List.getElem_toArray, List.getElem_cons_zero, List.getElem_cons_succ, List.setIfInBounds_toArray, List.set_cons_zero, List.set_cons_succ]
                refine wpAnyH_all (rs := [3, 5]) (by kernel_rfl) (by simp) ?_
                intro i hi
                simp only [List.mem_cons, List.not_mem_nil, or_false] at hi
                rcases hi with rfl | rfl
                · have hz := hS0.size
                  refine Reg.wpOp_list rfl ?_
                  (refine Own.wpList_append_src rfl (.const (.slice none 0 0)) (.tmp 63) 22 22 rfl wc.heap.size 45 i0 _ 1 8 Try.underlying22 HI0.out hz0 hz1 hz2 rfl _ 0 [] rfl (World.ownsRow_nil _ _ _ _) _ t HC rfl (SH.out _ hS0) (by simp only [maxLen]; omega) (by omega) hz ?_; intro v3 u1 o3 g3)
                  go_wp2_with fail
                  change _ ∧ _
                  have hS1 : Below wc.heap.size wc u1 := Own.below_grown hS0 (World.ownsRow_nil u0 wc.heap.size 45 1) g3 hz
                  rw [Nat.zero_add, List.nil_append] at o3
                  have O3 := Lib.hid o3
                  refine ⟨hS1, ?_⟩
                  clear o3 g3 hz
                  have hba := (Below.refl u1.heap.size u1).alloc (Nat.le_refl _) (.cells #[.int .i64 x] 45)
                  have ia5 := Blk.Is.new u1 45 #[.int .i64 x]
                  obtain ⟨u2, hu2⟩ : ∃ u2, u1.alloc (.cells #[.int .i64 x] 45) = u2 := ⟨_, rfl⟩
                  rw [hu2] at hba ia5
                  have hS2 : Below wc.heap.size wc u2 := hS1.trans (hba.mono hS1.size)
                  have I5 := Lib.hid ia5
                  obtain ⟨b5, hb5⟩ : ∃ b5, u1.heap.size = b5 := ⟨_, rfl⟩
                  rw [hb5] at I5
                  have O3' := Lib.hid (Own.owns_below O3.out hba)
                  clear O3
                  have O3 := O3'
                  clear O3'
                  refine wpAnyH_all (rs := [5]) (by kernel_rfl) (by simp) ?_
                  intro i hi
                  obtain rfl := List.mem_singleton.1 hi
                  refine Reg.wpOp_list rfl ?_
                  go_wp2_with fail
                  change _ ∧ _
                  refine ⟨hS2, ?_⟩
                  clear hu2 hba ia5 hb5
                  refine wpAnyH_all (rs := [6]) (by kernel_rfl) (by simp) ?_
                  intro i hi
                  obtain rfl := List.mem_singleton.1 hi
                  have hz := hS2.size
                  have S5 : Src Try.prog 1 22 (.slice (some ⟨b5, 0, none⟩) 1 1) 1 (lcells [x]) u2 := Src.ofSlice _ Try.underlying22 ⟨b5, 0, none⟩ 1 1 _ rfl (fun j u hj => by
                    cases j with
                    | zero => simp [lcells] at hj; subst hj; rw [Addr.add_mid]; exact I5.out.at (i := 0) rfl
                    | succ j => simp [lcells] at hj) (lcells_one _)
                  refine Reg.wpOp_list rfl ?_
                  (refine Own.wpList_append_src rfl (.tmp 64) (.tmp 66) 22 22 rfl wc.heap.size 45 i0 _ 1 8 Try.underlying22 HI0.out hz0 hz1 hz2 rfl v3 t HC rfl O3.out (.slice (some ⟨b5, 0, none⟩) 1 1) 1 (lcells [x]) rfl S5 (by simp only [maxLen]; omega) (by omega) hz ?_; intro v6 u3 o6 g6)
                  go_wp2_with fail
                  change _ ∧ _
                  have hS3 : Below wc.heap.size wc u3 := Own.below_grown hS2 O3.out g6 hz
                  have O6 := Lib.hid o6
                  refine ⟨hS3, ?_⟩
                  clear o6 g6 hz O3 I5 S5
                  refine wpAnyH_all (rs := [10]) (by kernel_rfl) (by simp) ?_
                  intro i hi
                  obtain rfl := List.mem_singleton.1 hi
                  have hz := hS3.size
                  refine Reg.wpOp_list rfl ?_
                  (refine Own.wpList_append_src rfl (.tmp 67) (.tmp 70) 22 22 rfl wc.heap.size 45 i0 _ 1 8 Try.underlying22 HI0.out hz0 hz1 hz2 rfl v6 (t + 1) (HC ++ lcells [x]) rfl O6.out vt (m - t) TC rfl (ST.out _ hS3) (by simp only [maxLen]; omega) (by omega) hz ?_; intro v10 u4 o10 g10)
                  go_wp2_with fail
                  change _ ∧ _
                  have hS4 : Below wc.heap.size wc u4 := Own.below_grown hS3 O6.out g10 hz
                  rw [show t + 1 + (m - t) = m + 1 by omega] at o10
                  obtain ⟨a10, c10, rfl, _⟩ := own_shape o10
                  have O10 := Lib.hid o10
                  refine ⟨hS4, ?_⟩
                  clear o10 g10 hz O6
                  refine wpAnyH_all (rs := [11]) (by kernel_rfl) (by simp) ?_
                  intro i hi
                  obtain rfl := List.mem_singleton.1 hi
                  refine Reg.wpOp_list rfl ?_
                  go_wp2_with fail
                  change _ ∧ _
                  refine ⟨hS4, ?_⟩
                  refine wpAnyH_done (by kernel_rfl) ?_ _
                  have hbz := BWW.out.trans (hS4.mono BWW.out.size)
                  have hfin := own_mono O10.out BWW.out.size
                  have hcat : (HC ++ lcells [x]) ++ TC = lcells (o.take t ++ [x] ++ o.drop t) := by
                    rw [← HHC.out, ← HTC.out]
                    unfold lcells
                    simp
                  rw [hcat] at hfin
                  have HFIN : Hid (Lt u4 w.heap.size (.slice a10 (m + 1) c10) (o.take t ++ [x] ++ o.drop t)) := Lib.hid ⟨fun z hz => by
                    rcases mem_put.1 hz with h1 | h1
                    · exact HOW.out.1 z h1
                    · rw [h1]; exact HXZ.out, by rw [INS.out.len]; exact hfin⟩
                  have BZ := Lib.hid hbz
                  clear hS0 hS1 hS2 hS3 hS4 hbz hfin hcat
                  go_wp2_with fail
                  go_roundg g'
                  case measure => omega
                  case rel => exact ⟨k + 1, m + 1, a10, c10, o.take t ++ [x] ++ o.drop t, rfl, by go_num, HFIN, INS, BZ, by omega, by omega, by omega⟩
                · have hba := (Below.refl u0.heap.size u0).alloc (Nat.le_refl _) (.cells #[.int .i64 x] 45)
                  have ia5 := Blk.Is.new u0 45 #[.int .i64 x]
                  obtain ⟨u1, hu1⟩ : ∃ u1, u0.alloc (.cells #[.int .i64 x] 45) = u1 := ⟨_, rfl⟩
                  rw [hu1] at hba ia5
                  have hS1 : Below wc.heap.size wc u1 := hS0.trans (hba.mono hS0.size)
                  have I5 := Lib.hid ia5
                  obtain ⟨b5, hb5⟩ : ∃ b5, u0.heap.size = b5 := ⟨_, rfl⟩
                  rw [hb5] at I5
                  refine Reg.wpOp_list rfl ?_
                  go_wp2_with fail
                  change _ ∧ _
                  refine ⟨hS1, ?_⟩
                  clear hu1 hba ia5 hb5
                  refine wpAnyH_all (rs := [3]) (by kernel_rfl) (by simp) ?_
                  intro i hi
                  obtain rfl := List.mem_singleton.1 hi
                  have hz := hS1.size
                  refine Reg.wpOp_list rfl ?_
                  (refine Own.wpList_append_src rfl (.const (.slice none 0 0)) (.tmp 63) 22 22 rfl wc.heap.size 45 i0 _ 1 8 Try.underlying22 HI0.out hz0 hz1 hz2 rfl _ 0 [] rfl (World.ownsRow_nil _ _ _ _) _ t HC rfl (SH.out _ hS1) (by simp only [maxLen]; omega) (by omega) hz ?_; intro v3 u2 o3 g3)
                  go_wp2_with fail
                  change _ ∧ _
                  have hS2 : Below wc.heap.size wc u2 := Own.below_grown hS1 (World.ownsRow_nil u1 wc.heap.size 45 1) g3 hz
                  rw [Nat.zero_add, List.nil_append] at o3
                  have O3 := Lib.hid o3
                  have I5' := is_on I5.out (Own.below_grown (Below.refl u1.heap.size u1) (World.ownsRow_nil u1 u1.heap.size 45 1) g3 (Nat.le_refl _))
                  clear I5
                  have I5 := Lib.hid I5'
                  refine ⟨hS2, ?_⟩
                  clear o3 g3 hz
                  refine wpAnyH_all (rs := [6]) (by kernel_rfl) (by simp) ?_
                  intro i hi
                  obtain rfl := List.mem_singleton.1 hi
                  have hz := hS2.size
                  have S5 : Src Try.prog 1 22 (.slice (some ⟨b5, 0, none⟩) 1 1) 1 (lcells [x]) u2 := Src.ofSlice _ Try.underlying22 ⟨b5, 0, none⟩ 1 1 _ rfl (fun j u hj => by
                    cases j with
                    | zero => simp [lcells] at hj; subst hj; rw [Addr.add_mid]; exact I5.out.at (i := 0) rfl
                    | succ j => simp [lcells] at hj) (lcells_one _)
                  refine Reg.wpOp_list rfl ?_
                  (refine Own.wpList_append_src rfl (.tmp 64) (.tmp 66) 22 22 rfl wc.heap.size 45 i0 _ 1 8 Try.underlying22 HI0.out hz0 hz1 hz2 rfl v3 t HC rfl O3.out (.slice (some ⟨b5, 0, none⟩) 1 1) 1 (lcells [x]) rfl S5 (by simp only [maxLen]; omega) (by omega) hz ?_; intro v6 u3 o6 g6)
                  go_wp2_with fail
                  change _ ∧ _
                  have hS3 : Below wc.heap.size wc u3 := Own.below_grown hS2 O3.out g6 hz
                  have O6 := Lib.hid o6
                  refine ⟨hS3, ?_⟩
                  clear o6 g6 hz O3 I5 S5
                  refine wpAnyH_all (rs := [10]) (by kernel_rfl) (by simp) ?_
                  intro i hi
                  obtain rfl := List.mem_singleton.1 hi
                  have hz := hS3.size
                  refine Reg.wpOp_list rfl ?_
                  (refine Own.wpList_append_src rfl (.tmp 67) (.tmp 70) 22 22 rfl wc.heap.size 45 i0 _ 1 8 Try.underlying22 HI0.out hz0 hz1 hz2 rfl v6 (t + 1) (HC ++ lcells [x]) rfl O6.out vt (m - t) TC rfl (ST.out _ hS3) (by simp only [maxLen]; omega) (by omega) hz ?_; intro v10 u4 o10 g10)
                  go_wp2_with fail
                  change _ ∧ _
                  have hS4 : Below wc.heap.size wc u4 := Own.below_grown hS3 O6.out g10 hz
                  rw [show t + 1 + (m - t) = m + 1 by omega] at o10
                  obtain ⟨a10, c10, rfl, _⟩ := own_shape o10
                  have O10 := Lib.hid o10
                  refine ⟨hS4, ?_⟩
                  clear o10 g10 hz O6
                  refine wpAnyH_all (rs := [11]) (by kernel_rfl) (by simp) ?_
                  intro i hi
                  obtain rfl := List.mem_singleton.1 hi
                  refine Reg.wpOp_list rfl ?_
                  go_wp2_with fail
                  change _ ∧ _
                  refine ⟨hS4, ?_⟩
                  refine wpAnyH_done (by kernel_rfl) ?_ _
                  have hbz := BWW.out.trans (hS4.mono BWW.out.size)
                  have hfin := own_mono O10.out BWW.out.size
                  have hcat : (HC ++ lcells [x]) ++ TC = lcells (o.take t ++ [x] ++ o.drop t) := by
                    rw [← HHC.out, ← HTC.out]
                    unfold lcells
                    simp
                  rw [hcat] at hfin
                  have HFIN : Hid (Lt u4 w.heap.size (.slice a10 (m + 1) c10) (o.take t ++ [x] ++ o.drop t)) := Lib.hid ⟨fun z hz => by
                    rcases mem_put.1 hz with h1 | h1
                    · exact HOW.out.1 z h1
                    · rw [h1]; exact HXZ.out, by rw [INS.out.len]; exact hfin⟩
                  have BZ := Lib.hid hbz
                  clear hS0 hS1 hS2 hS3 hS4 hbz hfin hcat
                  go_wp2_with fail
                  go_roundg g'
                  case measure => omega
                  case rel => exact ⟨k + 1, m + 1, a10, c10, o.take t ++ [x] ++ o.drop t, rfl, by go_num, HFIN, INS, BZ, by omega, by omega, by omega⟩
        · obtain rfl : t = m := by omega
          have hge : decide ((t : Int) < (t : Int)) = false := by simp
          have hge9 : ¬ (t : Int) < (t : Int) := by omega
          have INS := Lib.hid (HQ.out.put HX.out H0.out (by omega) HE.out fun z hz => by rw [List.getElem?_eq_none (by rw [HQ.out.len]; exact Nat.le_refl _)] at hz; cases hz)
          go_upto_region 13 with fail
          rename World => wc
          have hle : t ≤ t := by omega
          obtain ⟨vt, hrun, hslt⟩ := tail_lit HOW.out HQ.out.len hle
          obtain ⟨HC, hHC⟩ : ∃ HC, lcells (o.take t) = HC := ⟨_, rfl⟩
          obtain ⟨TC, hTC⟩ : ∃ TC, lcells (o.drop t) = TC := ⟨_, rfl⟩
          have SH : Hid (∀ u, Below wc.heap.size wc u → Src Try.prog 1 22 (.slice ra t rc) t HC u) := Lib.hid fun u hu => by
            rw [← hHC]
            exact (head_lit (HOW.out.below hu) HQ.out.len hle).src
          have ST : Hid (∀ u, Below wc.heap.size wc u → Src Try.prog 1 22 vt (t - t) TC u) := Lib.hid fun u hu => by
            have h := hslt u hu
            obtain ⟨ta, tc, e⟩ := h.shape
            rw [List.length_drop, HQ.out.len] at e
            subst e
            rw [← hTC]
            exact h.src
          obtain ⟨_, _, eo, hrc, _⟩ := own_shape HOW.out.2
          rw [HQ.out.len] at eo hrc
          simp only [Value.slice.injEq, true_and] at eo
          obtain ⟨hx9, rfl⟩ := eo
          clear hx9
          have HEADH := Lib.hid (fun w => at_sliceL (w := w) (slice_headL ra t rc t (by omega) w))
          have TAILH := Lib.hid (fun w => at_sliceL (hrun w))
          have HHC := Lib.hid hHC
          have HTC := Lib.hid hTC
          obtain ⟨i0, hi0, hz0, hz1, hz2⟩ := info_parts infoLit
          have HI0 := Lib.hid hi0
          clear hrun hslt hHC hTC hi0
          refine wp_region_held (S := fun u => Below wc.heap.size wc u) (by kernel_rfl) ?_
          have hS0 : Below wc.heap.size wc wc.drew := (Below.refl _ _).drew
          change wpAnyH _ _ _ _ _ 12 _ _ wc.drew
          generalize wc.drew = u0 at *
          refine wpAnyH_take (i := 0) (v := .slice ra t rc) rfl (by kernel_rfl) (by kernel_rfl) (by kernel_rfl) (fun _ _ _ h => h) (.inl ⟨rfl, fun w _ => rfl⟩) hS0 ?_
          simp only [Act.put, List.getElem_toArray, List.getElem_cons_zero, List.getElem_cons_succ, List.setIfInBounds_toArray, List.set_cons_zero, List.set_cons_succ]
          refine wpAnyH_take (i := 1) (v := .int .i64 t) rfl (by kernel_rfl) (by kernel_rfl) (by kernel_rfl) (fun _ _ _ h => h) (.inl ⟨rfl, fun w _ => rfl⟩) hS0 ?_
          simp only [Act.put, List.getElem_toArray, List.getElem_cons_zero, List.getElem_cons_succ, List.setIfInBounds_toArray, List.set_cons_zero, List.set_cons_succ]
          refine wpAnyH_take (i := 7) (v := .slice ra t rc) rfl (by kernel_rfl) (by kernel_rfl) (by kernel_rfl) (fun _ _ _ h => h) (.inl ⟨rfl, fun w _ => rfl⟩) hS0 ?_
          simp only [Act.put, List.getElem_toArray, List.getElem_cons_zero, List.getElem_cons_succ, List.setIfInBounds_toArray, List.set_cons_zero, List.set_cons_succ]
          refine wpAnyH_take (i := 8) (v := .int .i64 t) rfl (by kernel_rfl) (by kernel_rfl) (by kernel_rfl) (fun _ _ _ h => h) (.inl ⟨rfl, fun w _ => rfl⟩) hS0 ?_
          simp only [Act.put, List.getElem_toArray, List.getElem_cons_zero, List.getElem_cons_succ, List.setIfInBounds_toArray, List.set_cons_zero, List.set_cons_succ]
          refine wpAnyH_take (i := 4) (v := .int .i64 x) rfl (by kernel_rfl) (by kernel_rfl) (by kernel_rfl) (fun _ _ _ h => h) (.inl ⟨rfl, fun w _ => rfl⟩) hS0 ?_
          simp only [Act.put, List.getElem_toArray, List.getElem_cons_zero, List.getElem_cons_succ, List.setIfInBounds_toArray, List.set_cons_zero, List.set_cons_succ]
          refine wpAnyH_take (i := 2) (v := .slice ra t rc) rfl (by kernel_rfl) (by kernel_rfl) (by kernel_rfl) (fun _ _ _ h => h) (.inl ⟨rfl, fun w _ => by simp [execOp]; erw [HEADH.out w]; rfl⟩) hS0 ?_
          simp only [Act.put, List.getElem_toArray, List.getElem_cons_zero, List.getElem_cons_succ, List.setIfInBounds_toArray, List.set_cons_zero, List.set_cons_succ]
          refine wpAnyH_take (i := 9) (v := vt) rfl (by kernel_rfl) (by kernel_rfl) (by kernel_rfl) (fun _ _ _ h => h) (.inl ⟨rfl, fun w _ => by simp [execOp]; erw [TAILH.out w]; rfl⟩) hS0 ?_
          simp only [Act.put, List.getElem_toArray, List.getElem_cons_zero, List.getElem_cons_succ, List.setIfInBounds_toArray, List.set_cons_zero, List.set_cons_succ]
          refine wpAnyH_all (rs := [3, 5]) (by kernel_rfl) (by simp) ?_
          intro i hi
          simp only [List.mem_cons, List.not_mem_nil, or_false] at hi
          rcases hi with rfl | rfl
          · have hz := hS0.size
            refine Reg.wpOp_list rfl ?_
            (refine Own.wpList_append_src rfl (.const (.slice none 0 0)) (.tmp 63) 22 22 rfl wc.heap.size 45 i0 _ 1 8 Try.underlying22 HI0.out hz0 hz1 hz2 rfl _ 0 [] rfl (World.ownsRow_nil _ _ _ _) _ t HC rfl (SH.out _ hS0) (by simp only [maxLen]; omega) (by omega) hz ?_; intro v3 u1 o3 g3)
            go_wp2_with fail
            change _ ∧ _
            have hS1 : Below wc.heap.size wc u1 := Own.below_grown hS0 (World.ownsRow_nil u0 wc.heap.size 45 1) g3 hz
            rw [Nat.zero_add, List.nil_append] at o3
            have O3 := Lib.hid o3
            refine ⟨hS1, ?_⟩
            clear o3 g3 hz
            have hba := (Below.refl u1.heap.size u1).alloc (Nat.le_refl _) (.cells #[.int .i64 x] 45)
            have ia5 := Blk.Is.new u1 45 #[.int .i64 x]
            obtain ⟨u2, hu2⟩ : ∃ u2, u1.alloc (.cells #[.int .i64 x] 45) = u2 := ⟨_, rfl⟩
            rw [hu2] at hba ia5
            have hS2 : Below wc.heap.size wc u2 := hS1.trans (hba.mono hS1.size)
            have I5 := Lib.hid ia5
            obtain ⟨b5, hb5⟩ : ∃ b5, u1.heap.size = b5 := ⟨_, rfl⟩
            rw [hb5] at I5
            have O3' := Lib.hid (Own.owns_below O3.out hba)
            clear O3
            have O3 := O3'
            clear O3'
            refine wpAnyH_all (rs := [5]) (by kernel_rfl) (by simp) ?_
            intro i hi
            obtain rfl := List.mem_singleton.1 hi
            refine Reg.wpOp_list rfl ?_
            go_wp2_with fail
            change _ ∧ _
            refine ⟨hS2, ?_⟩
            clear hu2 hba ia5 hb5
            refine wpAnyH_all (rs := [6]) (by kernel_rfl) (by simp) ?_
            intro i hi
            obtain rfl := List.mem_singleton.1 hi
            have hz := hS2.size
            have S5 : Src Try.prog 1 22 (.slice (some ⟨b5, 0, none⟩) 1 1) 1 (lcells [x]) u2 := Src.ofSlice _ Try.underlying22 ⟨b5, 0, none⟩ 1 1 _ rfl (fun j u hj => by
              cases j with
              | zero => simp [lcells] at hj; subst hj; rw [Addr.add_mid]; exact I5.out.at (i := 0) rfl
              | succ j => simp [lcells] at hj) (lcells_one _)
            refine Reg.wpOp_list rfl ?_
            (refine Own.wpList_append_src rfl (.tmp 64) (.tmp 66) 22 22 rfl wc.heap.size 45 i0 _ 1 8 Try.underlying22 HI0.out hz0 hz1 hz2 rfl v3 t HC rfl O3.out (.slice (some ⟨b5, 0, none⟩) 1 1) 1 (lcells [x]) rfl S5 (by simp only [maxLen]; omega) (by omega) hz ?_; intro v6 u3 o6 g6)
            go_wp2_with fail
            change _ ∧ _
            have hS3 : Below wc.heap.size wc u3 := Own.below_grown hS2 O3.out g6 hz
            have O6 := Lib.hid o6
            refine ⟨hS3, ?_⟩
            clear o6 g6 hz O3 I5 S5
            refine wpAnyH_all (rs := [10]) (by kernel_rfl) (by simp) ?_
            intro i hi
            obtain rfl := List.mem_singleton.1 hi
            have hz := hS3.size
            refine Reg.wpOp_list rfl ?_
            (refine Own.wpList_append_src rfl (.tmp 67) (.tmp 70) 22 22 rfl wc.heap.size 45 i0 _ 1 8 Try.underlying22 HI0.out hz0 hz1 hz2 rfl v6 (t + 1) (HC ++ lcells [x]) rfl O6.out vt (t - t) TC rfl (ST.out _ hS3) (by simp only [maxLen]; omega) (by omega) hz ?_; intro v10 u4 o10 g10)
            go_wp2_with fail
            change _ ∧ _
            have hS4 : Below wc.heap.size wc u4 := Own.below_grown hS3 O6.out g10 hz
            rw [show t + 1 + (t - t) = t + 1 by omega] at o10
            obtain ⟨a10, c10, rfl, _⟩ := own_shape o10
            have O10 := Lib.hid o10
            refine ⟨hS4, ?_⟩
            clear o10 g10 hz O6
            refine wpAnyH_all (rs := [11]) (by kernel_rfl) (by simp) ?_
            intro i hi
            obtain rfl := List.mem_singleton.1 hi
            refine Reg.wpOp_list rfl ?_
            go_wp2_with fail
            change _ ∧ _
            refine ⟨hS4, ?_⟩
            refine wpAnyH_done (by kernel_rfl) ?_ _
            have hbz := BWW.out.trans (hS4.mono BWW.out.size)
            have hfin := own_mono O10.out BWW.out.size
            have hcat : (HC ++ lcells [x]) ++ TC = lcells (o.take t ++ [x] ++ o.drop t) := by
              rw [← HHC.out, ← HTC.out]
              unfold lcells
              simp
            rw [hcat] at hfin
            have HFIN : Hid (Lt u4 w.heap.size (.slice a10 (t + 1) c10) (o.take t ++ [x] ++ o.drop t)) := Lib.hid ⟨fun z hz => by
              rcases mem_put.1 hz with h1 | h1
              · exact HOW.out.1 z h1
              · rw [h1]; exact HXZ.out, by rw [INS.out.len]; exact hfin⟩
            have BZ := Lib.hid hbz
            clear hS0 hS1 hS2 hS3 hS4 hbz hfin hcat
            go_wp2_with fail
            go_roundg g'
            case measure => omega
            case rel => exact ⟨k + 1, t + 1, a10, c10, o.take t ++ [x] ++ o.drop t, rfl, by go_num, HFIN, INS, BZ, by omega, by omega, by omega⟩
          · have hba := (Below.refl u0.heap.size u0).alloc (Nat.le_refl _) (.cells #[.int .i64 x] 45)
            have ia5 := Blk.Is.new u0 45 #[.int .i64 x]
            obtain ⟨u1, hu1⟩ : ∃ u1, u0.alloc (.cells #[.int .i64 x] 45) = u1 := ⟨_, rfl⟩
            rw [hu1] at hba ia5
            have hS1 : Below wc.heap.size wc u1 := hS0.trans (hba.mono hS0.size)
            have I5 := Lib.hid ia5
            obtain ⟨b5, hb5⟩ : ∃ b5, u0.heap.size = b5 := ⟨_, rfl⟩
            rw [hb5] at I5
            refine Reg.wpOp_list rfl ?_
            go_wp2_with fail
            change _ ∧ _
            refine ⟨hS1, ?_⟩
            clear hu1 hba ia5 hb5
            refine wpAnyH_all (rs := [3]) (by kernel_rfl) (by simp) ?_
            intro i hi
            obtain rfl := List.mem_singleton.1 hi
            have hz := hS1.size
            refine Reg.wpOp_list rfl ?_
            (refine Own.wpList_append_src rfl (.const (.slice none 0 0)) (.tmp 63) 22 22 rfl wc.heap.size 45 i0 _ 1 8 Try.underlying22 HI0.out hz0 hz1 hz2 rfl _ 0 [] rfl (World.ownsRow_nil _ _ _ _) _ t HC rfl (SH.out _ hS1) (by simp only [maxLen]; omega) (by omega) hz ?_; intro v3 u2 o3 g3)
            go_wp2_with fail
            change _ ∧ _
            have hS2 : Below wc.heap.size wc u2 := Own.below_grown hS1 (World.ownsRow_nil u1 wc.heap.size 45 1) g3 hz
            rw [Nat.zero_add, List.nil_append] at o3
            have O3 := Lib.hid o3
            have I5' := is_on I5.out (Own.below_grown (Below.refl u1.heap.size u1) (World.ownsRow_nil u1 u1.heap.size 45 1) g3 (Nat.le_refl _))
            clear I5
            have I5 := Lib.hid I5'
            refine ⟨hS2, ?_⟩
            clear o3 g3 hz
            refine wpAnyH_all (rs := [6]) (by kernel_rfl) (by simp) ?_
            intro i hi
            obtain rfl := List.mem_singleton.1 hi
            have hz := hS2.size
            have S5 : Src Try.prog 1 22 (.slice (some ⟨b5, 0, none⟩) 1 1) 1 (lcells [x]) u2 := Src.ofSlice _ Try.underlying22 ⟨b5, 0, none⟩ 1 1 _ rfl (fun j u hj => by
              cases j with
              | zero => simp [lcells] at hj; subst hj; rw [Addr.add_mid]; exact I5.out.at (i := 0) rfl
              | succ j => simp [lcells] at hj) (lcells_one _)
            refine Reg.wpOp_list rfl ?_
            (refine Own.wpList_append_src rfl (.tmp 64) (.tmp 66) 22 22 rfl wc.heap.size 45 i0 _ 1 8 Try.underlying22 HI0.out hz0 hz1 hz2 rfl v3 t HC rfl O3.out (.slice (some ⟨b5, 0, none⟩) 1 1) 1 (lcells [x]) rfl S5 (by simp only [maxLen]; omega) (by omega) hz ?_; intro v6 u3 o6 g6)
            go_wp2_with fail
            change _ ∧ _
            have hS3 : Below wc.heap.size wc u3 := Own.below_grown hS2 O3.out g6 hz
            have O6 := Lib.hid o6
            refine ⟨hS3, ?_⟩
            clear o6 g6 hz O3 I5 S5
            refine wpAnyH_all (rs := [10]) (by kernel_rfl) (by simp) ?_
            intro i hi
            obtain rfl := List.mem_singleton.1 hi
            have hz := hS3.size
            refine Reg.wpOp_list rfl ?_
            (refine Own.wpList_append_src rfl (.tmp 67) (.tmp 70) 22 22 rfl wc.heap.size 45 i0 _ 1 8 Try.underlying22 HI0.out hz0 hz1 hz2 rfl v6 (t + 1) (HC ++ lcells [x]) rfl O6.out vt (t - t) TC rfl (ST.out _ hS3) (by simp only [maxLen]; omega) (by omega) hz ?_; intro v10 u4 o10 g10)
            go_wp2_with fail
            change _ ∧ _
            have hS4 : Below wc.heap.size wc u4 := Own.below_grown hS3 O6.out g10 hz
            rw [show t + 1 + (t - t) = t + 1 by omega] at o10
            obtain ⟨a10, c10, rfl, _⟩ := own_shape o10
            have O10 := Lib.hid o10
            refine ⟨hS4, ?_⟩
            clear o10 g10 hz O6
            refine wpAnyH_all (rs := [11]) (by kernel_rfl) (by simp) ?_
            intro i hi
            obtain rfl := List.mem_singleton.1 hi
            refine Reg.wpOp_list rfl ?_
            go_wp2_with fail
            change _ ∧ _
            refine ⟨hS4, ?_⟩
            refine wpAnyH_done (by kernel_rfl) ?_ _
            have hbz := BWW.out.trans (hS4.mono BWW.out.size)
            have hfin := own_mono O10.out BWW.out.size
            have hcat : (HC ++ lcells [x]) ++ TC = lcells (o.take t ++ [x] ++ o.drop t) := by
              rw [← HHC.out, ← HTC.out]
              unfold lcells
              simp
            rw [hcat] at hfin
            have HFIN : Hid (Lt u4 w.heap.size (.slice a10 (t + 1) c10) (o.take t ++ [x] ++ o.drop t)) := Lib.hid ⟨fun z hz => by
              rcases mem_put.1 hz with h1 | h1
              · exact HOW.out.1 z h1
              · rw [h1]; exact HXZ.out, by rw [INS.out.len]; exact hfin⟩
            have BZ := Lib.hid hbz
            clear hS0 hS1 hS2 hS3 hS4 hbz hfin hcat
            go_wp2_with fail
            go_roundg g'
            case measure => omega
            case rel => exact ⟨k + 1, t + 1, a10, c10, o.take t ++ [x] ++ o.drop t, rfl, by go_num, HFIN, INS, BZ, by omega, by omega, by omega⟩
    · obtain rfl : k = N := by omega
      have hge : ¬ (k : Int) < (k : Int) := by omega
      have hq := HQ.out
      have e0 : l.take k = l := by rw [← HN.out, List.take_length]
      have hb : bad l = false := by rw [← e0]; exact hq.good
      have hg : G = false := by rw [← HG.out]; exact hb
      subst hg
      have HT := Lib.hid ((tid_of hb hq.up (fun x => by rw [hq.mem x, e0])).trans (tidy_no hb).symm)
      clear hq e0 hb
      go_wp2_with fail
      go_ret2
      exact ⟨_, rfl, by rw [← HT.out]; exact HO.out, HB.out⟩
end Cn
end Go.Proofs.Ytlpahomaokopoaa

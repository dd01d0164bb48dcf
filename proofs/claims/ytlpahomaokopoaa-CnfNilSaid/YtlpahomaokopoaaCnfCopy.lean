/-
Copy of a set.
-/
import Derived.Test.YtlpahomaokopoaaCnfClone
namespace Go.Proofs.Ytlpahomaokopoaa
open Go.RowKit
set_option linter.unusedSimpArgs false
set_option linter.unusedVariables false
namespace Cn
theorem lt_one {w : World} {B : Nat} {u : Value} {l : List Int} (h : Lt w B u l) : u.oneCell' = true := by
  obtain ⟨a, cap, rfl, _⟩ := own_shape h.2
  rfl
theorem rows_one {w : World} {B : Nat} {v : Value} {L : List (List Int)} {hs : List Value} (h2 : ∀ (i : Nat) h, hs[i]? = some h → Lt w B h (L.getD i [])) : ∀ u ∈ hs, u.oneCell' = true := fun u hu => by
  obtain ⟨i, hi, rfl⟩ := List.mem_iff_getElem.1 hu
  exact lt_one (h2 i _ (List.getElem?_eq_getElem hi))
set_option maxRecDepth 100000 in
set_option maxHeartbeats 4000000 in
theorem copy_any {B p : Nat} {v : Value} {n : Nat} {L : List (List Int)} {w : World} (h : CSet w B p v n L) :
    Calls Try.prog 24 #[.pointer (some ⟨p, 0, none⟩)] w fun e w' => ∃ p' v', e = .returned (.pointer (some ⟨p', 0, none⟩)) ∧ CSet w' w.heap.size p' v' n L ∧ Below w.heap.size w w' := by
  have c0 : w.cell? ⟨p, 0, none⟩ = some (.int .i64 n) := h.is.at (i := 0) rfl
  have c1 : w.cell? ⟨p, 1, none⟩ = some v := h.is.at (i := 1) rfl
  have C0 := Lib.hid c0
  obtain ⟨hs, ho, hL⟩ := h.rows
  have cc := cloneLitss_any v L.length hs B w ho h.len (rows_one (v := v) hL)
  obtain ⟨a, cap, rfl, _⟩ := own_shape ho
  have hlen := h.len
  have hsl : hs.length = L.length := by rw [ho.1, Nat.mul_one]
  obtain ⟨N, hN⟩ : ∃ N, L.length = N := ⟨_, rfl⟩
  have HN := Lib.hid hN
  rw [hN] at c1 cc hlen hsl
  have HSL := Lib.hid hsl
  have HL := Lib.hid hL
  have HV := Lib.hid (And.intro h.vars (And.intro h.okay h.small))
  clear h ho hL hsl hN c0
  go_enter Try.func24, Try.ntmps24
  go_wp2_with fail
  refine cc.mono ?_
  rintro e w0 ⟨v0, rfl, o0, k0⟩
  obtain ⟨va, vc, rfl, hvc, _⟩ := own_shape o0
  have O0 := Lib.hid o0
  have K0 := Lib.hid k0
  clear cc o0 k0 c1
  go_wp2_with fail
  go_loopg [15] N (fun gf s15 wx => ∃ (i : Nat) (xs : List Value), s15 = .int .i64 i ∧ Hid (wx.ownsRow w.heap.size 22 1 (.slice va N vc) N xs) ∧ Hid (xs.length = N ∧ ∀ j, i ≤ j → xs[j]? = hs[j]?) ∧ Hid (∀ j u, j < i → xs[j]? = some u → Lt wx w.heap.size u (L.getD j [])) ∧ i ≤ N ∧ N ≤ i + gf ∧ Hid (Below w.heap.size w wx))
  case atStart => exact ⟨0, hs, rfl, O0, Lib.hid ⟨HSL.out, fun _ _ => rfl⟩, Lib.hid (fun j u hj => absurd hj (by omega)), by omega, by omega, K0⟩
  case round =>
    obtain ⟨i, xs, rfl, HO, HX, HC, hi1, hi2, HB⟩ := hrel
    by_cases hi : i < N
    · have hi' : (i : Int) < (N : Int) := by omega
      have hi0 : (0 : Int) ≤ i := by omega
      have hih : i < hs.length := by rw [HSL.out]; exact hi
      obtain ⟨g', rfl⟩ : ∃ g', gk = g' + 1 := ⟨gk - 1, by omega⟩
      obtain ⟨R, vcap, e1, hcap⟩ := own_slice HO.out (by omega)
      simp only [Value.slice.injEq, true_and] at e1
      obtain ⟨rfl, rfl⟩ := e1
      obtain ⟨u, hu⟩ : ∃ u, hs[i]? = some u := ⟨hs[i], List.getElem?_eq_getElem hih⟩
      have hxs : xs[i]? = some u := by rw [HX.out.2 i (Nat.le_refl _)]; exact hu
      have q0 := own_cell HO.out hxs
      have p1 := (HL.out i u hu).below HB.out
      have hcm : (L.getD i []).length ≤ 1000 := by
        have hil : i < L.length := by rw [HN.out]; exact hi
        rw [List.getD_eq_getElem?_getD, List.getElem?_eq_getElem hil]
        exact HV.out.2.2 _ (List.getElem_mem _)
      have cc := cloneLits_any u _ wr p1.lit (by omega)
      obtain ⟨cl, hcl⟩ : ∃ cl, L.getD i [] = cl := ⟨_, rfl⟩
      have HCL := Lib.hid hcl
      rw [hcl] at cc p1
      obtain ⟨ua, ucap, rfl⟩ := p1.lit.shape
      obtain ⟨M, hM⟩ : ∃ M, cl.length = M := ⟨_, rfl⟩
      rw [hM] at cc q0
      have HXI := Lib.hid hxs
      clear p1 hcm hcl hM hu hxs hih
      have hsz := HB.out.size
      go_wp2_with fail
      refine cc.mono ?_
      rintro e w1 ⟨v1, rfl, o1, k1⟩
      have hlt1 : i < xs.length := (List.getElem?_eq_some_iff.1 HXI.out).1
      have HO1 := Own.owns_below HO.out k1
      have fz := own_free HO1 i
      have HO2 := own_set HO1 hlt1 v1
      have hch : Blk.Chg (fun k => k = R) w1 (w1.setCell ⟨R, i, none⟩ v1) := (Blk.Chg.refl _ _).setAt rfl
      have hRt : ∀ k cs, Blk.Is w1 k 45 cs → ¬ k = R := fun k cs hk e => by
        obtain ⟨ds, hd⟩ := own_is HO1 (k := R) rfl
        subst e
        exact (hd.ne hk (by decide)) rfl
      have hRlow := (own_lt HO1 (k := R) rfl).1
      have HX2 := Lib.hid (show (xs.set i v1).length = N ∧ ∀ j, i + 1 ≤ j → (xs.set i v1)[j]? = hs[j]? from ⟨by rw [List.length_set]; exact HX.out.1, fun j hj => by rw [List.getElem?_set_ne (by omega)]; exact HX.out.2 j (by omega)⟩)
      have HC2 := Lib.hid (show ∀ j u, j < i + 1 → (xs.set i v1)[j]? = some u → Lt (w1.setCell ⟨R, i, none⟩ v1) w.heap.size u (L.getD j []) from fun j u hj hju => by
        by_cases hji : j = i
        · subst hji
          rw [List.getElem?_set_self hlt1] at hju
          obtain rfl := Option.some.inj hju
          rw [HCL.out]
          exact (o1.mono hsz).chg hch fun k hk => by obtain ⟨ds, hd⟩ := o1.is hk; exact hRt k ds hd
        · rw [List.getElem?_set_ne (by omega)] at hju
          have h3 := (HC.out j u (by omega) hju).below k1
          exact h3.chg hch fun k hk => by obtain ⟨ds, hd⟩ := h3.is hk; exact hRt k ds hd)
      have HB2 := Lib.hid (show Below w.heap.size w (w1.setCell ⟨R, i, none⟩ v1) from (HB.out.trans (k1.mono hsz)).trans (hch.below (B := w.heap.size) (fun k hk => by subst hk; exact hRlow) (by have := k1.size; omega)))
      have HO3 := Lib.hid HO2
      have hone := lt_one o1
      obtain ⟨va1, vc1, rfl⟩ := o1.lit.shape
      have q1 := own_cell HO1 HXI.out
      clear q0 o1 k1 HO1 HO2 hch hRt hRlow HX HC HO HB hone cc HXI HCL hlt1
      rename_i eM
      go_wp2_with fail
      go_roundg g'
      case measure => omega
      case rel => exact ⟨i + 1, _, by go_num, HO3, HX2, HC2, by omega, by omega, HB2⟩
    · obtain rfl : i = N := by omega
      have hge : ¬ (i : Int) < (i : Int) := by omega
      have q0 := cell_on C0.out HB.out
      have hs1 := HB.out.size
      have hb9 := HB.out.alloc hs1 (.cells #[.int .i64 n, .slice va i vc] 55)
      have hfin : CSet (wr.alloc (.cells #[.int .i64 n, .slice va i vc] 55)) w.heap.size wr.heap.size (.slice va i vc) n L :=
        ⟨Blk.Is.new wr 55 _, hs1, Rows2.below ⟨xs, by rw [HN.out]; exact HO.out, fun j u hj => HC.out j u (by have := (List.getElem?_eq_some_iff.1 hj).1; rw [HX.out.1] at this; exact this) hj⟩ ((Below.refl _ _).alloc (Nat.le_refl _) _), HV.out.1, by rw [HN.out]; exact hlen, HV.out.2.1, HV.out.2.2⟩
      have HB9 := Lib.hid hb9
      have HF := Lib.hid hfin
      clear hb9 hfin HO HC HX
      go_wp2_with fail
      go_ret
      exact ⟨_, rfl, ⟨_, HF.out⟩, HB9.out⟩
end Cn
end Go.Proofs.Ytlpahomaokopoaa

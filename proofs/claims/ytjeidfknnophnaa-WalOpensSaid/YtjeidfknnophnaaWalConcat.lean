/-
The contracts of slices.Grow onto nil, slices.Concat.
-/
import Derived.Test.YtjeidfknnophnaaWalRead
import Derived.Test.YtjeidfknnophnaaRowsRef
import Derived.Lib.AppendZeros
namespace Go.Proofs.Ytjeidfknnophnaa
open Go.RowKit
set_option linter.unusedVariables false
namespace Wal

/-- What a call hands back: a row of its own. -/
def Own1 (w : World) (zs : List Int) (e : Ending) (w' : World) : Prop := ∃ v, e = .returned v ∧ Mine w' w.heap.size v zs ∧ Below w.heap.size w w'
theorem grow_any (n : Nat) (w : World) (h0 : 0 < n) (h1 : n ≤ 1000000) : Calls Try.prog 63 #[.slice none 0 0, .int .i64 n] w (Own1 w []) := by
  obtain ⟨i0, hi, hz0, hz1, hz2⟩ := info_parts infoU8
  have hrun := fun ty => Lib.run_append_nil_zeros (P := Try.prog) w 25 3 ty 5 i0 (.int .u8 0) .i64 .i64 Try.underlying25 Try.underlying3 hi hz0 n h0 (by omega) (by omega) (by rw [hz2]; omega)
  have hge := grownCap_ge w n 0 5
  have hcm := grownCap_le_maxLen w n 0 5 (by unfold maxLen; omega)
  obtain ⟨c, hc⟩ : ∃ c, grownCap w n 0 5 = c := ⟨_, rfl⟩
  obtain ⟨cur, hcur⟩ : ∃ cur, Builtin.zeroCells (Value.int .u8 0).cells n ++ Builtin.zeroCells (Value.int .u8 0).cells (grownCap w n 0 5 - n) = cur := ⟨_, rfl⟩
  have hcs : cur.size = c * 1 := by
    rw [← hcur, Array.size_append, size_zeroCells, size_zeroCells, hc, show (Value.int IntKind.u8 0).cells.size = 1 from rfl]; omega
  rw [hc] at hge hcm
  rw [hcur] at hrun
  simp only [hc] at hrun
  have hM : Mine (w.drew.alloc (.cells cur 5)) w.heap.size (.slice (some ⟨w.heap.size, 0, none⟩) 0 c) [] :=
    ⟨⟨rfl, .inr ⟨w.heap.size, c, cur, rfl, Nat.le_refl _, heap_alloc_new w.drew _, by simp, hcm, hcs, by simp [bcells]⟩⟩, Byte.nil⟩
  have hB : Below w.heap.size w (w.drew.alloc (.cells cur 5)) := (Below.refl _ _).drew.alloc (Nat.le_refl _) _
  have HM := Lib.hid hM
  have HB := Lib.hid hB
  have HR := Lib.hid hrun
  clear hM hB hrun hcs hcur hc hi hz0 hz1 hz2
  go_enter Try.func63, Try.ntmps63
  go_wp2_with (at_builtin; refine Lib.wpList_append_run _ rfl (.tmp 20) (.tmp 21) 25 3 rfl (.slice none 0 0) (.int .i64 n) rfl rfl _ _ (HR.out _) ?_)
  go_wp2
  go_ret
  exact ⟨_, rfl, HM.out, HB.out⟩

theorem flat_take_succ (ls : List (List Int)) (k : Nat) (h : k < ls.length) : (ls.take (k + 1)).flatten = (ls.take k).flatten ++ ls.getD k [] := by
  rw [List.take_succ_eq_append_getElem h, List.flatten_append]
  simp [h]
theorem flat_le (ls : List (List Int)) (k : Nat) : (ls.take k).flatten.length ≤ ls.flatten.length := by
  conv => rhs; rw [← List.take_append_drop k ls, List.flatten_append, List.length_append]
  omega
set_option maxRecDepth 100000 in
theorem concat_any (v : Value) (ls : List (List Int)) (w : World) (h : Rows w v ls) (h0 : 0 < ls.flatten.length) (h1 : ls.flatten.length ≤ 1000000) :
    Calls Try.prog 60 #[v] w (Own1 w ls.flatten) := by
  obtain ⟨s1, a1, c1, rfl, p1⟩ := h
  have P1 := Lib.hid p1
  have HF := Lib.hid (fun k => flat_le ls k)
  obtain ⟨n, hn⟩ : ∃ n, ls.length = n := ⟨_, rfl⟩
  rw [hn] at P1 s1
  rw [hn]
  have HN := Lib.hid hn
  clear p1 hn
  go_enter Try.func60, Try.ntmps60
  go_wp2_with fail
  go_loopw [3, 11] (fun t i u => ∃ k : Nat, k ≤ n ∧ i = .int .i64 k ∧ t = .int .i64 ((ls.take k).flatten.length : Nat) ∧ w = u) (fun _ i _ => n - (intOf i).toNat)
  case atStart => exact ⟨0, by omega, rfl, rfl, rfl⟩
  case round =>
    obtain ⟨k, hk, rfl, rfl, rfl⟩ := hrel
    have hle := HF.out k
    by_cases hlt : k < n
    · obtain ⟨b1, o1, rfl, q1⟩ := P1.out (by omega)
      obtain ⟨ai, ci, x1, _, _, _⟩ := q1 k hlt
      have hsum := flat_take_succ ls k (by rw [HN.out]; exact hlt)
      have hlen : ((ls.take (k + 1)).flatten).length = ((ls.take k).flatten).length + (ls.getD k []).length := by rw [hsum, List.length_append]
      have hle' := HF.out (k + 1)
      obtain ⟨x, hx⟩ : ∃ x, ((ls.take k).flatten).length = x := ⟨_, rfl⟩
      obtain ⟨y, hy⟩ : ∃ y, (ls.getD k []).length = y := ⟨_, rfl⟩
      rw [hx] at hle
      rw [hx, hy] at hlen
      rw [hlen] at hle'
      rw [hy] at x1
      rw [hx]
      have HL := Lib.hid hlen
      have k0 : (0 : Int) ≤ k := by omega
      have k1 : (k : Int) < n := by omega
      clear q1 hsum hlen hx hy
      go_wp2_with fail
      refine ⟨⟨k + 1, by omega, by go_num, ?_, by trivial⟩, ?_⟩
      · rw [HL.out]; go_num
      · simp [intOf]; omega
    · obtain rfl : k = n := by omega
      have hall : ls.take k = ls := List.take_of_length_le (by rw [HN.out]; exact Nat.le_refl _)
      rw [hall] at hle
      rw [hall]
      obtain ⟨x, hx⟩ : ∃ x, ls.flatten.length = x := ⟨_, rfl⟩
      rw [hx] at h0 h1
      rw [hx]
      have HX := Lib.hid hx
      clear hall hle hx
      go_wp2_with fail
      refine (grow_any x _ h0 h1).mono ?_
      rintro e w1 ⟨v1, rfl, hm1, hb1⟩
      have HM1 := Lib.hid hm1
      have HB1 := Lib.hid hb1
      clear hm1 hb1
      go_wp2_with fail
      go_loopw [6, 27] (fun v i u => ∃ j : Nat, j ≤ k ∧ i = .int .i64 j ∧ Mine u w.heap.size v ((ls.take j).flatten) ∧ Below w.heap.size w u) (fun _ i _ => k - (intOf i).toNat)
      case atStart => exact ⟨0, by omega, rfl, HM1.out, HB1.out⟩
      case round =>
        clear HM1 HB1
        obtain ⟨j, hj, rfl, hm, hb⟩ := hrel
        obtain ⟨n2, a2, c2, rfl, hc2, hl2, _⟩ := hm.rows
        have hM := Lib.hid hm
        have hB := Lib.hid hb
        have hle := HF.out j
        have hBS := hb.size
        by_cases hlt : j < k
        · obtain ⟨b1, o1, rfl, q1⟩ := P1.out (by omega)
          obtain ⟨ai, ci, x1, x2, _, x3⟩ := (q1 j hlt).below hb
          have hsum := flat_take_succ ls j (by rw [HN.out]; exact hlt)
          have hle' := HF.out (j + 1)
          rw [hsum, List.length_append, HX.out] at hle'
          obtain ⟨Y, hY⟩ : ∃ Y, ls.getD j [] = Y := ⟨_, rfl⟩
          rw [hY] at hle' hsum x1 x2
          have HX2 := Lib.hid x2
          have HX3 := Lib.hid x3
          have HS := Lib.hid hsum
          have k0 : (0 : Int) ≤ j := by omega
          have k1 : (j : Int) < k := by omega
          clear q1 hm hb x2 x3 hsum hY
          go_wp2_with (at_builtin; refine append_bytes rfl (.tmp 31) (.tmp 32) rfl w.heap.size _ _ rfl hM.out ai Y.length ci rfl _ HX2.out HX3.out ?_ ?_ ?_)
          · omega
          · exact hBS
          intro v3 w3 m3 g3
          have hb3 := below_grow hB.out hM.out (Nat.le_refl _) hBS g3
          rw [← HS.out] at m3
          obtain ⟨n3, a3, c3, rfl, _, _, _⟩ := m3.rows
          have M3 := Lib.hid m3
          have B3 := Lib.hid hb3
          clear m3 g3 hb3 x1 HX2 HX3
          go_wp2
          refine ⟨⟨j + 1, by omega, by go_num, M3.out, B3.out⟩, ?_⟩
          simp [intOf]; omega
        · obtain rfl : j = k := by omega
          have hall : ls.take j = ls := List.take_of_length_le (by rw [HN.out]; exact Nat.le_refl _)
          have HAL := Lib.hid hall
          clear hall hm hb
          go_wp2
          go_ret
          refine ⟨_, rfl, ?_, hB.out⟩
          have := hM.out
          rwa [HAL.out] at this
end Wal
end Go.Proofs.Ytjeidfknnophnaa

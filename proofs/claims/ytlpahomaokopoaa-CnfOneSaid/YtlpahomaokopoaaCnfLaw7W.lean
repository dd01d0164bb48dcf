/-
CnfOne: its walk.
-/
import Derived.Test.YtlpahomaokopoaaCnfLaw7
namespace Go.Proofs.Ytlpahomaokopoaa
open Go.RowKit
set_option linter.unusedSimpArgs false
set_option linter.unusedVariables false
namespace Cn
theorem mod_x (x : Int) (n : Nat) (hn : 0 < n) (h2 : n ≤ 1000) : ∃ q : Nat, q < n ∧ (IntKind.u64.wrap x).tmod (IntKind.u64.wrap (n : Int)) = (q : Int) ∧ (IntKind.u64.wrap x).tmod (n : Int) = (q : Int) := by
  have e0 : IntKind.u64.wrap (n : Int) = n := by simp [IntKind.wrap, IntKind.bits, IntKind.signed]; omega
  rw [e0]
  have h1 : 0 ≤ IntKind.u64.wrap x := by simp [IntKind.wrap, IntKind.bits, IntKind.signed]; omega
  obtain ⟨m, hm⟩ : ∃ m : Nat, IntKind.u64.wrap x = (m : Int) := ⟨(IntKind.u64.wrap x).toNat, by omega⟩
  rw [hm]
  have e : (m : Int).tmod (n : Int) = ((m % n : Nat) : Int) := IntWalk.up_tmod rfl rfl
  exact ⟨m % n, Nat.mod_lt _ hn, e, e⟩
set_option maxRecDepth 100000 in
set_option maxHeartbeats 16000000 in
theorem one_walk (n0 : Int) (cv mv : Value) (l : List Int) (m : List Bool) (w : World) (hc : LitV w cv l) (hm : BoolV w mv m) :
    Calls Try.prog 8 #[.int .i64 n0, cv, mv] w fun e w' => e = .returned (.bool true) ∧ Below w.heap.size w w' := by
  obtain ⟨n1, hn1, hn2, hq3, hq4, hq5⟩ := mod_n n0 12 (by omega) (by omega)
  have hn3 : (IntKind.u64.wrap n0).tmod 12 + 1 = (n1 : Int) := hq3
  have hn4 : 0 ≤ (IntKind.u64.wrap n0).tmod 12 := hq4
  have hn5 : (IntKind.u64.wrap n0).tmod 12 < 12 := hq5
  clear hq3 hq4 hq5
  have hv1 : vars (n1 : Int) = n1 := by unfold vars; omega
  obtain ⟨ma, mcap, rfl⟩ := hm.shape
  have hl9 := hc.len
  obtain ⟨_, xa, xc, rfl, _, _, _, hxr⟩ := hc
  obtain ⟨M, hM⟩ : ∃ M, m.length = M := ⟨_, rfl⟩
  obtain ⟨C, hC⟩ : ∃ C, l.length = C := ⟨_, rfl⟩
  have HCL := Lib.hid hC
  rw [hM, hC]
  rw [hM] at hm
  rw [hC] at hxr hl9
  have HMM := Lib.hid hM
  have HM := Lib.hid hm
  have HXR := Lib.hid hxr
  clear hM hC hm hxr
  go_enter Try.func8, Try.ntmps8
  go_wp2_with fail
  clear hn3 hn4 hn5
  go_loopg [7, 8, 27] C (fun gf s7 s8 s27 wx => ∃ (i L kk : Nat) (ra : Option Addr) (rc : Nat) (U : List Int), s7 = .slice ra L rc ∧ s8 = .int .i64 kk ∧ s27 = .int .i64 i ∧ Hid (Lt wx w.heap.size (.slice ra L rc) U) ∧ Hid (OneU n1 m U kk ∧ U.length = L) ∧ Hid (Below w.heap.size w wx) ∧ L ≤ 10 ∧ kk ≤ L ∧ i ≤ C ∧ C ≤ i + gf)
  case atStart => exact ⟨0, 0, 0, none, 0, [], rfl, rfl, rfl, Lib.hid (Lt.nil _ _), Lib.hid ⟨OneU.nil _ _, rfl⟩, Lib.hid (Below.refl _ _), by omega, by omega, by omega, by omega⟩
  case round =>
    obtain ⟨i, L, kk, ra, rc, U, rfl, rfl, rfl, HO, HON, HB, hL10, hkL, hin, hfu⟩ := hrel
    have HUL := Lib.hid HON.out.2
    by_cases hlt : i < C
    · obtain ⟨g', rfl⟩ : ∃ g', gk = g' + 1 := ⟨gk - 1, by omega⟩
      have hlt' : (i : Int) < (C : Int) := by omega
      have hi0 : (0 : Int) ≤ i := by omega
      obtain ⟨x0, hx⟩ : ∃ x, l[i]? = some x := ⟨l[i]'(by rw [HCL.out]; exact hlt), List.getElem?_eq_getElem _⟩
      obtain ⟨b, off, rfl, hcell⟩ := HXR.out (by omega)
      have c1 := cell_on (hcell i x0 hx) HB.out
      obtain ⟨qx, hqx, _, hmod⟩ := mod_x x0 n1 (by omega) (by omega)
      clear hcell hx
      have htm : (L : Int).tmod 3 = ((L % 3 : Nat) : Int) := IntWalk.up_tmod rfl rfl
      obtain ⟨L3, hL3⟩ : ∃ L3, L % 3 = L3 := ⟨_, rfl⟩
      rw [hL3] at htm
      clear hL3
      by_cases h3 : L3 = 2
      · have g3 : ((L3 : Int) == 2) = true := by rw [h3]; rfl
        clear h3
        go_wp2_with fail
        clear hmod c1
        rename World => wo
        go_loopg [11, 46] L (fun gf s11 s46 wx => ∃ (j : Nat) (b : Bool), s11 = .bool b ∧ s46 = .int .i64 j ∧ wx = wo ∧ Hid (b = false → ∀ y ∈ U.take j, -((qx : Int) + 1) ≠ y ∧ -((qx : Int) + 1) ≠ -y) ∧ j ≤ L ∧ L ≤ j + gf)
        case atStart => exact ⟨0, false, rfl, rfl, rfl, Lib.hid (fun _ y hy => by simp at hy), by omega, by omega⟩
        case round =>
          obtain ⟨j, b, rfl, rfl, rfl, HJ, hjn, hfu2⟩ := hrel
          by_cases hlj : j < L
          · obtain ⟨gk', rfl⟩ : ∃ gk', gk = gk' + 1 := ⟨gk - 1, by omega⟩
            have hlj' : (j : Int) < (L : Int) := by omega
            have hj0 : (0 : Int) ≤ j := by omega
            obtain ⟨y, hy⟩ : ∃ y, U[j]? = some y := ⟨U[j]'(by rw [HUL.out]; exact hlj), List.getElem?_eq_getElem _⟩
            have ho1 := HO.out.2
            rw [HUL.out] at ho1
            obtain ⟨R, c9, e1, _⟩ := own_slice ho1 (by omega)
            simp only [Value.slice.injEq, true_and] at e1
            obtain ⟨rfl, rfl⟩ := e1
            have c3 := own_cell ho1 (lcells_get hy)
            have hym := HON.out.1.mem y (List.mem_of_getElem? hy)
            have hyn : wrap64 (-y) = -y := IntWalk.wrap64_in _ ⟨by omega, by omega⟩
            have htk : U.take (j + 1) = U.take j ++ [y] := by rw [List.take_add_one, hy]; rfl
            cases b with
            | true =>
              have HJ2 : Hid (true = false → ∀ y ∈ U.take (j + 1), -((qx : Int) + 1) ≠ y ∧ -((qx : Int) + 1) ≠ -y) := Lib.hid (fun h => by cases h)
              clear ho1 hy hym htk
              go_wp2_with fail
              go_roundg gk'
              case measure => omega
              case rel => exact ⟨j + 1, true, rfl, by go_num, rfl, HJ2, by omega, by omega⟩
            | false =>
              by_cases h1 : -((qx : Int) + 1) = y
              · have q1 : ((-((qx : Int) + 1)) == y) = true := beq_iff_eq.2 h1
                have HJ2 : Hid (true = false → ∀ y ∈ U.take (j + 1), -((qx : Int) + 1) ≠ y ∧ -((qx : Int) + 1) ≠ -y) := Lib.hid (fun h => by cases h)
                clear ho1 hy hym htk h1
                go_wp2_with fail
                go_roundg gk'
                case measure => omega
                case rel => exact ⟨j + 1, true, rfl, by go_num, rfl, HJ2, by omega, by omega⟩
              · have q1 : ((-((qx : Int) + 1)) == y) = false := beq_eq_false_iff_ne.2 h1
                by_cases h2 : -((qx : Int) + 1) = -y
                · have q2 : ((-((qx : Int) + 1)) == -y) = true := beq_iff_eq.2 h2
                  have HJ2 : Hid (true = false → ∀ y ∈ U.take (j + 1), -((qx : Int) + 1) ≠ y ∧ -((qx : Int) + 1) ≠ -y) := Lib.hid (fun h => by cases h)
                  clear ho1 hy hym htk h1
                  have q3 : (((qx : Int) + 1) == y) = true := beq_iff_eq.2 (by omega)
                  clear h2
                  go_wp2_with fail
                  go_roundg gk'
                  case measure => omega
                  case rel => exact ⟨j + 1, true, by rfl, by go_num, rfl, HJ2, by omega, by omega⟩
                · have q2 : ((-((qx : Int) + 1)) == -y) = false := beq_eq_false_iff_ne.2 h2
                  have HJ2 : Hid (false = false → ∀ y ∈ U.take (j + 1), -((qx : Int) + 1) ≠ y ∧ -((qx : Int) + 1) ≠ -y) := Lib.hid (fun _ z hz => by
                    rw [htk] at hz
                    rcases List.mem_append.1 hz with h3 | h3
                    · exact HJ.out rfl z h3
                    · have : z = y := by simpa using h3
                      rw [this]; exact ⟨h1, h2⟩)
                  clear ho1 hy hym htk h1
                  have q3 : (((qx : Int) + 1) == y) = false := beq_eq_false_iff_ne.2 (by omega)
                  clear h2
                  go_wp2_with fail
                  go_roundg gk'
                  case measure => omega
                  case rel => exact ⟨j + 1, false, by rfl, by go_num, rfl, Lib.hid (fun _ => HJ2.out trivial), by omega, by omega⟩
          · obtain rfl : j = L := by omega
            have hge : ¬ (j : Int) < (j : Int) := by omega
            have ej : U.take j = U := by rw [← HUL.out, List.take_length]
            rw [ej] at HJ
            clear ej
            cases b with
            | true =>
              clear HJ
              go_wp2_with fail
              go_roundg g'
              case measure => omega
              case rel => exact ⟨i + 1, j, kk, ra, rc, U, rfl, by go_num, by go_num, HO, HON, HB, by omega, by omega, by omega, by omega⟩
            | false =>
              have HNI := Lib.hid (HJ.out rfl)
              clear HJ
              by_cases h10 : 10 ≤ j
              · have g10 : decide ((j : Int) ≥ 10) = true := decide_eq_true (by omega)
                clear h10 HNI
                go_wp2_with fail
                go_roundg g'
                case measure => omega
                case rel => exact ⟨i + 1, j, kk, ra, rc, U, rfl, by go_num, by go_num, HO, HON, HB, by omega, by omega, by omega, by omega⟩
              · have g10 : decide ((j : Int) ≥ 10) = false := decide_eq_false (by omega)
                have hj10 : j < 10 := by omega
                clear h10
                have HON2 := Lib.hid (HON.out.1.snoc (x := -((qx : Int) + 1)) (by omega) (by omega) HNI.out)
                have g2 := (Below.refl wr.heap.size wr).alloc (Nat.le_refl _) (.cells #[.int .i64 (-((qx : Int) + 1))] 45)
                have i2 := Blk.Is.new wr 45 #[.int .i64 (-((qx : Int) + 1))]
                obtain ⟨W2, hW2⟩ : ∃ W2, wr.alloc (.cells #[.int .i64 (-((qx : Int) + 1))] 45) = W2 := ⟨_, rfl⟩
                rw [hW2] at g2 i2
                have O1 := Lib.hid (HO.out.below g2)
                have SRC := Lib.hid (lit_on i2)
                have BW := Lib.hid (HB.out.trans (g2.mono HB.out.size))
                have hsz := BW.out.size
                obtain ⟨i0, hi, hz0, hz1, hz2⟩ := info_parts infoLit
                have HI := Lib.hid hi
                have OW := O1.out.2
                rw [HUL.out] at OW
                have OWN := Lib.hid OW
                have hu := hW2
                clear g2 i2 hW2 hi OW
                go_wp2_with (at_builtin; refine wpList_append4 rfl (.tmp 69) (.tmp 71) 22 22 rfl w.heap.size 45 i0 _ 1 8 Try.underlying22 HI.out hz0 hz1 hz2 rfl _ j _ rfl OWN.out _ 1 (lcells [-((qx : Int) + 1)]) rfl SRC.out ?_ ?_ hsz ?_)
                · simp only [maxLen]; omega
                · omega
                intro v7 w7 o7 g7 q7
                have h1 : Lt w7 w.heap.size v7 (U ++ [-((qx : Int) + 1)]) := lt_more O1.out (by unfold I64; omega) (by rw [HUL.out]; exact o7)
                have bw : Below w.heap.size w w7 := Own.below_grown BW.out O1.out.2 g7 hsz
                obtain ⟨a7, c7, rfl, _⟩ := own_shape o7
                have P1 := Lib.hid h1
                have PB := Lib.hid bw
                clear o7 g7 q7 h1 bw O1 SRC BW OWN hsz HI hu HB HO HNI
                have hx0 : ((-((qx : Int) + 1)) < 0) := by omega
                have hxp : decide ((-((qx : Int) + 1)) > 0) = false := decide_eq_false (by omega)
                by_cases hqM : qx < M
                · have hqM1 : ((qx : Int) + 1) ≤ (M : Int) := by omega
                  have hqM2 : (qx : Int) < (M : Int) := by omega
                  have hq0 : (0 : Int) ≤ qx := by omega
                  obtain ⟨y, hy⟩ : ∃ y, m[qx]? = some y := ⟨m[qx]'(by rw [HMM.out]; exact hqM), List.getElem?_eq_getElem _⟩
                  obtain ⟨am, cm, em, _, _, hmr⟩ := HM.out
                  rw [HMM.out] at em hmr
                  simp only [Value.slice.injEq, true_and] at em
                  obtain ⟨rfl, rfl⟩ := em
                  obtain ⟨bm, om, rfl, hmc⟩ := hmr (by omega)
                  have cmm := cell_on (hmc qx y hy) PB.out
                  have hgy : m.getD qx false = y := by rw [List.getD_eq_getElem?_getD, hy]; rfl
                  clear hmr hmc hy hqM
                  cases y with
                  | true =>
                    have HO7 : Hid (OneU n1 m (U ++ [-((qx : Int) + 1)]) (kk) ∧ (U ++ [-((qx : Int) + 1)]).length = j + 1) := Lib.hid ⟨by
                      have := HON2.out
                      rwa [show so m (-((qx : Int) + 1)) = false by unfold so; rw [show (-((qx : Int) + 1)).natAbs - 1 = qx by omega, hgy, decide_eq_false (by omega)]; rfl] at this, by rw [List.length_append, HUL.out]; rfl⟩
                    clear HON2 HON hgy
                    go_wp2_with fail
                    go_roundg g'
                    case measure => omega
                    case rel => exact ⟨i + 1, j + 1, kk, a7, c7, U ++ [-((qx : Int) + 1)], rfl, by go_num, by go_num, P1, HO7, PB, by omega, by omega, by omega, by omega⟩
                  | false =>
                    have HO7 : Hid (OneU n1 m (U ++ [-((qx : Int) + 1)]) (kk + 1) ∧ (U ++ [-((qx : Int) + 1)]).length = j + 1) := Lib.hid ⟨by
                      have := HON2.out
                      rwa [show so m (-((qx : Int) + 1)) = true by unfold so; rw [show (-((qx : Int) + 1)).natAbs - 1 = qx by omega, hgy, decide_eq_false (by omega)]; rfl] at this, by rw [List.length_append, HUL.out]; rfl⟩
                    clear HON2 HON hgy
                    go_wp2_with fail
                    go_roundg g'
                    case measure => omega
                    case rel => exact ⟨i + 1, j + 1, kk + 1, a7, c7, U ++ [-((qx : Int) + 1)], rfl, by go_num, by go_num, P1, HO7, PB, by omega, by omega, by omega, by omega⟩
                · have hqM1 : ¬ (((qx : Int) + 1) ≤ (M : Int)) := by omega
                  have hgy : m.getD qx false = false := by rw [List.getD_eq_getElem?_getD, List.getElem?_eq_none (by rw [HMM.out]; omega)]; rfl
                  have HO7 : Hid (OneU n1 m (U ++ [-((qx : Int) + 1)]) (kk + 1) ∧ (U ++ [-((qx : Int) + 1)]).length = j + 1) := Lib.hid ⟨by
                    have := HON2.out
                    rwa [show so m (-((qx : Int) + 1)) = true by unfold so; rw [show (-((qx : Int) + 1)).natAbs - 1 = qx by omega, hgy, decide_eq_false (by omega)]; rfl] at this, by rw [List.length_append, HUL.out]; rfl⟩
                  clear HON2 HON hgy hqM
                  go_wp2_with fail
                  go_roundg g'
                  case measure => omega
                  case rel => exact ⟨i + 1, j + 1, kk + 1, a7, c7, U ++ [-((qx : Int) + 1)], rfl, by go_num, by go_num, P1, HO7, PB, by omega, by omega, by omega, by omega⟩
      · have g3 : ((L3 : Int) == 2) = false := by rw [beq_eq_false_iff_ne]; omega
        clear h3
        go_wp2_with fail
        clear hmod c1
        rename World => wo
        go_loopg [11, 46] L (fun gf s11 s46 wx => ∃ (j : Nat) (b : Bool), s11 = .bool b ∧ s46 = .int .i64 j ∧ wx = wo ∧ Hid (b = false → ∀ y ∈ U.take j, (qx : Int) + 1 ≠ y ∧ (qx : Int) + 1 ≠ -y) ∧ j ≤ L ∧ L ≤ j + gf)
        case atStart => exact ⟨0, false, rfl, rfl, rfl, Lib.hid (fun _ y hy => by simp at hy), by omega, by omega⟩
        case round =>
          obtain ⟨j, b, rfl, rfl, rfl, HJ, hjn, hfu2⟩ := hrel
          by_cases hlj : j < L
          · obtain ⟨gk', rfl⟩ : ∃ gk', gk = gk' + 1 := ⟨gk - 1, by omega⟩
            have hlj' : (j : Int) < (L : Int) := by omega
            have hj0 : (0 : Int) ≤ j := by omega
            obtain ⟨y, hy⟩ : ∃ y, U[j]? = some y := ⟨U[j]'(by rw [HUL.out]; exact hlj), List.getElem?_eq_getElem _⟩
            have ho1 := HO.out.2
            rw [HUL.out] at ho1
            obtain ⟨R, c9, e1, _⟩ := own_slice ho1 (by omega)
            simp only [Value.slice.injEq, true_and] at e1
            obtain ⟨rfl, rfl⟩ := e1
            have c3 := own_cell ho1 (lcells_get hy)
            have hym := HON.out.1.mem y (List.mem_of_getElem? hy)
            have hyn : wrap64 (-y) = -y := IntWalk.wrap64_in _ ⟨by omega, by omega⟩
            have htk : U.take (j + 1) = U.take j ++ [y] := by rw [List.take_add_one, hy]; rfl
            cases b with
            | true =>
              have HJ2 : Hid (true = false → ∀ y ∈ U.take (j + 1), (qx : Int) + 1 ≠ y ∧ (qx : Int) + 1 ≠ -y) := Lib.hid (fun h => by cases h)
              clear ho1 hy hym htk
              go_wp2_with fail
              go_roundg gk'
              case measure => omega
              case rel => exact ⟨j + 1, true, rfl, by go_num, rfl, HJ2, by omega, by omega⟩
            | false =>
              by_cases h1 : (qx : Int) + 1 = y
              · have q1 : (((qx : Int) + 1) == y) = true := beq_iff_eq.2 h1
                have HJ2 : Hid (true = false → ∀ y ∈ U.take (j + 1), (qx : Int) + 1 ≠ y ∧ (qx : Int) + 1 ≠ -y) := Lib.hid (fun h => by cases h)
                clear ho1 hy hym htk h1
                go_wp2_with fail
                go_roundg gk'
                case measure => omega
                case rel => exact ⟨j + 1, true, rfl, by go_num, rfl, HJ2, by omega, by omega⟩
              · have q1 : (((qx : Int) + 1) == y) = false := beq_eq_false_iff_ne.2 h1
                by_cases h2 : (qx : Int) + 1 = -y
                · have q2 : (((qx : Int) + 1) == -y) = true := beq_iff_eq.2 h2
                  have HJ2 : Hid (true = false → ∀ y ∈ U.take (j + 1), (qx : Int) + 1 ≠ y ∧ (qx : Int) + 1 ≠ -y) := Lib.hid (fun h => by cases h)
                  clear ho1 hy hym htk h1
                  clear h2
                  go_wp2_with fail
                  go_roundg gk'
                  case measure => omega
                  case rel => exact ⟨j + 1, true, by rfl, by go_num, rfl, HJ2, by omega, by omega⟩
                · have q2 : (((qx : Int) + 1) == -y) = false := beq_eq_false_iff_ne.2 h2
                  have HJ2 : Hid (false = false → ∀ y ∈ U.take (j + 1), (qx : Int) + 1 ≠ y ∧ (qx : Int) + 1 ≠ -y) := Lib.hid (fun _ z hz => by
                    rw [htk] at hz
                    rcases List.mem_append.1 hz with h3 | h3
                    · exact HJ.out rfl z h3
                    · have : z = y := by simpa using h3
                      rw [this]; exact ⟨h1, h2⟩)
                  clear ho1 hy hym htk h1
                  clear h2
                  go_wp2_with fail
                  go_roundg gk'
                  case measure => omega
                  case rel => exact ⟨j + 1, false, by rfl, by go_num, rfl, Lib.hid (fun _ => HJ2.out trivial), by omega, by omega⟩
          · obtain rfl : j = L := by omega
            have hge : ¬ (j : Int) < (j : Int) := by omega
            have ej : U.take j = U := by rw [← HUL.out, List.take_length]
            rw [ej] at HJ
            clear ej
            cases b with
            | true =>
              clear HJ
              go_wp2_with fail
              go_roundg g'
              case measure => omega
              case rel => exact ⟨i + 1, j, kk, ra, rc, U, rfl, by go_num, by go_num, HO, HON, HB, by omega, by omega, by omega, by omega⟩
            | false =>
              have HNI := Lib.hid (HJ.out rfl)
              clear HJ
              by_cases h10 : 10 ≤ j
              · have g10 : decide ((j : Int) ≥ 10) = true := decide_eq_true (by omega)
                clear h10 HNI
                go_wp2_with fail
                go_roundg g'
                case measure => omega
                case rel => exact ⟨i + 1, j, kk, ra, rc, U, rfl, by go_num, by go_num, HO, HON, HB, by omega, by omega, by omega, by omega⟩
              · have g10 : decide ((j : Int) ≥ 10) = false := decide_eq_false (by omega)
                have hj10 : j < 10 := by omega
                clear h10
                have HON2 := Lib.hid (HON.out.1.snoc (x := (qx : Int) + 1) (by omega) (by omega) HNI.out)
                have g2 := (Below.refl wr.heap.size wr).alloc (Nat.le_refl _) (.cells #[.int .i64 ((qx : Int) + 1)] 45)
                have i2 := Blk.Is.new wr 45 #[.int .i64 ((qx : Int) + 1)]
                obtain ⟨W2, hW2⟩ : ∃ W2, wr.alloc (.cells #[.int .i64 ((qx : Int) + 1)] 45) = W2 := ⟨_, rfl⟩
                rw [hW2] at g2 i2
                have O1 := Lib.hid (HO.out.below g2)
                have SRC := Lib.hid (lit_on i2)
                have BW := Lib.hid (HB.out.trans (g2.mono HB.out.size))
                have hsz := BW.out.size
                obtain ⟨i0, hi, hz0, hz1, hz2⟩ := info_parts infoLit
                have HI := Lib.hid hi
                have OW := O1.out.2
                rw [HUL.out] at OW
                have OWN := Lib.hid OW
                have hu := hW2
                clear g2 i2 hW2 hi OW
                go_wp2_with (at_builtin; refine wpList_append4 rfl (.tmp 69) (.tmp 71) 22 22 rfl w.heap.size 45 i0 _ 1 8 Try.underlying22 HI.out hz0 hz1 hz2 rfl _ j _ rfl OWN.out _ 1 (lcells [(qx : Int) + 1]) rfl SRC.out ?_ ?_ hsz ?_)
                · simp only [maxLen]; omega
                · omega
                intro v7 w7 o7 g7 q7
                have h1 : Lt w7 w.heap.size v7 (U ++ [(qx : Int) + 1]) := lt_more O1.out (by unfold I64; omega) (by rw [HUL.out]; exact o7)
                have bw : Below w.heap.size w w7 := Own.below_grown BW.out O1.out.2 g7 hsz
                obtain ⟨a7, c7, rfl, _⟩ := own_shape o7
                have P1 := Lib.hid h1
                have PB := Lib.hid bw
                clear o7 g7 q7 h1 bw O1 SRC BW OWN hsz HI hu HB HO HNI
                have hx0 : ¬ (((qx : Int) + 1) < 0) := by omega
                have hxp : decide (((qx : Int) + 1) > 0) = true := decide_eq_true (by omega)
                by_cases hqM : qx < M
                · have hqM1 : ((qx : Int) + 1) ≤ (M : Int) := by omega
                  have hqM2 : (qx : Int) < (M : Int) := by omega
                  have hq0 : (0 : Int) ≤ qx := by omega
                  obtain ⟨y, hy⟩ : ∃ y, m[qx]? = some y := ⟨m[qx]'(by rw [HMM.out]; exact hqM), List.getElem?_eq_getElem _⟩
                  obtain ⟨am, cm, em, _, _, hmr⟩ := HM.out
                  rw [HMM.out] at em hmr
                  simp only [Value.slice.injEq, true_and] at em
                  obtain ⟨rfl, rfl⟩ := em
                  obtain ⟨bm, om, rfl, hmc⟩ := hmr (by omega)
                  have cmm := cell_on (hmc qx y hy) PB.out
                  have hgy : m.getD qx false = y := by rw [List.getD_eq_getElem?_getD, hy]; rfl
                  clear hmr hmc hy hqM
                  cases y with
                  | true =>
                    have HO7 : Hid (OneU n1 m (U ++ [(qx : Int) + 1]) (kk + 1) ∧ (U ++ [(qx : Int) + 1]).length = j + 1) := Lib.hid ⟨by
                      have := HON2.out
                      rwa [show so m ((qx : Int) + 1) = true by unfold so; rw [show ((qx : Int) + 1).natAbs - 1 = qx by omega, hgy, decide_eq_true (by omega)]; rfl] at this, by rw [List.length_append, HUL.out]; rfl⟩
                    clear HON2 HON hgy
                    go_wp2_with fail
                    go_roundg g'
                    case measure => omega
                    case rel => exact ⟨i + 1, j + 1, kk + 1, a7, c7, U ++ [(qx : Int) + 1], rfl, by go_num, by go_num, P1, HO7, PB, by omega, by omega, by omega, by omega⟩
                  | false =>
                    have HO7 : Hid (OneU n1 m (U ++ [(qx : Int) + 1]) (kk) ∧ (U ++ [(qx : Int) + 1]).length = j + 1) := Lib.hid ⟨by
                      have := HON2.out
                      rwa [show so m ((qx : Int) + 1) = false by unfold so; rw [show ((qx : Int) + 1).natAbs - 1 = qx by omega, hgy, decide_eq_true (by omega)]; rfl] at this, by rw [List.length_append, HUL.out]; rfl⟩
                    clear HON2 HON hgy
                    go_wp2_with fail
                    go_roundg g'
                    case measure => omega
                    case rel => exact ⟨i + 1, j + 1, kk, a7, c7, U ++ [(qx : Int) + 1], rfl, by go_num, by go_num, P1, HO7, PB, by omega, by omega, by omega, by omega⟩
                · have hqM1 : ¬ (((qx : Int) + 1) ≤ (M : Int)) := by omega
                  have hgy : m.getD qx false = false := by rw [List.getD_eq_getElem?_getD, List.getElem?_eq_none (by rw [HMM.out]; omega)]; rfl
                  have HO7 : Hid (OneU n1 m (U ++ [(qx : Int) + 1]) (kk) ∧ (U ++ [(qx : Int) + 1]).length = j + 1) := Lib.hid ⟨by
                    have := HON2.out
                    rwa [show so m ((qx : Int) + 1) = false by unfold so; rw [show ((qx : Int) + 1).natAbs - 1 = qx by omega, hgy, decide_eq_true (by omega)]; rfl] at this, by rw [List.length_append, HUL.out]; rfl⟩
                  clear HON2 HON hgy hqM
                  go_wp2_with fail
                  go_roundg g'
                  case measure => omega
                  case rel => exact ⟨i + 1, j + 1, kk, a7, c7, U ++ [(qx : Int) + 1], rfl, by go_num, by go_num, P1, HO7, PB, by omega, by omega, by omega, by omega⟩
    · obtain rfl : i = C := by omega
      have hge : ¬ (i : Int) < (i : Int) := by omega
      have cn := new_any n1 wr
      rw [hv1] at cn
      have HS := Lib.hid (one_s HON.out.1 (by rw [HUL.out]; exact hL10))
      have HA := Lib.hid (one_a HON.out.1)
      have HTA := Lib.hid (one_takes HON.out.1)
      have HBB := Lib.hid (one_b HON.out.1)
      have HUM := Lib.hid (show Lz U from HO.out.1)
      go_wp2_with fail
      refine cn.mono ?_
      rintro e w2 ⟨rfl, hs2, st, k2⟩
      have SP := Lib.hid st
      obtain ⟨ps, hps⟩ : ∃ ps, wr.heap.size = ps := ⟨_, rfl⟩
      rw [hps] at SP ⊢
      have HPS := Lib.hid hps
      have hww : w.heap.size ≤ ps := by rw [← hps]; exact HB.out.size
      have O2 := Lib.hid (HO.out.below k2)
      have B2 := Lib.hid (HB.out.trans (k2.mono HB.out.size))
      have H12 := Lib.hid k2.size
      have cm := most_any SP.out _ U O2.out.lit (by rw [HUL.out]; omega) (by rw [← hps]; exact k2.size)
      rw [HS.out.1] at cm
      obtain ⟨L1, hL1⟩ : ∃ L1, (most n1 [] U).1 = L1 := ⟨_, rfl⟩
      rw [hL1] at cm
      have HS1 := Lib.hid (show holds m L1 = decide (kk ≤ 1) by rw [← hL1]; exact HS.out.2)
      clear cn st k2 hs2 hps hL1 HO HB HS
      go_wp2_with fail
      refine cm.mono ?_
      rintro e w3 ⟨rfl, vs, went⟩
      have S3 := Lib.hid went.set
      have O3 := Lib.hid (O2.out.chg went.chg fun j hj => by
        obtain ⟨cs, hcs⟩ := O2.out.is hj
        exact SP.out.mineLit (by decide) j cs hcs)
      have B3 := Lib.hid (B2.out.trans (went.chg.below (B := w.heap.size) (fun j hj => by have := SP.out.mineLow j hj; have := HPS.out; omega) B2.out.size))
      clear cm went O2 B2 SP
      go_wp2_with fail
      obtain ⟨b3, hb3⟩ : ∃ b3, w3.heap.size = b3 := ⟨_, rfl⟩
      have HB3 := Lib.hid hb3
      have hub : ∀ k, Value.ownBlock (.slice ra L rc) = some k → k < b3 := fun k hk => by rw [← hb3]; exact (own_lt O3.out.2 hk).2
      have HUB := Lib.hid hub
      clear hub hb3
      go_loopg [16, 103] L (fun gf s16 s103 wx => ∃ (j : Nat) (a6 : Option Addr) (c6 : Nat), s16 = .slice a6 j c6 ∧ s103 = .int .i64 j ∧ Hid (Lt wx b3 (.slice a6 j c6) (U.reverse.take j)) ∧ Hid (Below b3 w3 wx) ∧ j ≤ L ∧ L ≤ j + gf)
      case atStart => exact ⟨0, none, 0, rfl, rfl, Lib.hid (Lt.nil _ _), Lib.hid (Below.refl _ _), by omega, by omega⟩
      case round =>
        obtain ⟨j, a6, c6, rfl, rfl, HR, HRB, hjn, hfu2⟩ := hrel
        have ho1 := (O3.out.below (by rw [HB3.out]; exact HRB.out : Below w3.heap.size w3 wr))
        by_cases hlj : j < L
        · obtain ⟨gk', rfl⟩ : ∃ gk', gk = gk' + 1 := ⟨gk - 1, by omega⟩
          have hlj' : (j : Int) < (L : Int) := by omega
          have hj0 : (0 : Int) ≤ j := by omega
          obtain ⟨r, hr⟩ : ∃ r : Nat, (L : Int) - 1 - (j : Int) = (r : Int) := ⟨L - 1 - j, by omega⟩
          have hr2 : r < L := by omega
          have hr3 : (r : Int) < (L : Int) := by omega
          have hr0 : (0 : Int) ≤ r := by omega
          obtain ⟨y, hy⟩ : ∃ y, U[r]? = some y := ⟨U[r]'(by rw [HUL.out]; exact hr2), List.getElem?_eq_getElem _⟩
          have ho2 := ho1.2
          rw [HUL.out] at ho2
          obtain ⟨R, c9, e1, _⟩ := own_slice ho2 (by omega)
          simp only [Value.slice.injEq, true_and] at e1
          obtain ⟨rfl, rfl⟩ := e1
          have c3 := own_cell ho2 (lcells_get hy)
          have hyz := HUM.out y (List.mem_of_getElem? hy)
          have htk : U.reverse.take (j + 1) = U.reverse.take j ++ [y] := by
            rw [List.take_add_one, List.getElem?_reverse (by rw [HUL.out]; exact hlj), HUL.out, show L - 1 - j = r by omega, hy]
            rfl
          have hlen : (U.reverse.take j).length = j := by rw [List.length_take, List.length_reverse, HUL.out]; omega
          have g2 := (Below.refl wr.heap.size wr).alloc (Nat.le_refl _) (.cells #[.int .i64 y] 45)
          have i2 := Blk.Is.new wr 45 #[.int .i64 y]
          obtain ⟨W2, hW2⟩ : ∃ W2, wr.alloc (.cells #[.int .i64 y] 45) = W2 := ⟨_, rfl⟩
          rw [hW2] at g2 i2
          have R1 := Lib.hid (HR.out.below g2)
          have SRC := Lib.hid (lit_on i2)
          have BW := Lib.hid (HRB.out.trans (g2.mono (by have := HRB.out.size; have := HB3.out; omega)))
          have hsz : b3 ≤ W2.heap.size := by have := BW.out.size; have := HB3.out; omega
          obtain ⟨i0, hi, hz0, hz1, hz2⟩ := info_parts infoLit
          have HI := Lib.hid hi
          have OW := R1.out.2
          rw [hlen] at OW
          have OWN := Lib.hid OW
          have HTK := Lib.hid htk
          have HLE := Lib.hid hlen
          have HYZ := Lib.hid hyz
          have hu := hW2
          clear g2 i2 hW2 hi OW HR HRB ho1 ho2 hy htk hlen hyz
          go_wp2_with (at_builtin; refine wpList_append4 rfl (.tmp 106) (.tmp 115) 22 22 rfl b3 45 i0 _ 1 8 Try.underlying22 HI.out hz0 hz1 hz2 rfl _ j _ rfl OWN.out _ 1 (lcells [y]) rfl SRC.out ?_ ?_ hsz ?_)
          · simp only [maxLen]; omega
          · omega
          intro v7 w7 o7 g7 q7
          have h1 : Lt w7 b3 v7 (U.reverse.take (j + 1)) := by
            rw [HTK.out]
            exact lt_more R1.out HYZ.out (by rw [HLE.out]; exact o7)
          have bw : Below b3 w3 w7 := Own.below_grown BW.out R1.out.2 g7 hsz
          obtain ⟨a7, c7, rfl, _⟩ := own_shape o7
          have P1 := Lib.hid h1
          have PB := Lib.hid bw
          clear o7 g7 q7 h1 bw R1 SRC BW OWN hsz HI hu c3 hr
          go_wp2_with fail
          go_roundg gk'
          case measure => omega
          case rel => exact ⟨j + 1, a7, c7, rfl, by go_num, P1, PB, by omega, by omega⟩
        · obtain rfl : j = L := by omega
          have hge2 : ¬ (j : Int) < (j : Int) := by omega
          have er : U.reverse.take j = U.reverse := by rw [← HUL.out, ← List.length_reverse, List.take_length]
          rw [er] at HR
          have O5 := Lib.hid ho1
          have B5 := Lib.hid (B3.out.trans (HRB.out.mono (by have := B3.out.size; have := HB3.out; omega)))
          clear er ho1
          have cn := new_any n1 wr
          rw [hv1] at cn
          go_wp2_with fail
          refine cn.mono ?_
          rintro e w6 ⟨rfl, hs6, sa, k6⟩
          have cn2 := new_any n1 w6
          rw [hv1] at cn2
          obtain ⟨pa, hpa⟩ : ∃ pa, wr.heap.size = pa := ⟨_, rfl⟩
          rw [hpa] at sa ⊢
          have HPA := Lib.hid hpa
          have SA := Lib.hid sa
          have K6 := Lib.hid (show Below pa wr w6 by rw [← hpa]; exact k6)
          clear cn hs6 sa k6 hpa
          go_wp2_with fail
          refine cn2.mono ?_
          rintro e w7 ⟨rfl, hs7, sb, k7⟩
          obtain ⟨pb, hpb⟩ : ∃ pb, w6.heap.size = pb := ⟨_, rfl⟩
          have hpab : pa < pb := by rw [← hpb]; exact SA.out.is.lt
          have K7 := Lib.hid (K6.out.trans (k7.mono (by omega)))
          have SA7 := Lib.hid (SA.out.below k7)
          rw [hpb] at sb ⊢
          have HPB := Lib.hid hpb
          have SB := Lib.hid sb
          have H67 := Lib.hid k7.size
          clear cn2 hs7 sb k7 hpb SA K6
          have hw : pa ≤ w7.heap.size := by have := H67.out; have := HPB.out; omega
          have O7 := Lib.hid (O5.out.below (w' := w7) (by rw [HPA.out]; exact K7.out))
          have ca := add_any SA7.out _ U O7.out.lit (by rw [HUL.out]; omega) hw
          rw [HTA.out] at ca
          obtain ⟨L2, hL2⟩ : ∃ L2, adds n1 [] U = L2 := ⟨_, rfl⟩
          rw [hL2] at ca HA
          clear hL2
          go_wp2_with fail
          refine ca.mono ?_
          rintro e w8 ⟨rfl, va, s8, g8, k8⟩
          have SA8 := Lib.hid s8
          have SB8 := Lib.hid (SetP.other2 (T := 55) (T' := 55) (by decide) (by decide) (by decide) SB.out SA7.out (by omega) (Apart.nil _) k8)
          have AP := Lib.hid (show Apart va (.slice none 0 0) from (Apart.nil va).symm)
          have K8 := Lib.hid (K7.out.trans (k8.below (B := pa) (fun i hi => SA7.out.mineLow i hi) hw))
          have H78 := Lib.hid k8.size
          clear ca s8 g8 k8 SA7 SB O7
          have bb8 : Below wr.heap.size wr w8 := by rw [HPA.out]; exact K8.out
          have R8 := Lib.hid (HR.out.below bb8)
          have U8 := Lib.hid (O5.out.below bb8)
          have OW := R8.out.2
          rw [List.length_reverse, HUL.out] at OW
          have OWN := Lib.hid OW
          have hur := U8.out.lit
          have SRC := Lib.hid hur.src
          have hsz : b3 ≤ w8.heap.size := by have := bb8.size; have := HRB.out.size; have := HB3.out; omega
          obtain ⟨i0, hi, hz0, hz1, hz2⟩ := info_parts infoLit
          have HI := Lib.hid hi
          clear bb8 OW hur hi
          go_wp2_with (at_builtin; refine wpList_append4 rfl (.tmp 126) (.tmp 127) 22 22 rfl b3 45 i0 _ 1 8 Try.underlying22 HI.out hz0 hz1 hz2 rfl _ j _ rfl OWN.out _ j (lcells U) rfl SRC.out ?_ ?_ hsz ?_)
          · simp only [maxLen]; omega
          · omega
          intro v9 w9 o9 g9 q9
          have hch : Blk.Chg (fun i => (Value.slice a6 j c6).ownBlock = some i) w8 w9 := (Blk.Chg.refl _ _).grown g9 (fun g hg _ => hg)
          have hlow : ∀ i, (Value.slice a6 j c6).ownBlock = some i → b3 ≤ i ∧ i < pa := fun i hi => by
            have h1 := own_lt HR.out.2 hi
            have := HPA.out
            omega
          have SA9 := Lib.hid (SA8.out.stays hch fun i hi => (hlow i hi).2)
          have SB9 := Lib.hid (SB8.out.stays hch fun i hi => by have := (hlow i hi).2; omega)
          have K9 := Lib.hid (show Below b3 w3 w9 from (HRB.out.trans (K8.out.mono (by have := HRB.out.size; have := HB3.out; have := HPA.out; omega))).trans (hch.below (B := b3) (fun i hi => (hlow i hi).1) hsz))
          have hcat : Lt w9 b3 v9 (U.reverse ++ U) := by
            refine ⟨fun z hz => HUM.out z (by simpa using hz), ?_⟩
            rw [List.length_append, List.length_reverse, HUL.out]
            unfold lcells at o9 ⊢
            rw [List.map_append]
            exact o9
          have hw9 : pb ≤ w9.heap.size := by have := hch.size; have := H78.out; have := H67.out; have := HPB.out; omega
          have cb := add_any SB9.out v9 (U.reverse ++ U) hcat.lit (by rw [List.length_append, List.length_reverse, HUL.out]; omega) hw9
          rw [HBB.out.1] at cb
          obtain ⟨L3, hL3⟩ : ∃ L3, adds n1 [] (U.reverse ++ U) = L3 := ⟨_, rfl⟩
          rw [hL3] at cb HBB
          obtain ⟨a9, c9, rfl, _⟩ := own_shape o9
          clear o9 g9 q9 hch hlow hcat hL3 SRC OWN R8 U8 SA8 SB8 HI
          go_wp2_with fail
          refine cb.mono ?_
          rintro e w10 ⟨rfl, vb, s10, g10, k10⟩
          have SA10 := Lib.hid (SetP.other2 (T := 55) (T' := 55) (by decide) (by decide) (by decide) SA9.out SB9.out (by omega) AP.out k10)
          have SB10 := Lib.hid s10
          have K10 := Lib.hid (K9.out.trans (k10.below (B := b3) (fun i hi => by have := SB9.out.mineLow i hi; have := HPA.out; have := HRB.out.size; have := HB3.out; omega) (by have := K9.out.size; have := HB3.out; omega)))
          have B10 := Lib.hid (B3.out.trans (K10.out.mono (by have := B3.out.size; have := HB3.out; omega)))
          have hs3 := S3.out.below (w' := w10) (by rw [HB3.out]; exact K10.out)
          have c1 := holds_any ps vs n1 L1 ps _ m w10 hs3 (HM.out.below B10.out)
          rw [HS1.out] at c1
          clear cb s10 g10 k10 SA9 SB9 K9 hs3
          obtain ⟨D1, hD1⟩ : ∃ D1, decide (kk ≤ 1) = D1 := ⟨_, rfl⟩
          obtain ⟨D2, hD2⟩ : ∃ D2, decide (1 ≤ kk) = D2 := ⟨_, rfl⟩
          have hd1 : decide ((kk : Int) ≤ 1) = D1 := by rw [← hD1]; apply decide_eq_decide.2; omega
          have hd2 : decide ((kk : Int) ≥ 1) = D2 := by rw [← hD2]; apply decide_eq_decide.2; omega
          have he1 : (D1 == D1) = true := by simp
          have he2 : (D2 == D2) = true := by simp
          rw [hD1] at c1
          rw [hD2] at HA HBB
          clear hD1 hD2
          go_wp2_with fail
          refine c1.mono ?_
          rintro e w11 ⟨rfl, k11⟩
          have B11 := Lib.hid (B10.out.trans (k11.mono B10.out.size))
          have c2 := holds_any pa va n1 L2 pa _ m w11 (SA10.out.below k11) (HM.out.below B11.out)
          rw [HA.out] at c2
          have SA11 := Lib.hid (SA10.out.below k11)
          have SB11 := Lib.hid (SB10.out.below k11)
          clear c1 k11 SA10 SB10
          go_wp2_with fail
          refine c2.mono ?_
          rintro e w12 ⟨rfl, k12⟩
          have B12 := Lib.hid (B11.out.trans (k12.mono B11.out.size))
          have c3 := holds_any pb vb n1 L3 pb _ m w12 (SB11.out.below k12) (HM.out.below B12.out)
          rw [HBB.out.2] at c3
          have SA12 := Lib.hid (SA11.out.below k12)
          clear c2 k12 SA11 SB11
          go_wp2_with fail
          refine c3.mono ?_
          rintro e w13 ⟨rfl, k13⟩
          have B13 := Lib.hid (B12.out.trans (k13.mono B12.out.size))
          have c4 := holds_any pa va n1 L2 pa _ m w13 (SA12.out.below k13) (HM.out.below B13.out)
          rw [HA.out] at c4
          clear c3 k13 SA12
          go_wp2_with fail
          refine c4.mono ?_
          rintro e w14 ⟨rfl, k14⟩
          have B14 := Lib.hid (B13.out.trans (k14.mono B13.out.size))
          have cw := awake_any w14
          clear c4 k14
          go_wp2_with fail
          refine cw.mono ?_
          rintro e w15 ⟨rfl, k15⟩
          have B15 := Lib.hid (B14.out.trans (k15.mono B14.out.size))
          clear cw k15
          go_wp2_with fail
          go_ret
          exact ⟨rfl, B15.out⟩
end Cn
end Go.Proofs.Ytlpahomaokopoaa

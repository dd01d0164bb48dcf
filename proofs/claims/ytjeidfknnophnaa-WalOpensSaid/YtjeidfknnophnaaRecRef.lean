/-
The contract of the reference's Records.
-/
import Derived.Test.YtjeidfknnophnaaWalPlay
import Derived.Test.YtjeidfknnophnaaWalRef
import Derived.Test.YtjeidfknnophnaaMarkRef
import Derived.Deep.LoopGhost
namespace Go.Proofs.Ytjeidfknnophnaa
open Go.RowKit
set_option linter.unusedVariables false
set_option linter.unusedSimpArgs false
namespace Wal
theorem Row.part {w : World} {g off len : Nat} {zs : List Int} (h : Row w (some ⟨g, off, none⟩) len zs) (i j : Nat) (hij : i ≤ j) (hj : j ≤ len) : Row w (some ⟨g, off + i, none⟩) (j - i) ((zs.drop i).take (j - i)) := by
  have hc := h.count
  refine ⟨by rw [List.length_take, List.length_drop]; omega, by have := h.short; omega, (h.byt.drop i).take _, fun h0 => ?_⟩
  obtain ⟨b, o, e, h1, h2⟩ := h.cells (by omega)
  cases e
  refine ⟨_, _, rfl, h1, fun k hk => ?_⟩
  have := h2 (i + k) (by omega)
  rw [Nat.add_assoc, this]
  congr 2
  simp [List.getD_eq_getElem?_getD, List.getElem?_take, List.getElem?_drop, hk]
/-- What Records hands back. -/
def RecsTold (w : World) (zs : List Int) (e : Ending) (w' : World) : Prop :=
  Below w.heap.size w w' ∧ ∃ n, Marks (zs.take 64) n ∧
    ((rdN (zs.drop 64) n = none ∧ e = .returned (.tuple #[.slice none 0 0, .int .i64 0, .int .i64 3])) ∨
     ∃ rs v, rdN (zs.drop 64) n = some rs ∧ Recs w' w.heap.size v rs ∧ e = .returned (.tuple #[v, .int .i64 ((1 + used rs : Nat) : Int), .int .i64 0]))
set_option maxRecDepth 100000 in
set_option maxHeartbeats 8000000 in
theorem refRecords_any (g off m cap : Nat) (zs : List Int) (w : World) (hr : Row w (some ⟨g, off, none⟩) (64 * (m + 1)) zs) (hm : m ≤ 4096) (hc : 64 * (m + 1) ≤ cap) :
    Calls Try.prog 22 #[.slice (some ⟨g, off, none⟩) (64 * (m + 1)) cap] w (RecsTold w zs) := by
  have hlen := hr.count
  have hrM := hr.take 64 (by omega)
  have hM := fun w' (hb : Below w.heap.size w w') => refMarked_any (some ⟨g, off, none⟩) 64 cap (zs.take 64) w' (hrM.below hb) (by omega)
  have HR := Lib.hid hr
  have c1 := hM w (Below.refl _ _)
  clear hr hrM hM
  obtain ⟨len, hl⟩ : ∃ len, 64 * (m + 1) = len := ⟨_, rfl⟩
  rw [hl] at HR hc hlen ⊢
  have hcz : (64 : Int) ≤ (cap : Int) := by omega
  go_enter Try.func22, Try.ntmps22
  go_wp2_with fail
  refine c1.mono ?_
  rintro e w1 ⟨n, rfl, rfl, hn1, hn2, hn3⟩
  have hmk : Marks (zs.take 64) n := ⟨by omega, hn2, fun h => hn3 (by omega)⟩
  have HMK := Lib.hid hmk
  clear c1 hn2 hn3 hmk
  go_wp2_with fail
  go_loopg [6, 7, 14] n (fun gf s6 s7 s14 wx => ∃ (i : Nat) (rs : List (List Int)) (at' : Nat), s14 = .int .i64 i ∧ s6 = .int .i64 at' ∧ at' = 64 * (1 + used rs) ∧ Recs wx w.heap.size s7 rs ∧ Below w.heap.size w wx ∧ Hid (rdN (zs.drop 64) i = some rs) ∧ i ≤ n ∧ n ≤ i + gf ∧ at' ≤ len)
  case atStart => exact ⟨0, [], 64, rfl, rfl, rfl, recs_nil _ _, Below.refl _ _, rfl, by omega, by omega, by omega⟩
  case round =>
    obtain ⟨i, rs, at', rfl, rfl, hat, hrecs, hbw, HN, hi1, hi2, hale⟩ := hrel
    have HRC := Lib.hid hrecs
    have HB := Lib.hid hbw
    have hroww := HR.out.below hbw
    have HRW := Lib.hid hroww
    clear hrecs hbw hroww
    by_cases hin : i < n
    · have hin' : (i : Int) < (n : Int) := by omega
      by_cases hend : at' = len
      · have hgt : (len : Int) < (at' : Int) + 8 := by omega
        have hrd : rd ((zs.drop 64).drop (64 * used rs)) = none := by
          unfold rd
          rw [if_pos (by rw [List.length_drop, List.length_drop]; omega)]
        have hno : rdN (zs.drop 64) n = none := by
          have := rdN_none (rdN_stop HN.out hrd) (n - (i + 1))
          rwa [show i + 1 + (n - (i + 1)) = n by omega] at this
        have HNO := Lib.hid hno
        clear hrd hno hat
        go_wp2_with fail
        go_ret3
        exact ⟨HB.out, n, HMK.out, .inl ⟨HNO.out, rfl⟩⟩
      · have hroom : at' + 64 ≤ len := by omega
        have hng : ¬ (len : Int) < (at' : Int) + 8 := by omega
        obtain ⟨b', o', hbe, hgl, hcell⟩ := HRW.out.cells (by omega)
        cases hbe
        have x0 := hcell at' (by omega)
        have x1 := hcell (at' + 1) (by omega)
        have x2 := hcell (at' + 2) (by omega)
        have x3 := hcell (at' + 3) (by omega)
        have z0 := HR.out.byt.getD at'
        have z1 := HR.out.byt.getD (at' + 1)
        have z2 := HR.out.byt.getD (at' + 2)
        have z3 := HR.out.byt.getD (at' + 3)
        have hq : num32 ((zs.drop 64).drop (64 * used rs)) = zs.getD at' 0 * 16777216 + zs.getD (at' + 1) 0 * 65536 + zs.getD (at' + 2) 0 * 256 + zs.getD (at' + 3) 0 := by
          unfold num32
          simp only [List.getD_eq_getElem?_getD, List.getElem?_drop]
          rw [show 64 + (64 * used rs + 0) = at' by omega, show 64 + (64 * used rs + 1) = at' + 1 by omega, show 64 + (64 * used rs + 2) = at' + 2 by omega, show 64 + (64 * used rs + 3) = at' + 3 by omega]
        have HQ := Lib.hid hq
        have HAT := Lib.hid hat
        have o1 : bits .or .i64 (zs.getD at' 0 * 16777216) (zs.getD (at' + 1) 0 * 65536) = zs.getD at' 0 * 16777216 + zs.getD (at' + 1) 0 * 65536 :=
          bits_join .i64 63 (by decide) wraps_i64 24 _ _ (by omega) (by omega) (by omega) (by omega) (by omega) (by omega)
        have o2 : bits .or .i64 (zs.getD at' 0 * 16777216 + zs.getD (at' + 1) 0 * 65536) (zs.getD (at' + 2) 0 * 256) = zs.getD at' 0 * 16777216 + zs.getD (at' + 1) 0 * 65536 + zs.getD (at' + 2) 0 * 256 :=
          bits_join .i64 63 (by decide) wraps_i64 16 _ _ (by omega) (by omega) (by omega) (by omega) (by omega) (by omega)
        have o3 : bits .or .i64 (zs.getD at' 0 * 16777216 + zs.getD (at' + 1) 0 * 65536 + zs.getD (at' + 2) 0 * 256) (zs.getD (at' + 3) 0) = zs.getD at' 0 * 16777216 + zs.getD (at' + 1) 0 * 65536 + zs.getD (at' + 2) 0 * 256 + zs.getD (at' + 3) 0 :=
          bits_join .i64 63 (by decide) wraps_i64 8 _ _ (by omega) (by omega) (by omega) (by omega) (by omega) (by omega)
        generalize zs.getD at' 0 = y0 at *
        generalize zs.getD (at' + 1) 0 = y1 at *
        generalize zs.getD (at' + 2) 0 = y2 at *
        generalize zs.getD (at' + 3) 0 = y3 at *
        clear hcell hq hat hend
        go_wp2_with fail
        go_quiet (fail)
        obtain ⟨W, hW⟩ : ∃ W, wr.drewN nq = W := ⟨_, rfl⟩
        rw [hW]
        have hdw : Below wr.heap.size wr W := by rw [← hW]; exact drewN_below wr nq
        obtain ⟨q, hq⟩ : ∃ q : Nat, y0 * 16777216 + y1 * 65536 + y2 * 256 + y3 = (q : Int) := ⟨_, (Int.toNat_of_nonneg (by omega)).symm⟩
        rw [hq]
        have hq32 : q < 4294967296 := by omega
        have hqn := HQ.out
        rw [hq] at hqn
        have HQN := Lib.hid hqn
        have HRC2 := Lib.hid (HRC.out.below hdw)
        have HB2 := Lib.hid (HB.out.trans (hdw.mono HB.out.size))
        have HRW2 := Lib.hid (HRW.out.below hdw)
        have hql : ((zs.drop 64).drop (64 * used rs)).length = len - at' := by rw [List.length_drop, List.length_drop]; have := HAT.out; omega
        have HQL := Lib.hid hql
        have stop : rd ((zs.drop 64).drop (64 * used rs)) = none → rdN (zs.drop 64) n = none := fun hrd => by
          have := rdN_none (rdN_stop HN.out hrd) (n - (i + 1))
          rwa [show i + 1 + (n - (i + 1)) = n by omega] at this
        have STOP := Lib.hid stop
        clear hW hdw hq hqn hql stop HQ HRC HB HRW x0 x1 x2 x3 o1 o2 o3 z0 z1 z2 z3 hgl
        by_cases hbig : 8192 < q
        · have hbig' : 8192 < (q : Int) := by omega
          have hno := STOP.out (rd_no (.inl (by rw [HQN.out]; omega)))
          have HNO := Lib.hid hno
          clear hno
          go_wp2_with fail
          go_ret3
          exact ⟨HB2.out, n, HMK.out, .inl ⟨HNO.out, rfl⟩⟩
        · have hbig' : ¬ 8192 < (q : Int) := by omega
          have hnd : ∀ w', Calls Try.prog 13 #[.int .i64 q] w' fun e w'' => e = .returned (.int .i64 (needN q)) ∧ w' = w'' := fun w' => by
            have := refNeed_any (q : Int) w' (by omega)
            rwa [need_nat] at this
          have hK1 := needN_pos (n := q) (by omega)
          obtain ⟨K, hK⟩ : ∃ K, needN q = K := ⟨_, rfl⟩
          rw [hK] at hnd hK1
          have HK := Lib.hid hK
          have HND := Lib.hid hnd
          clear hK hnd
          go_wp2_with fail
          refine (HND.out _).mono ?_
          rintro e w' ⟨rfl, rfl⟩
          by_cases hfit : len < at' + 64 * K
          · have hfit' : (len : Int) < (at' : Int) + (K : Int) * 64 := by omega
            have hno := STOP.out (rd_no (.inr (by rw [HQN.out, Int.toNat_natCast, HQL.out, HK.out]; omega)))
            have HNO := Lib.hid hno
            clear hno
            go_wp2_with fail
            go_ret3
            exact ⟨HB2.out, n, HMK.out, .inl ⟨HNO.out, rfl⟩⟩
          · have hfit' : ¬ (len : Int) < (at' : Int) + (K : Int) * 64 := by omega
            have hrp := Row.part HRW2.out (at' + 8) (at' + 8 + q) (by omega) (by omega)
            obtain ⟨r, hr⟩ : ∃ r, (zs.drop (at' + 8)).take (at' + 8 + q - (at' + 8)) = r := ⟨_, rfl⟩
            rw [hr] at hrp
            have hrc := hrp.count
            have hrb := hrp.byt
            rw [show at' + 8 + q - (at' + 8) = q by omega] at hrc hr
            have hz1 : (at' : Int) + 8 ≤ (at' : Int) + 8 + (q : Int) := by omega
            have hz2 : (at' : Int) + 8 + (q : Int) ≤ (cap : Int) := by omega
            have HRR := Lib.hid hr
            clear hr
            go_wp2_with (at_builtin; refine append_bytes rfl (.const (.slice none 0 0)) (.tmp 69) rfl W.heap.size (.slice none 0 0) [] rfl (mine_none _ _) (some ⟨g, off + (at' + 8), none⟩) (at' + 8 + q - (at' + 8)) _ rfl r hrp (by intro h; cases h) ?_ ?_ ?_)
            · rw [List.length_nil]; omega
            · exact Nat.le_refl _
            intro v9 w9 h9 g9
            have b9 : Below W.heap.size W w9 := Own.below_grown (Below.refl W.heap.size W) (mine_none W W.heap.size).1 g9 (Nat.le_refl _)
            have h9 : Mine w9 W.heap.size v9 r := h9
            obtain ⟨n9, a9, c9, rfl, hc9, hl9, hr9⟩ := h9.rows
            have hn9 : a9 = none → c9 = 0 := by
              intro e
              rcases h9.1.2 with ⟨h1, _⟩ | ⟨_, _, _, h1, _⟩ <;> simp only [Value.slice.injEq] at h1
              · exact h1.2.2
              · rw [e] at h1; cases h1.1
            obtain rfl : q = n9 := by omega
            have hrec := fun u (hu : Below w9.heap.size w9 u) => refRecord_any a9 q c9 r u (hr9.below hu) hn9 (by omega)
            have hrw9 := HRW2.out.below b9
            have hwh := Row.part hrw9 at' (at' + K * 64) (by omega) (by omega)
            rw [show at' + K * 64 - at' = K * 64 by omega] at hwh
            obtain ⟨wh, hwhe⟩ : ∃ wh, (zs.drop at').take (K * 64) = wh := ⟨_, rfl⟩
            rw [hwhe] at hwh
            have hbeq := str_beq (record_byte hrb) hwh.byt
            have hwe : ((zs.drop 64).drop (64 * used rs)).take (64 * needN q) = wh := by
              have e1 := HAT.out
              have e2 := HK.out
              rw [← hwhe, List.drop_drop, show 64 + 64 * used rs = at' by omega, e2, show K * 64 = 64 * K by omega]
            have hwb : (wh.drop 8).take q = r := by
              rw [← HRR.out, ← hwhe, List.drop_take, List.take_take, List.drop_drop, show min q (K * 64 - 8) = q by omega]
            have hrd := rd_yes (zs := (zs.drop 64).drop (64 * used rs)) (n := q) (by rw [HQL.out]; omega) HQN.out (by rw [HQL.out, HK.out]; omega) hwe hwb
            have HRDNO := Lib.hid (show ¬ record r = wh → rd ((zs.drop 64).drop (64 * used rs)) = none from fun hx => by rw [hrd, if_neg (fun e => hx e.symm)])
            have HRDYES := Lib.hid (show record r = wh → rd ((zs.drop 64).drop (64 * used rs)) = some r from fun hx => by rw [hrd, if_pos hx.symm])
            have HBEQ := Lib.hid hbeq
            have HREC := Lib.hid hrec
            have HWh := Lib.hid hwh
            have HRW9 := Lib.hid hrw9
            have M9 := Lib.hid h9
            have HRC9 := Lib.hid (HRC2.out.below b9)
            have HB9 := Lib.hid (HB2.out.trans (b9.mono HB2.out.size))
            clear h9 g9 b9 hr9 hrec hrw9 hwh hbeq hwe hwb hrd hwhe hrp HRC2 HB2 HRW2
            go_wp2_with fail
            refine wp_region_held (S := fun u => Below w9.heap.size w9 u) (by kernel_rfl) ?_
            change wpAnyH _ _ _ _ _ 13 _ _ w9.drew
            have hW : Below w9.heap.size w9 w9.drew := (Below.refl _ _).drew
            have HWh := Lib.hid (HWh.out.below hW)
            refine wpAnyH_take (i := 0) (v := .slice a9 q c9) rfl (by kernel_rfl) (by kernel_rfl) (by kernel_rfl) (fun _ _ _ h => h) (.inl ⟨rfl, fun w _ => rfl⟩) hW ?_
            simp only [Act.put, List.getElem_toArray, List.getElem_cons_zero, List.getElem_cons_succ, List.setIfInBounds_toArray, List.set_cons_zero, List.set_cons_succ]
            refine wpAnyH_take (i := 3) (v := .slice (some ⟨g, off, none⟩) len cap) rfl (by kernel_rfl) (by kernel_rfl) (by kernel_rfl) (fun _ _ _ h => h) (.inl ⟨rfl, fun w _ => rfl⟩) hW ?_
            simp only [Act.put, List.getElem_toArray, List.getElem_cons_zero, List.getElem_cons_succ, List.setIfInBounds_toArray, List.set_cons_zero, List.set_cons_succ]
            refine wpAnyH_take (i := 4) (v := .int .i64 at') rfl (by kernel_rfl) (by kernel_rfl) (by kernel_rfl) (fun _ _ _ h => h) (.inl ⟨rfl, fun w _ => rfl⟩) hW ?_
            simp only [Act.put, List.getElem_toArray, List.getElem_cons_zero, List.getElem_cons_succ, List.setIfInBounds_toArray, List.set_cons_zero, List.set_cons_succ]
            refine wpAnyH_take (i := 5) (v := .int .i64 at') rfl (by kernel_rfl) (by kernel_rfl) (by kernel_rfl) (fun _ _ _ h => h) (.inl ⟨rfl, fun w _ => rfl⟩) hW ?_
            simp only [Act.put, List.getElem_toArray, List.getElem_cons_zero, List.getElem_cons_succ, List.setIfInBounds_toArray, List.set_cons_zero, List.set_cons_succ]
            refine wpAnyH_take (i := 6) (v := .int .i64 q) rfl (by kernel_rfl) (by kernel_rfl) (by kernel_rfl) (fun _ _ _ h => h) (.inl ⟨rfl, fun w _ => rfl⟩) hW ?_
            simp only [Act.put, List.getElem_toArray, List.getElem_cons_zero, List.getElem_cons_succ, List.setIfInBounds_toArray, List.set_cons_zero, List.set_cons_succ]
            refine wpAnyH_all (rs := [1]) (by kernel_rfl) (by simp) ?_
            intro i0 hi0
            obtain rfl := List.mem_singleton.1 hi0
            clear hi0
            refine Reg.wpOp_list rfl ?_
            go_wp2_with fail
            refine (HREC.out _ hW).mono ?_
            rintro e wA ⟨vA, rfl, hmA, hbA⟩
            obtain ⟨nA, aA, cA, rfl, _, _, hrA⟩ := hmA.rows
            have HAr := Lib.hid hrA
            have HWh := Lib.hid (HWh.out.below hbA)
            have hW := hW.trans (hbA.mono hW.size)
            clear hmA hrA hbA
            go_wp2_with fail
            change _ ∧ _
            refine ⟨hW, ?_⟩
            refine wpAnyH_all (rs := [2, 7]) (by kernel_rfl) (by simp) ?_
            intro i0 hi0
            simp only [List.mem_cons, List.not_mem_nil, or_false] at hi0
            rcases hi0 with rfl | rfl
            · refine Reg.wpOp_list rfl ?_
              have hcv := HAr.out.conv cA
              go_wp2_with fail
              clear hcv
              change _ ∧ _
              refine ⟨hW, ?_⟩
              refine wpAnyH_all (rs := [7]) (by kernel_rfl) (by simp) ?_
              intro i0 hi0
              obtain rfl := List.mem_singleton.1 hi0
              clear hi0
              refine Reg.wpOp_list rfl ?_
              go_wp2_with fail
              refine (HND.out _).mono ?_
              rintro e w' ⟨rfl, rfl⟩
              go_wp2_with fail
              change _ ∧ _
              refine ⟨hW, ?_⟩
              refine wpAnyH_take (i := 8) (v := .int .i64 (IntKind.i64.wrap ((K : Int) * 64))) rfl (by kernel_rfl) (by kernel_rfl) (by kernel_rfl) (fun _ _ _ h => h) (.inl ⟨rfl, fun w _ => rfl⟩) hW ?_
              simp only [Act.put, List.getElem_toArray, List.getElem_cons_zero, List.getElem_cons_succ, List.setIfInBounds_toArray, List.set_cons_zero, List.set_cons_succ]
              rw [IntWalk.i64_in ((K : Int) * 64) (by omega)]
              refine wpAnyH_take (i := 9) (v := .int .i64 (IntKind.i64.wrap ((at' : Int) + (K : Int) * 64))) rfl (by kernel_rfl) (by kernel_rfl) (by kernel_rfl) (fun _ _ _ h => h) (.inl ⟨rfl, fun w _ => rfl⟩) hW ?_
              simp only [Act.put, List.getElem_toArray, List.getElem_cons_zero, List.getElem_cons_succ, List.setIfInBounds_toArray, List.set_cons_zero, List.set_cons_succ]
              rw [IntWalk.i64_in ((at' : Int) + (K : Int) * 64) (by omega)]
              refine wpAnyH_all (rs := [10]) (by kernel_rfl) (by simp) ?_
              intro i0 hi0
              obtain rfl := List.mem_singleton.1 hi0
              clear hi0
              refine Reg.wpOp_list rfl ?_
              go_wp2_with fail
              change _ ∧ _
              refine ⟨hW, ?_⟩
              refine wpAnyH_all (rs := [11]) (by kernel_rfl) (by simp) ?_
              intro i0 hi0
              obtain rfl := List.mem_singleton.1 hi0
              clear hi0
              refine Reg.wpOp_list rfl ?_
              have hcv := HWh.out.conv (cap - at')
              go_wp2_with fail
              clear hcv
              change _ ∧ _
              refine ⟨hW, ?_⟩
              clear HREC HAr HWh
              by_cases hx : record r = wh
              · have hbeq := HBEQ.out
                rw [decide_eq_true hx] at hbeq
                refine wpAnyH_all (rs := [12]) (by kernel_rfl) (by simp) ?_
                intro i0 hi0
                obtain rfl := List.mem_singleton.1 hi0
                clear hi0
                refine Reg.wpOp_list rfl ?_
                go_wp2_with fail
                clear hbeq
                change _ ∧ _
                refine ⟨hW, ?_⟩
                have hnext := rdN_next HN.out (HRDYES.out hx)
                have HNX := Lib.hid hnext
                have RC := HRC9.out.below hW
                have M0 := M9.out.below hW
                have BW := HB9.out.trans (hW.mono HB9.out.size)
                have R0 := HRW9.out.below hW
                clear hnext hW hx HRW9 HRC9 HB9 M9
                refine wpAnyH_done (by kernel_rfl) ?_ _
                have hrl := rdN_len HN.out
                have bA : Below wA.heap.size wA (wA.alloc (.cells #[.slice a9 q c9] 25)) := (Below.refl _ _).alloc (Nat.le_refl _) _
                have hcell : (wA.alloc (.cells #[.slice a9 q c9] 25)).cell? ((⟨wA.heap.size, 0, none⟩ : Addr).add 0) = some (.slice a9 q c9) := by
                  rw [Addr.add_mid]; exact (Blk.Is.new wA 25 #[.slice a9 q c9]).at rfl
                have hel : El (wA.alloc (.cells #[.slice a9 q c9] 25)) w.heap.size (.slice a9 q c9) r := (El.ofMine M0).below bA
                have RA := Lib.hid (RC.below bA)
                have BA := Lib.hid (BW.trans (bA.mono BW.size))
                have HC := Lib.hid hcell
                have HEL := Lib.hid hel
                have hsz := BA.out.size
                clear RC BW bA hcell hel M0 R0
                go_wp2_with (at_builtin; refine append_rec rfl (.tmp 84) (.tmp 86) rfl w.heap.size _ rs rfl RA.out _ _ rfl _ r HC.out HEL.out ?_ ?_ ?_)
                · omega
                · exact hsz
                intro v9 wB r9 g9
                have BB := Lib.hid (BA.out.grown g9 BA.out.size (fun k e => (RA.out.block e).1))
                have R9 := Lib.hid r9
                clear r9 g9 RA HC HEL hsz BA
                go_wp2_with fail
                refine (HND.out _).mono ?_
                rintro e w' ⟨rfl, rfl⟩
                go_wp2_with fail
                go_roundg (gk - 1)
                case measure => omega
                case rel =>
                  have e1 := HAT.out
                  have e2 := HK.out
                  have e3 : r.length = q := hrc
                  refine ⟨i + 1, rs ++ [r], at' + K * 64, by go_num, by go_num, ?_, R9.out, BB.out, HNX.out, by omega, by omega, by omega⟩
                  rw [used_snoc, e3, e2]; omega

              · have hbeq := HBEQ.out
                rw [decide_eq_false hx] at hbeq
                refine wpAnyH_all (rs := [12]) (by kernel_rfl) (by simp) ?_
                intro i0 hi0
                obtain rfl := List.mem_singleton.1 hi0
                clear hi0
                refine Reg.wpOp_list rfl ?_
                go_wp2_with fail
                clear hbeq
                change _ ∧ _
                refine ⟨hW, ?_⟩
                have hno := STOP.out (HRDNO.out hx)
                have HNO := Lib.hid hno
                clear hno
                refine wpAnyH_done (by kernel_rfl) ?_ _
                go_wp2_with fail
                go_ret3
                exact ⟨HB9.out.trans (hW.mono HB9.out.size), n, HMK.out, .inl ⟨HNO.out, rfl⟩⟩


            · refine Reg.wpOp_list rfl ?_
              go_wp2_with fail
              refine (HND.out _).mono ?_
              rintro e w' ⟨rfl, rfl⟩
              go_wp2_with fail
              change _ ∧ _
              refine ⟨hW, ?_⟩
              refine wpAnyH_take (i := 8) (v := .int .i64 (IntKind.i64.wrap ((K : Int) * 64))) rfl (by kernel_rfl) (by kernel_rfl) (by kernel_rfl) (fun _ _ _ h => h) (.inl ⟨rfl, fun w _ => rfl⟩) hW ?_
              simp only [Act.put, List.getElem_toArray, List.getElem_cons_zero, List.getElem_cons_succ, List.setIfInBounds_toArray, List.set_cons_zero, List.set_cons_succ]
              rw [IntWalk.i64_in ((K : Int) * 64) (by omega)]
              refine wpAnyH_take (i := 9) (v := .int .i64 (IntKind.i64.wrap ((at' : Int) + (K : Int) * 64))) rfl (by kernel_rfl) (by kernel_rfl) (by kernel_rfl) (fun _ _ _ h => h) (.inl ⟨rfl, fun w _ => rfl⟩) hW ?_
              simp only [Act.put, List.getElem_toArray, List.getElem_cons_zero, List.getElem_cons_succ, List.setIfInBounds_toArray, List.set_cons_zero, List.set_cons_succ]
              rw [IntWalk.i64_in ((at' : Int) + (K : Int) * 64) (by omega)]
              refine wpAnyH_all (rs := [2, 10]) (by kernel_rfl) (by simp) ?_
              intro i0 hi0
              simp only [List.mem_cons, List.not_mem_nil, or_false] at hi0
              rcases hi0 with rfl | rfl
              · refine Reg.wpOp_list rfl ?_
                have hcv := HAr.out.conv cA
                go_wp2_with fail
                clear hcv
                change _ ∧ _
                refine ⟨hW, ?_⟩
                refine wpAnyH_all (rs := [10]) (by kernel_rfl) (by simp) ?_
                intro i0 hi0
                obtain rfl := List.mem_singleton.1 hi0
                clear hi0
                refine Reg.wpOp_list rfl ?_
                go_wp2_with fail
                change _ ∧ _
                refine ⟨hW, ?_⟩
                refine wpAnyH_all (rs := [11]) (by kernel_rfl) (by simp) ?_
                intro i0 hi0
                obtain rfl := List.mem_singleton.1 hi0
                clear hi0
                refine Reg.wpOp_list rfl ?_
                have hcv := HWh.out.conv (cap - at')
                go_wp2_with fail
                clear hcv
                change _ ∧ _
                refine ⟨hW, ?_⟩
                clear HREC HAr HWh
                by_cases hx : record r = wh
                · have hbeq := HBEQ.out
                  rw [decide_eq_true hx] at hbeq
                  refine wpAnyH_all (rs := [12]) (by kernel_rfl) (by simp) ?_
                  intro i0 hi0
                  obtain rfl := List.mem_singleton.1 hi0
                  clear hi0
                  refine Reg.wpOp_list rfl ?_
                  go_wp2_with fail
                  clear hbeq
                  change _ ∧ _
                  refine ⟨hW, ?_⟩
                  have hnext := rdN_next HN.out (HRDYES.out hx)
                  have HNX := Lib.hid hnext
                  have RC := HRC9.out.below hW
                  have M0 := M9.out.below hW
                  have BW := HB9.out.trans (hW.mono HB9.out.size)
                  have R0 := HRW9.out.below hW
                  clear hnext hW hx HRW9 HRC9 HB9 M9
                  refine wpAnyH_done (by kernel_rfl) ?_ _
                  have hrl := rdN_len HN.out
                  have bA : Below wA.heap.size wA (wA.alloc (.cells #[.slice a9 q c9] 25)) := (Below.refl _ _).alloc (Nat.le_refl _) _
                  have hcell : (wA.alloc (.cells #[.slice a9 q c9] 25)).cell? ((⟨wA.heap.size, 0, none⟩ : Addr).add 0) = some (.slice a9 q c9) := by
                    rw [Addr.add_mid]; exact (Blk.Is.new wA 25 #[.slice a9 q c9]).at rfl
                  have hel : El (wA.alloc (.cells #[.slice a9 q c9] 25)) w.heap.size (.slice a9 q c9) r := (El.ofMine M0).below bA
                  have RA := Lib.hid (RC.below bA)
                  have BA := Lib.hid (BW.trans (bA.mono BW.size))
                  have HC := Lib.hid hcell
                  have HEL := Lib.hid hel
                  have hsz := BA.out.size
                  clear RC BW bA hcell hel M0 R0
                  go_wp2_with (at_builtin; refine append_rec rfl (.tmp 84) (.tmp 86) rfl w.heap.size _ rs rfl RA.out _ _ rfl _ r HC.out HEL.out ?_ ?_ ?_)
                  · omega
                  · exact hsz
                  intro v9 wB r9 g9
                  have BB := Lib.hid (BA.out.grown g9 BA.out.size (fun k e => (RA.out.block e).1))
                  have R9 := Lib.hid r9
                  clear r9 g9 RA HC HEL hsz BA
                  go_wp2_with fail
                  refine (HND.out _).mono ?_
                  rintro e w' ⟨rfl, rfl⟩
                  go_wp2_with fail
                  go_roundg (gk - 1)
                  case measure => omega
                  case rel =>
                    have e1 := HAT.out
                    have e2 := HK.out
                    have e3 : r.length = q := hrc
                    refine ⟨i + 1, rs ++ [r], at' + K * 64, by go_num, by go_num, ?_, R9.out, BB.out, HNX.out, by omega, by omega, by omega⟩
                    rw [used_snoc, e3, e2]; omega

                · have hbeq := HBEQ.out
                  rw [decide_eq_false hx] at hbeq
                  refine wpAnyH_all (rs := [12]) (by kernel_rfl) (by simp) ?_
                  intro i0 hi0
                  obtain rfl := List.mem_singleton.1 hi0
                  clear hi0
                  refine Reg.wpOp_list rfl ?_
                  go_wp2_with fail
                  clear hbeq
                  change _ ∧ _
                  refine ⟨hW, ?_⟩
                  have hno := STOP.out (HRDNO.out hx)
                  have HNO := Lib.hid hno
                  clear hno
                  refine wpAnyH_done (by kernel_rfl) ?_ _
                  go_wp2_with fail
                  go_ret3
                  exact ⟨HB9.out.trans (hW.mono HB9.out.size), n, HMK.out, .inl ⟨HNO.out, rfl⟩⟩


              · refine Reg.wpOp_list rfl ?_
                go_wp2_with fail
                change _ ∧ _
                refine ⟨hW, ?_⟩
                refine wpAnyH_all (rs := [2, 11]) (by kernel_rfl) (by simp) ?_
                intro i0 hi0
                simp only [List.mem_cons, List.not_mem_nil, or_false] at hi0
                rcases hi0 with rfl | rfl
                · refine Reg.wpOp_list rfl ?_
                  have hcv := HAr.out.conv cA
                  go_wp2_with fail
                  clear hcv
                  change _ ∧ _
                  refine ⟨hW, ?_⟩
                  refine wpAnyH_all (rs := [11]) (by kernel_rfl) (by simp) ?_
                  intro i0 hi0
                  obtain rfl := List.mem_singleton.1 hi0
                  clear hi0
                  refine Reg.wpOp_list rfl ?_
                  have hcv := HWh.out.conv (cap - at')
                  go_wp2_with fail
                  clear hcv
                  change _ ∧ _
                  refine ⟨hW, ?_⟩
                  clear HREC HAr HWh
                  by_cases hx : record r = wh
                  · have hbeq := HBEQ.out
                    rw [decide_eq_true hx] at hbeq
                    refine wpAnyH_all (rs := [12]) (by kernel_rfl) (by simp) ?_
                    intro i0 hi0
                    obtain rfl := List.mem_singleton.1 hi0
                    clear hi0
                    refine Reg.wpOp_list rfl ?_
                    go_wp2_with fail
                    clear hbeq
                    change _ ∧ _
                    refine ⟨hW, ?_⟩
                    have hnext := rdN_next HN.out (HRDYES.out hx)
                    have HNX := Lib.hid hnext
                    have RC := HRC9.out.below hW
                    have M0 := M9.out.below hW
                    have BW := HB9.out.trans (hW.mono HB9.out.size)
                    have R0 := HRW9.out.below hW
                    clear hnext hW hx HRW9 HRC9 HB9 M9
                    refine wpAnyH_done (by kernel_rfl) ?_ _
                    have hrl := rdN_len HN.out
                    have bA : Below wA.heap.size wA (wA.alloc (.cells #[.slice a9 q c9] 25)) := (Below.refl _ _).alloc (Nat.le_refl _) _
                    have hcell : (wA.alloc (.cells #[.slice a9 q c9] 25)).cell? ((⟨wA.heap.size, 0, none⟩ : Addr).add 0) = some (.slice a9 q c9) := by
                      rw [Addr.add_mid]; exact (Blk.Is.new wA 25 #[.slice a9 q c9]).at rfl
                    have hel : El (wA.alloc (.cells #[.slice a9 q c9] 25)) w.heap.size (.slice a9 q c9) r := (El.ofMine M0).below bA
                    have RA := Lib.hid (RC.below bA)
                    have BA := Lib.hid (BW.trans (bA.mono BW.size))
                    have HC := Lib.hid hcell
                    have HEL := Lib.hid hel
                    have hsz := BA.out.size
                    clear RC BW bA hcell hel M0 R0
                    go_wp2_with (at_builtin; refine append_rec rfl (.tmp 84) (.tmp 86) rfl w.heap.size _ rs rfl RA.out _ _ rfl _ r HC.out HEL.out ?_ ?_ ?_)
                    · omega
                    · exact hsz
                    intro v9 wB r9 g9
                    have BB := Lib.hid (BA.out.grown g9 BA.out.size (fun k e => (RA.out.block e).1))
                    have R9 := Lib.hid r9
                    clear r9 g9 RA HC HEL hsz BA
                    go_wp2_with fail
                    refine (HND.out _).mono ?_
                    rintro e w' ⟨rfl, rfl⟩
                    go_wp2_with fail
                    go_roundg (gk - 1)
                    case measure => omega
                    case rel =>
                      have e1 := HAT.out
                      have e2 := HK.out
                      have e3 : r.length = q := hrc
                      refine ⟨i + 1, rs ++ [r], at' + K * 64, by go_num, by go_num, ?_, R9.out, BB.out, HNX.out, by omega, by omega, by omega⟩
                      rw [used_snoc, e3, e2]; omega

                  · have hbeq := HBEQ.out
                    rw [decide_eq_false hx] at hbeq
                    refine wpAnyH_all (rs := [12]) (by kernel_rfl) (by simp) ?_
                    intro i0 hi0
                    obtain rfl := List.mem_singleton.1 hi0
                    clear hi0
                    refine Reg.wpOp_list rfl ?_
                    go_wp2_with fail
                    clear hbeq
                    change _ ∧ _
                    refine ⟨hW, ?_⟩
                    have hno := STOP.out (HRDNO.out hx)
                    have HNO := Lib.hid hno
                    clear hno
                    refine wpAnyH_done (by kernel_rfl) ?_ _
                    go_wp2_with fail
                    go_ret3
                    exact ⟨HB9.out.trans (hW.mono HB9.out.size), n, HMK.out, .inl ⟨HNO.out, rfl⟩⟩


                · refine Reg.wpOp_list rfl ?_
                  have hcv := HWh.out.conv (cap - at')
                  go_wp2_with fail
                  clear hcv
                  change _ ∧ _
                  refine ⟨hW, ?_⟩
                  refine wpAnyH_all (rs := [2]) (by kernel_rfl) (by simp) ?_
                  intro i0 hi0
                  obtain rfl := List.mem_singleton.1 hi0
                  clear hi0
                  refine Reg.wpOp_list rfl ?_
                  have hcv := HAr.out.conv cA
                  go_wp2_with fail
                  clear hcv
                  change _ ∧ _
                  refine ⟨hW, ?_⟩
                  clear HREC HAr HWh
                  by_cases hx : record r = wh
                  · have hbeq := HBEQ.out
                    rw [decide_eq_true hx] at hbeq
                    refine wpAnyH_all (rs := [12]) (by kernel_rfl) (by simp) ?_
                    intro i0 hi0
                    obtain rfl := List.mem_singleton.1 hi0
                    clear hi0
                    refine Reg.wpOp_list rfl ?_
                    go_wp2_with fail
                    clear hbeq
                    change _ ∧ _
                    refine ⟨hW, ?_⟩
                    have hnext := rdN_next HN.out (HRDYES.out hx)
                    have HNX := Lib.hid hnext
                    have RC := HRC9.out.below hW
                    have M0 := M9.out.below hW
                    have BW := HB9.out.trans (hW.mono HB9.out.size)
                    have R0 := HRW9.out.below hW
                    clear hnext hW hx HRW9 HRC9 HB9 M9
                    refine wpAnyH_done (by kernel_rfl) ?_ _
                    have hrl := rdN_len HN.out
                    have bA : Below wA.heap.size wA (wA.alloc (.cells #[.slice a9 q c9] 25)) := (Below.refl _ _).alloc (Nat.le_refl _) _
                    have hcell : (wA.alloc (.cells #[.slice a9 q c9] 25)).cell? ((⟨wA.heap.size, 0, none⟩ : Addr).add 0) = some (.slice a9 q c9) := by
                      rw [Addr.add_mid]; exact (Blk.Is.new wA 25 #[.slice a9 q c9]).at rfl
                    have hel : El (wA.alloc (.cells #[.slice a9 q c9] 25)) w.heap.size (.slice a9 q c9) r := (El.ofMine M0).below bA
                    have RA := Lib.hid (RC.below bA)
                    have BA := Lib.hid (BW.trans (bA.mono BW.size))
                    have HC := Lib.hid hcell
                    have HEL := Lib.hid hel
                    have hsz := BA.out.size
                    clear RC BW bA hcell hel M0 R0
                    go_wp2_with (at_builtin; refine append_rec rfl (.tmp 84) (.tmp 86) rfl w.heap.size _ rs rfl RA.out _ _ rfl _ r HC.out HEL.out ?_ ?_ ?_)
                    · omega
                    · exact hsz
                    intro v9 wB r9 g9
                    have BB := Lib.hid (BA.out.grown g9 BA.out.size (fun k e => (RA.out.block e).1))
                    have R9 := Lib.hid r9
                    clear r9 g9 RA HC HEL hsz BA
                    go_wp2_with fail
                    refine (HND.out _).mono ?_
                    rintro e w' ⟨rfl, rfl⟩
                    go_wp2_with fail
                    go_roundg (gk - 1)
                    case measure => omega
                    case rel =>
                      have e1 := HAT.out
                      have e2 := HK.out
                      have e3 : r.length = q := hrc
                      refine ⟨i + 1, rs ++ [r], at' + K * 64, by go_num, by go_num, ?_, R9.out, BB.out, HNX.out, by omega, by omega, by omega⟩
                      rw [used_snoc, e3, e2]; omega

                  · have hbeq := HBEQ.out
                    rw [decide_eq_false hx] at hbeq
                    refine wpAnyH_all (rs := [12]) (by kernel_rfl) (by simp) ?_
                    intro i0 hi0
                    obtain rfl := List.mem_singleton.1 hi0
                    clear hi0
                    refine Reg.wpOp_list rfl ?_
                    go_wp2_with fail
                    clear hbeq
                    change _ ∧ _
                    refine ⟨hW, ?_⟩
                    have hno := STOP.out (HRDNO.out hx)
                    have HNO := Lib.hid hno
                    clear hno
                    refine wpAnyH_done (by kernel_rfl) ?_ _
                    go_wp2_with fail
                    go_ret3
                    exact ⟨HB9.out.trans (hW.mono HB9.out.size), n, HMK.out, .inl ⟨HNO.out, rfl⟩⟩





    · have hin' : ¬ (i : Int) < (n : Int) := by omega
      have hne : i = n := by omega
      subst hne
      obtain ⟨U, hU⟩ : ∃ U, 1 + used rs = U := ⟨_, rfl⟩
      have hq : (at' : Int) / 64 = (U : Int) := by omega
      have HU := Lib.hid hU
      clear hat hU
      go_wp2_with fail
      go_ret3
      refine ⟨HB.out, i, HMK.out, .inr ⟨rs, _, HN.out, HRC.out, ?_⟩⟩
      rw [HU.out]
      rfl
end Wal
end Go.Proofs.Ytjeidfknnophnaa

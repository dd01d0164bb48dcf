/-
WalOpens' walk: any bytes as an area.
-/
import Derived.Test.YtjeidfknnophnaaLaidK
import Derived.Test.YtjeidfknnophnaaLowRecs
import Derived.Test.YtjeidfknnophnaaWalCrashKit
import Derived.Test.YtjeidfknnophnaaRowsRef
namespace Go.Proofs.Ytjeidfknnophnaa
open Go.RowKit Go.ChangeShapes
set_option linter.unusedVariables false
set_option linter.unusedSimpArgs false
namespace Wal
open Disk (Dk St Sec Secs fresh hasB)
theorem IsRow_at {w : World} {a : Option Addr} {len cap : Nat} {zs : List Int} (h : IsRow .i64 w a len cap zs) (i : Nat) (hi : i < len) : ∃ b off, a = some ⟨b, off, none⟩ ∧ b < w.heap.size ∧ w.cell? ⟨b, off + i, none⟩ = some (.int .i64 (zs.getD i 0)) := by
  rcases h with ⟨_, rfl, _⟩ | ⟨x, rfl, hl, hm, hz, hc, hw⟩
  · omega
  · obtain ⟨b, off, rfl, hc'⟩ := ints_at hc (by omega)
    have := hc' i (by omega)
    exact ⟨b, off, rfl, block_lt_of_cell this, this⟩
theorem IsRow_short {k : IntKind} {w : World} {a : Option Addr} {len cap : Nat} {zs : List Int} (h : IsRow k w a len cap zs) : len ≤ 9223372036854775807 := by
  rcases h with ⟨_, rfl, _⟩ | ⟨x, rfl, hl, hm, _⟩
  · omega
  · unfold maxLen at hm; omega
/-- A row of bytes that lies in a block of its own. -/
theorem mine_is {w : World} {base g n : Nat} {zs : List Int} (h : Blk.Is w g 5 (bcells zs).toArray) (hg : base ≤ g) (hn : zs.length = n) (hm : n ≤ maxLen) (hb : Byte zs) : Mine w base (.slice (some ⟨g, 0, none⟩) n n) zs := by
  subst hn
  exact ⟨⟨by simp, .inr ⟨g, _, _, rfl, hg, h, Nat.le_refl _, hm, by simp, by rw [Nat.mul_one]; exact List.take_of_length_le (by simp)⟩⟩, hb⟩
/-- A byte of one's own row is set. -/
theorem mine_set {w : World} {base g n cap : Nat} {zs : List Int} (h : Mine w base (.slice (some ⟨g, 0, none⟩) n cap) zs) (i : Nat) (y : Int) (hy : 0 ≤ y ∧ y < 256) : Mine (w.setCell ⟨g, i, none⟩ (.int .u8 y)) base (.slice (some ⟨g, 0, none⟩) n cap) (zs.set i y) := by
  refine ⟨⟨by simp, ?_⟩, fun z hz => ?_⟩
  · rcases h.1.2 with ⟨e, _⟩ | ⟨g', cap', cur, e, hg, hh, hn, hm, hs, ht⟩
    · simp at e
    · simp only [Value.slice.injEq, Option.some.injEq, Addr.mk.injEq] at e
      obtain ⟨⟨rfl, _⟩, e2, rfl⟩ := e
      refine .inr ⟨g, cap, cur.setIfInBounds i (.int .u8 y), by rw [List.length_set, e2], hg, Blk.Is.set hh i _, by rw [List.length_set]; exact hn, hm, by rw [Array.size_setIfInBounds]; exact hs, ?_⟩
      rw [Array.toList_setIfInBounds, List.take_set, List.length_set, ht]
      simp [bcells, List.map_set]
  · rcases List.mem_or_eq_of_mem_set hz with h1 | rfl
    · exact h.2 z h1
    · exact hy
/-- The area under way. -/
def Area (w u : World) (v : Value) (lo hi : Nat) : Prop := ∃ zs : List Int, Mine u w.heap.size v zs ∧ lo ≤ zs.length ∧ zs.length ≤ hi ∧ Below w.heap.size w u
/-- The bytes of an area out of all. -/
theorem area_bytes {N : Nat} {now : List (List Int)} (hs : Secs N now) (A B : Nat) (h : A ≤ B) (hb : B ≤ N) : ((bytes now 0 N).drop (A * 64)).take (B * 64 - A * 64) = bytes now A B := by
  rw [show A * 64 = 64 * A by omega, bytes_drop hs, show B * 64 - 64 * A = 64 * (B - A) by omega, bytes_take hs _ _ _ (by omega), show 0 + A + (B - A) = B by omega, Nat.zero_add]
theorem area_first {N : Nat} {now : List (List Int)} (hs : Secs N now) (A B : Nat) (h : A < B) (hb : B ≤ N) : (bytes now A B).take 64 = now.getD A [] ∧ (bytes now A B).drop 64 = bytes now (A + 1) B := by
  have hl := (hs.at (show A < N by omega)).len
  rw [bytes_first hs A B h hb]
  exact ⟨List.take_left' hl, List.drop_left' hl⟩
theorem record_small {r : List Int} (h : r.length ≤ 300) : (record r).length ≤ 371 := by
  have := pad_lt (r.length + 8)
  rw [record_len]; omega
set_option maxRecDepth 100000 in
set_option maxHeartbeats 8000000 in
theorem walOpens_walk (a0 : Option Addr) (n0 c0 : Nat) (z0 : List Int) (v1 : Value) (ls : List (List Int)) (a2 : Option Addr) (n2 c2 : Nat) (z2 : List Int) (a3 : Option Addr) (n3 c3 : Nat) (z3 : List Int) (x fr to : Int) (w : World)
    (h0 : IsRow .u8 w a0 n0 c0 z0) (h1 : Arg w.heap.size w v1 ls) (h2 : IsRow .u8 w a2 n2 c2 z2) (h3 : IsRow .i64 w a3 n3 c3 z3) (hx : (Lit.int .u8 x).wf = true) (hfr : (Lit.int .i64 fr).wf = true) (hto : (Lit.int .i64 to).wf = true) :
    Calls Try.prog 4 #[.slice a0 n0 c0, v1, .slice a2 n2 c2, .slice a3 n3 c3, .int .u8 x, .int .i64 fr, .int .i64 to] w fun e w' => e = .returned (.bool true) ∧ Below w.heap.size w w' := by
  have hx1 := bounds_u8 hx
  have hfr1 := bounds_i64 hfr
  have hto1 := bounds_i64 hto
  have hsh3 := IsRow_short h3
  have H3 := Lib.hid h3
  have R0 := Lib.hid h0.row
  have N0 := Lib.hid h0.nil
  have hsh0 := h0.row.short
  clear hx hfr hto h3
  obtain ⟨z, hmk, hz⟩ : ∃ z, (∀ w : World, (Instr.makeSlice 25 (.int .i64 64) (.int .i64 64)).run Try.prog w = .ok (.slice (some ⟨w.heap.size, 0, none⟩) 64 64) (w.alloc (.cells z 5))) ∧ z = (bcells Disk.zero).toArray := ⟨_, Disk.run_make_bytes, rfl⟩
  have HZ := Lib.hid hz
  clear hz
  have hmk := hmk w
  have bA : Below w.heap.size w (w.alloc (.cells z 5)) := (Below.refl _ _).alloc (Nat.le_refl _) (.cells z 5)
  have hK := Blk.Is.new w 5 z
  have hsrc := h2.row.below bA
  have hrl := hsrc.count
  obtain ⟨z1, hz1⟩ : ∃ z1, z2.take n2 = z1 := ⟨_, rfl⟩
  rw [hz1] at hsrc hrl
  have hrun := fun ty => Blk.run_copy_sz (P := Try.prog) (w.alloc (.cells z 5)) 25 25 ty 5 1 w.heap.size 0 64 64 a2 n2 c2 z 5 (bcells (z1.take 64)) Try.underlying25 sizeU8 hK
    (by rw [bcells_length, List.length_take, hrl, Nat.mul_one]; exact Nat.min_comm _ _) (hsrc.source 64)
    (by rw [bcells_length, List.length_take, HZ.out]; simp only [List.size_toArray, bcells_length, Disk.zero_sec.len]; omega) (bcells_one _)
  obtain ⟨v, hv⟩ : ∃ v, v = (w.alloc (.cells z 5)).setRow w.heap.size (Blk.over z.toList 0 (bcells (z1.take 64))).toArray := ⟨_, rfl⟩
  simp only [← hv] at hrun
  have hbv : Below w.heap.size w v := by rw [hv]; exact Blk.belowRow ((Below.refl _ _).alloc (Nat.le_refl _) _) (Nat.le_refl _) _
  have hkv : Blk.Is v w.heap.size 5 (bcells (Disk.pick z1)).toArray := by
    rw [hv, Disk.over_pick HZ.out]; exact hK.row _
  have hpick := Disk.pick_sec hsrc.byt
  obtain ⟨pk, hpk⟩ : ∃ pk, Disk.pick z1 = pk := ⟨_, rfl⟩
  rw [hpk] at hkv hpick
  have hmine := mine_is hkv (Nat.le_refl _) hpick.len (by unfold maxLen; omega) hpick.byt
  have harea : Area w v (.slice (some ⟨w.heap.size, 0, none⟩) 64 64) 64 64 := ⟨pk, hmine, by rw [hpick.len]; omega, by rw [hpick.len]; omega, hbv⟩
  have HAREA := Lib.hid harea
  have HSM := Lib.hid (Low.small_any w.heap.size v1 ls v (h1.below hbv) hbv.size)
  have HBV := Lib.hid hbv
  clear hv hkv hpick hmine harea hsrc hrl hK hz1 hpk bA h0 h1 h2
  go_enter Try.func4, Try.ntmps4
  go_wp2_with (refine Blk.wpList_copy rfl (.tmp 32) (.tmp 33) 25 25 rfl rfl rfl (hrun _) ?_)
  clear hrun hmk
  obtain ⟨bb, hbb⟩ : ∃ bb, w.heap.size = bb := ⟨_, rfl⟩
  rw [hbb] at HAREA
  try rw [hbb]
  clear hbb
  refine HSM.out.mono ?_
  rintro e w3 ⟨vr, rfl, hrec, b3⟩
  obtain ⟨hl20, hr300⟩ := small_ok ls
  obtain ⟨rows, hrows⟩ : ∃ rows, smallL ls = rows := ⟨_, rfl⟩
  rw [hrows] at hrec hl20 hr300
  obtain ⟨ra, rc, rfl, hrc⟩ := hrec.shape
  have HREC := Lib.hid hrec
  obtain ⟨nr, hnr⟩ : ∃ nr, rows.length = nr := ⟨_, rfl⟩
  rw [hnr] at HREC hl20 hrc
  rw [hnr]
  have HNR := Lib.hid hnr
  clear hnr
  have HA3 : Hid (Area w w3 (.slice (some ⟨bb, 0, none⟩) 64 64) 64 (64 + 371 * 0)) := Lib.hid (by
    obtain ⟨zs, q1, q2, q3, q4⟩ := HAREA.out
    exact ⟨zs, q1.below b3, q2, q3, q4.trans (b3.mono q4.size)⟩)
  have HR3 := Lib.hid hr300
  clear hr300 hrec hrows HSM HAREA b3 hrc HBV
  go_wp2_with fail
  go_loopw [15, 38] (fun va i u => ∃ k : Nat, k ≤ nr ∧ i = .int .i64 k ∧ Area w u va 64 (64 + 371 * k) ∧ Low.Recs u w.heap.size (.slice ra nr rc) rows) (fun _ i _ => nr - (intOf i).toNat)
  case atStart => exact ⟨0, by omega, rfl, HA3.out, HREC.out⟩
  case round =>
    clear HA3
    obtain ⟨k, hk, rfl, ⟨ys, hm, hy1, hy2, hb⟩, hrec⟩ := hrel
    obtain ⟨ny, ay, cy, rfl, hcy, hly, _⟩ := hm.rows
    have HM := Lib.hid hm
    have HB := Lib.hid hb
    have hbs := hb.size
    have HRC := Lib.hid hrec
    clear hm hb
    by_cases hlt : k < nr
    · have hlt' : (k : Int) < (nr : Int) := by omega
      obtain ⟨g, cap, ai, ci, hv, hcell, hrow, hle, hnil, _, _⟩ := hrec.at k (by rw [HNR.out]; exact hlt)
      simp only [Value.slice.injEq] at hv
      obtain ⟨rfl, hnn, rfl⟩ := hv
      clear hnn
      have hmem : rows.getD k [] ∈ rows := by
        rw [List.getD_eq_getElem?_getD, List.getElem?_eq_getElem (by rw [HNR.out]; exact hlt)]; exact List.getElem_mem _
      have h300 := HR3.out _ hmem
      obtain ⟨r, hr⟩ : ∃ r, rows.getD k [] = r := ⟨_, rfl⟩
      rw [hr] at hcell hrow hle h300
      have hrs := record_small h300
      obtain ⟨m, hm⟩ : ∃ m, r.length = m := ⟨_, rfl⟩
      rw [hm] at hcell hrow hle h300
      have hk0 : (0 : Int) ≤ k := by omega
      have HRW := Lib.hid (refRecord_any ai m ci r wr hrow hnil (by omega))
      clear hrec hmem hr hm hrow hnil
      go_wp2_with fail
      refine HRW.out.mono ?_
      rintro e w5 ⟨vv, rfl, hm5, b5⟩
      have hn5 := hm5.rows
      obtain ⟨n5, a5, c5, rfl, _, hl5, hr5⟩ := hn5
      have HN5 := Lib.hid (mine_nilcap hm5)
      have HM5 := Lib.hid (HM.out.below b5)
      have HB5 := Lib.hid (HB.out.trans (b5.mono hbs))
      have HRC5 := Lib.hid (HRC.out.below b5)
      have hs5 := HB5.out.size
      have HR5 := Lib.hid hr5
      clear hm5 hr5 b5 HRW HM HB HRC hbs
      go_wp2_with (at_builtin; refine append_bytes rfl (.tmp 42) (.tmp 44) rfl w.heap.size _ ys rfl HM5.out a5 n5 c5 rfl _ HR5.out HN5.out ?_ ?_ ?_)
      · omega
      · exact hs5
      intro v6 w6 m6 g6
      have b6 := below_grow HB5.out HM5.out (Nat.le_refl _) hs5 g6
      have rec6 := HRC5.out.chg ((Blk.Chg.refl (fun b => (Value.slice ay ny cy).ownBlock = some b) _).grown g6 (fun k e _ => e)) (fun k e => ⟨(HM5.out.block e).1, trivial, fun cur hc => by
        obtain ⟨_, _, cur', h'⟩ := HM5.out.block e
        exact (Blk.Is.ne h' hc (by decide)) rfl⟩)
      have hl6 : 64 ≤ (ys ++ record r).length ∧ (ys ++ record r).length ≤ 64 + 371 * (k + 1) := by rw [List.length_append]; omega
      have M6 := Lib.hid m6
      have B6 := Lib.hid b6
      have RC6 := Lib.hid rec6
      clear m6 g6 b6 rec6 HM5 HB5 HRC5 HR5 HN5
      go_wp2
      refine ⟨⟨k + 1, by omega, by go_num, ⟨_, M6.out, hl6.1, hl6.2, B6.out⟩, RC6.out⟩, ?_⟩
      simp [intOf]; omega
    · obtain rfl : k = nr := by omega
      have hlt' : ¬ (k : Int) < (k : Int) := by omega
      clear hrec
      have hA4 : Area w wr (.slice ay ny cy) 64 7484 := ⟨ys, HM.out, hy1, by omega, HB.out⟩
      have HA4 := Lib.hid hA4
      clear hA4 HM HB hbs HRC HREC HR3 HNR hly hcy hy1 hy2
      go_wp2_with fail
      go_loopw [49] (fun i u => ∃ j : Nat, j ≤ n3 ∧ i = .int .i64 j ∧ Area w u (.slice ay ny cy) 64 7484) (fun i _ => n3 - (intOf i).toNat)
      case atStart => exact ⟨0, by omega, rfl, HA4.out⟩
      case round =>
        clear HA4
        obtain ⟨j, hj, rfl, ys, hm, hy1, hy2, hb⟩ := hrel
        have hry := mineOf hm
        have hly : ys.length = ny := hry.count
        have HM := Lib.hid hm
        have HB := Lib.hid hb
        have hbs := hb.size
        by_cases hlt : j < n3
        · have hlt2 : (j : Int) < (n3 : Int) := by omega
          have hj0 : (0 : Int) ≤ j := by omega
          obtain ⟨fb, fo, rfl, hfb, hfc⟩ := IsRow_at H3.out j hlt
          obtain ⟨pz, hpz⟩ : ∃ pz, z3.getD j 0 = pz := ⟨_, rfl⟩
          have hcell : wr.cell? ⟨fb, fo + j, none⟩ = some (.int .i64 pz) := by rw [hb.cell (by exact hfb), hfc, hpz]
          by_cases hj3 : j < 3
          · have hj3' : (j : Int) < 3 := by omega
            obtain ⟨g, o, hg, hgl, hgc⟩ := hry.cells (by omega)
            obtain rfl : o = 0 := by
              rcases hm.1.2 with ⟨h1, _⟩ | ⟨_, _, _, h1, _⟩ <;> simp only [Value.slice.injEq] at h1
              · rw [hg] at h1; cases h1.1
              · rw [hg] at h1; cases h1.1; rfl
            subst hg
            obtain ⟨cur, hcur⟩ := mine_bytes hm
            obtain ⟨F, hF, hFn⟩ := modN pz ny (by omega) (by omega)
            have hgF := hgc F hFn
            rw [Nat.zero_add] at hgF
            have hfree := hcur.free F
            have hby := hry.byt.getD F
            obtain ⟨b0, hb0⟩ : ∃ b0, ys.getD F 0 = b0 := ⟨_, rfl⟩
            rw [hb0] at hgF hby
            have HCUR := Lib.hid hcur
            clear hm hb hry hgc hfc hpz hb0 hgl hcur
            go_wp2_with fail
            have hc6 : Blk.Chg (fun k => k = g) wr (wr.setCell ⟨g, F, none⟩ (.int .u8 (bits .xor .u8 b0 x))) := Blk.Chg.setAt (Blk.Chg.refl _ _) rfl
            have hg6 := (HM.out.block (b := g) rfl).1
            have hxb : 0 ≤ bits .xor .u8 b0 x ∧ bits .xor .u8 b0 x < 256 := by simp only [bits, IntKind.wrap_u8]; omega
            refine ⟨⟨j + 1, by omega, by go_num, _, mine_set HM.out F _ hxb, by rw [List.length_set]; exact hy1, by rw [List.length_set]; exact hy2, HB.out.trans (hc6.below (by rintro k rfl; exact hg6) hbs)⟩, ?_⟩
            simp [intOf]; omega
          · have hj3' : ¬ (j : Int) < 3 := by omega
            clear hm hb hry hfc hpz
            go_wp2_with fail
            refine ⟨⟨j + 1, by omega, by go_num, ys, HM.out, hy1, hy2, HB.out⟩, ?_⟩
            simp [intOf]; omega
        · obtain rfl : j = n3 := by omega
          have hlt2 : ¬ (j : Int) < (j : Int) := by omega
          have hA5 : Area w wr (.slice ay ny cy) 64 7484 := ⟨ys, hm, hy1, hy2, hb⟩
          have HA5 := Lib.hid hA5
          clear hA5 hm hb hry HM HB hbs
          by_cases hn0 : n0 ≤ 2000
          focus
            have hn0' : (n0 : Int) ≤ 2000 := by omega
            obtain ⟨ys5, q1, q2, q3, q4⟩ := HA5.out
            have HB5 := Lib.hid (R0.out.below q4)
            have Q1 := Lib.hid q1
            have Q4 := Lib.hid q4
            have qs := q4.size
            clear q1 q4 HA5
            go_wp2_with (at_builtin; refine append_bytes rfl (.tmp 73) (.tmp 74) rfl w.heap.size _ ys5 rfl Q1.out a0 n0 c0 rfl _ HB5.out N0.out ?_ ?_ ?_)
            · omega
            try exact qs
            intro v6 w6 m6 g6
            have b6 := below_grow Q4.out Q1.out (Nat.le_refl _) qs g6
            have hl0 := HB5.out.count
            have hA6 : Area w w6 v6 64 9484 := ⟨_, m6, by rw [List.length_append]; omega, by rw [List.length_append, hl0]; omega, b6⟩
            obtain ⟨ys6, m7, l7, l8, b7⟩ := hA6
            obtain ⟨n6, a6, c6, rfl, hc6, hly6, hr6⟩ := m7.rows
            clear m6 g6 b6 Q1 Q4 qs HB5 hl0
          rotate_left
          focus
            have hn0' : ¬ (n0 : Int) ≤ 2000 := by omega
            obtain ⟨w6, hw6⟩ : ∃ w6, wr = w6 := ⟨_, rfl⟩
            obtain ⟨ys6, m7, l7, l8, b7⟩ := HA5.out
            rw [hw6] at m7 b7 ⊢
            obtain ⟨n6, a6, c6, e6, hc6, hly6, hr6⟩ := m7.rows
            simp only [Value.slice.injEq] at e6
            obtain ⟨rfl, rfl, rfl⟩ := e6
            clear HA5 hw6
          all_goals
            obtain ⟨g6, o6, rfl, _, _⟩ := hr6.cells (by omega)
            have hLD := laid_any g6 o6 _ _ ys6 w6 hr6 hc6 (by omega) (by omega)
            have HLD := Lib.hid hLD
            have B7 := Lib.hid b7
            have b7s := b7.size
            clear hLD m7 hr6 b7 hc6 R0 N0 H3
            go_wp2_with fail
            refine HLD.out.mono ?_
            rintro e w7 ⟨d, s, rfl, hdn, hdf, hd, hoff, hb⟩
            have HD := Lib.hid hd
            have HOFF := Lib.hid hoff
            have HB := Lib.hid (B7.out.trans (hb.mono b7s))
            obtain ⟨N, hN⟩ : ∃ N, d.n = N := ⟨_, rfl⟩
            have hN1 : 1 ≤ N ∧ N ≤ 200 := by omega
            have HDN := Lib.hid hN
            have hlen := Disk.len_any d s w7 hd
            rw [hN] at hlen
            unfold Dk.ptr at hlen
            have HLEN := Lib.hid hlen
            clear hb hd hoff hlen hN hdn B7 b7s HLD
            unfold Dk.ptr
            have hcase : fr < 0 ∨ (0 ≤ fr ∧ to ≤ fr) ∨ (0 ≤ fr ∧ fr < to ∧ (N : Int) < to) ∨ (0 ≤ fr ∧ fr < to ∧ to ≤ N) := by omega
            rcases hcase with hb1 | ⟨hb1, hb2⟩ | ⟨hb1, hb2, hb3⟩ | ⟨hg1, hg2, hg3⟩
            · have hno : isArea d.n fr to = false := by rw [HDN.out]; simp [isArea]; omega
              have hop := open_no d s fr to w7 HD.out hno
              have hfm := format_no d s fr to w7 HD.out hno
              unfold Dk.ptr at hop hfm
              have HOP := Lib.hid hop
              have HFM := Lib.hid hfm
              clear hop hfm hno
              go_wp2_with fail
              refine HOP.out.mono ?_
              rintro e w' ⟨rfl, rfl⟩
              go_wp2_with fail
              refine HFM.out.mono ?_
              rintro e w' ⟨rfl, rfl⟩
              clear HOP HFM
              go_wp2_with fail
              refine HLEN.out.mono ?_
              rintro e w' ⟨rfl, rfl⟩
              have hsecs := HD.out.now.secs
              rw [HDN.out] at hsecs
              have hall := all_any d s w7 HD.out HOFF.out
              unfold Dk.ptr at hall
              rw [HDN.out] at hall
              have HALL := Lib.hid hall
              have HSE := Lib.hid hsecs
              clear hall hsecs
              go_wp2_with fail
              refine HALL.out.mono ?_
              rintro e w8 ⟨v8, rfl, m8, b8⟩
              obtain ⟨n8, a8, c8, rfl, hc8, hl8, hr8⟩ := m8.rows
              rw [bytes_len HSE.out 0 N (Nat.le_refl _)] at hl8
              obtain ⟨g8, o8, rfl, _, _⟩ := hr8.cells (by omega)
              obtain rfl : o8 = 0 := by
                rcases m8.1.2 with ⟨h1, _⟩ | ⟨_, _, _, h1, _⟩ <;> simp only [Value.slice.injEq] at h1
                · cases h1.1
                · cases h1.1; rfl
              obtain rfl : 64 * N = n8 := by omega
              have hp := Row.part hr8 (0 * 64) (N * 64) (by omega) (by omega)
              rw [area_bytes HSE.out 0 N (by omega) (by omega), show N * 64 - 0 * 64 = 64 * (N - 0 - 1 + 1) by omega] at hp
              have hRC : Calls Try.prog 22 #[.slice (some ⟨g8, 0, none⟩) (N * 64) (c8)] w8 (RecsTold w8 (bytes s.now 0 N)) := by
                have h := refRecords_any g8 (0 + 0 * 64) (N - 0 - 1) (c8 - 0 * 64) (bytes s.now 0 N) w8 hp (by omega) (by omega)
                rwa [show 64 * (N - 0 - 1 + 1) = N * 64 by omega, show 0 + 0 * 64 = 0 by omega, show c8 - 0 * 64 = c8 by omega] at h
              have hlen8 := Disk.len_any d s w8 (HD.out.below b8)
              unfold Dk.ptr at hlen8
              rw [HDN.out] at hlen8
              have HL8 := Lib.hid hlen8
              have HRC := Lib.hid hRC
              have B8 := Lib.hid b8
              have hbig : ¬ (64 * (N : Int) < (N : Int) * 64) := by omega
              clear hp hRC hlen8 m8 hr8 b8 HALL HLEN hl8
              go_wp2_with fail
              refine HL8.out.mono ?_
              rintro e w' ⟨rfl, rfl⟩
              go_wp2_with fail
              refine HL8.out.mono ?_
              rintro e w' ⟨rfl, rfl⟩
              go_wp2_with fail
              refine HRC.out.mono ?_
              rintro e w9 ⟨b9, k9, hk9, hcs⟩
              rw [(area_first HSE.out 0 N (by omega) (by omega)).1] at hk9
              rw [(area_first HSE.out 0 N (by omega) (by omega)).2] at hcs
              have hd9 := (HD.out.below B8.out).below b9
              have hop := open_yes d s 0 N w9 hd9 (by omega) (by rw [HDN.out]; omega) HOFF.out
              unfold Dk.ptr at hop
              have HOY := Lib.hid hop
              have HK9 := Lib.hid hk9
              have b9' := HB.out.trans ((B8.out.trans (b9.mono B8.out.size)).mono HB.out.size)
              have B9 := Lib.hid b9'
              clear hop hk9 hd9 b9 b9' HL8 HRC B8 HD HSE HB
              rcases hcs with ⟨hnone, rfl⟩ | ⟨rs, v9, hsome, hrecs, rfl⟩
              · have HNO := Lib.hid hnone
                clear hnone
                go_wp2_with fail
                refine HOY.out.mono ?_
                rintro e w10 ⟨b10, k10, hk10, hco⟩
                obtain rfl := Marks.inj HK9.out hk10
                rcases hco with ⟨_, rfl⟩ | ⟨rs', p, v', h', _⟩
                · have hsame := sameRows_any (.slice none 0 0) (.slice none 0 0) [] [] w10 (recs_nil _ 0).rows (recs_nil _ 0).rows
                  rw [show decide (([] : List (List Int)) = []) = true by simp] at hsame
                  have HS := Lib.hid hsame
                  have B10 := Lib.hid (B9.out.trans (b10.mono B9.out.size))
                  clear hsame b10 hk10 HOY HK9 B9
                  go_wp2_with fail
                  refine HS.out.mono ?_
                  rintro e w11 ⟨rfl, b11⟩
                  have B11 := Lib.hid (B10.out.trans (b11.mono B10.out.size))
                  clear b11 B10 HS
                  go_wp2_with fail
                  refine (awake_any _).mono ?_
                  rintro e w12 ⟨rfl, b12⟩
                  go_wp2_with fail
                  go_ret
                  exact ⟨rfl, B11.out.trans (b12.mono B11.out.size)⟩
                · rw [HNO.out] at h'; cases h'
              · have HSO := Lib.hid hsome
                have HRE := Lib.hid hrecs
                obtain ⟨a9, c9, rfl, _⟩ := hrecs.shape
                obtain ⟨U, hU⟩ : ∃ U, 1 + used rs = U := ⟨_, rfl⟩
                rw [hU]
                have HU := Lib.hid hU
                clear hsome hrecs hU
                go_wp2_with fail
                refine HOY.out.mono ?_
                rintro e w10 ⟨b10, k10, hk10, hco⟩
                obtain rfl := Marks.inj HK9.out hk10
                rcases hco with ⟨h', rfl⟩ | ⟨rs', p, v', h', hpw, hla, hre', rfl⟩
                · rw [HSO.out] at h'; cases h'
                · rw [HSO.out] at h'
                  obtain rfl : rs = rs' := Option.some.inj h'
                  have hr10 := hre' 0 (Nat.zero_le _)
                  obtain ⟨a10, c10, rfl, _⟩ := hr10.shape
                  have hsame := sameRows_any _ _ rs rs w10 hr10.rows (HRE.out.below b10).rows
                  rw [show decide (rs = rs) = true by simp] at hsame
                  have hle := hla.ok.o1
                  change 0 + 1 + used rs ≤ N at hle
                  have hUe := HU.out
                  obtain ⟨nr2, hnr2⟩ : ∃ n, rs.length = n := ⟨_, rfl⟩
                  rw [hnr2] at hsame
                  rw [hnr2]
                  have HNR2 := Lib.hid hnr2
                  have HS := Lib.hid hsame
                  have HLA := Lib.hid hla
                  have B10 := Lib.hid (B9.out.trans (b10.mono B9.out.size))
                  clear hsame b10 hk10 HOY HK9 B9 hla hre' hr10 h' hnr2 HRE
                  go_wp2_with fail
                  refine HS.out.mono ?_
                  rintro e w11 ⟨rfl, b11⟩
                  have L11 := HLA.out.below b11
                  have hln := logLen_any p d.p _ w11 L11
                  have hfr := free_any p d.p _ w11 L11
                  rw [show (opened 0 N (s.now.getD 0 []) rs).count = nr2 from HNR2.out] at hln
                  rw [show (opened 0 N (s.now.getD 0 []) rs).to - (opened 0 N (s.now.getD 0 []) rs).next = N - (0 + 1 + used rs) from rfl] at hfr
                  obtain ⟨fv, hfv⟩ : ∃ fv : Int, ((N - (0 + 1 + used rs) : Nat) : Int) = fv := ⟨_, rfl⟩
                  rw [hfv] at hfr
                  have hfe : fv = (N : Int) - U := by omega
                  have HLN := Lib.hid hln
                  have HFR := Lib.hid hfr
                  have B11 := Lib.hid (B10.out.trans (b11.mono B10.out.size))
                  have hU1 : U ≤ 200 := by omega
                  clear hln hfr hfv b11 L11 HLA HS B10
                  go_wp2_with fail
                  refine HLN.out.mono ?_
                  rintro e w' ⟨rfl, rfl⟩
                  go_wp2_with fail
                  refine HFR.out.mono ?_
                  rintro e w12 hT
                  obtain ⟨rfl, b12⟩ := hT.below
                  have B12 := Lib.hid (B11.out.trans (b12.mono B11.out.size))
                  clear hT b12 B11 HFR
                  go_wp2_with fail
                  refine (awake_any _).mono ?_
                  rintro e w13 ⟨rfl, b13⟩
                  go_wp2_with fail
                  go_ret
                  exact ⟨rfl, B12.out.trans (b13.mono B12.out.size)⟩

            · have hno : isArea d.n fr to = false := by rw [HDN.out]; simp [isArea]; omega
              have hop := open_no d s fr to w7 HD.out hno
              have hfm := format_no d s fr to w7 HD.out hno
              unfold Dk.ptr at hop hfm
              have HOP := Lib.hid hop
              have HFM := Lib.hid hfm
              clear hop hfm hno
              have hb4 : ¬ fr < 0 := by omega
              go_wp2_with fail
              refine HOP.out.mono ?_
              rintro e w' ⟨rfl, rfl⟩
              go_wp2_with fail
              refine HFM.out.mono ?_
              rintro e w' ⟨rfl, rfl⟩
              clear HOP HFM
              go_wp2_with fail
              refine HLEN.out.mono ?_
              rintro e w' ⟨rfl, rfl⟩
              have hsecs := HD.out.now.secs
              rw [HDN.out] at hsecs
              have hall := all_any d s w7 HD.out HOFF.out
              unfold Dk.ptr at hall
              rw [HDN.out] at hall
              have HALL := Lib.hid hall
              have HSE := Lib.hid hsecs
              clear hall hsecs
              go_wp2_with fail
              refine HALL.out.mono ?_
              rintro e w8 ⟨v8, rfl, m8, b8⟩
              obtain ⟨n8, a8, c8, rfl, hc8, hl8, hr8⟩ := m8.rows
              rw [bytes_len HSE.out 0 N (Nat.le_refl _)] at hl8
              obtain ⟨g8, o8, rfl, _, _⟩ := hr8.cells (by omega)
              obtain rfl : o8 = 0 := by
                rcases m8.1.2 with ⟨h1, _⟩ | ⟨_, _, _, h1, _⟩ <;> simp only [Value.slice.injEq] at h1
                · cases h1.1
                · cases h1.1; rfl
              obtain rfl : 64 * N = n8 := by omega
              have hp := Row.part hr8 (0 * 64) (N * 64) (by omega) (by omega)
              rw [area_bytes HSE.out 0 N (by omega) (by omega), show N * 64 - 0 * 64 = 64 * (N - 0 - 1 + 1) by omega] at hp
              have hRC : Calls Try.prog 22 #[.slice (some ⟨g8, 0, none⟩) (N * 64) (c8)] w8 (RecsTold w8 (bytes s.now 0 N)) := by
                have h := refRecords_any g8 (0 + 0 * 64) (N - 0 - 1) (c8 - 0 * 64) (bytes s.now 0 N) w8 hp (by omega) (by omega)
                rwa [show 64 * (N - 0 - 1 + 1) = N * 64 by omega, show 0 + 0 * 64 = 0 by omega, show c8 - 0 * 64 = c8 by omega] at h
              have hlen8 := Disk.len_any d s w8 (HD.out.below b8)
              unfold Dk.ptr at hlen8
              rw [HDN.out] at hlen8
              have HL8 := Lib.hid hlen8
              have HRC := Lib.hid hRC
              have B8 := Lib.hid b8
              have hbig : ¬ (64 * (N : Int) < (N : Int) * 64) := by omega
              clear hp hRC hlen8 m8 hr8 b8 HALL HLEN hl8
              go_wp2_with fail
              refine HL8.out.mono ?_
              rintro e w' ⟨rfl, rfl⟩
              go_wp2_with fail
              refine HL8.out.mono ?_
              rintro e w' ⟨rfl, rfl⟩
              go_wp2_with fail
              refine HRC.out.mono ?_
              rintro e w9 ⟨b9, k9, hk9, hcs⟩
              rw [(area_first HSE.out 0 N (by omega) (by omega)).1] at hk9
              rw [(area_first HSE.out 0 N (by omega) (by omega)).2] at hcs
              have hd9 := (HD.out.below B8.out).below b9
              have hop := open_yes d s 0 N w9 hd9 (by omega) (by rw [HDN.out]; omega) HOFF.out
              unfold Dk.ptr at hop
              have HOY := Lib.hid hop
              have HK9 := Lib.hid hk9
              have b9' := HB.out.trans ((B8.out.trans (b9.mono B8.out.size)).mono HB.out.size)
              have B9 := Lib.hid b9'
              clear hop hk9 hd9 b9 b9' HL8 HRC B8 HD HSE HB
              rcases hcs with ⟨hnone, rfl⟩ | ⟨rs, v9, hsome, hrecs, rfl⟩
              · have HNO := Lib.hid hnone
                clear hnone
                go_wp2_with fail
                refine HOY.out.mono ?_
                rintro e w10 ⟨b10, k10, hk10, hco⟩
                obtain rfl := Marks.inj HK9.out hk10
                rcases hco with ⟨_, rfl⟩ | ⟨rs', p, v', h', _⟩
                · have hsame := sameRows_any (.slice none 0 0) (.slice none 0 0) [] [] w10 (recs_nil _ 0).rows (recs_nil _ 0).rows
                  rw [show decide (([] : List (List Int)) = []) = true by simp] at hsame
                  have HS := Lib.hid hsame
                  have B10 := Lib.hid (B9.out.trans (b10.mono B9.out.size))
                  clear hsame b10 hk10 HOY HK9 B9
                  go_wp2_with fail
                  refine HS.out.mono ?_
                  rintro e w11 ⟨rfl, b11⟩
                  have B11 := Lib.hid (B10.out.trans (b11.mono B10.out.size))
                  clear b11 B10 HS
                  go_wp2_with fail
                  refine (awake_any _).mono ?_
                  rintro e w12 ⟨rfl, b12⟩
                  go_wp2_with fail
                  go_ret
                  exact ⟨rfl, B11.out.trans (b12.mono B11.out.size)⟩
                · rw [HNO.out] at h'; cases h'
              · have HSO := Lib.hid hsome
                have HRE := Lib.hid hrecs
                obtain ⟨a9, c9, rfl, _⟩ := hrecs.shape
                obtain ⟨U, hU⟩ : ∃ U, 1 + used rs = U := ⟨_, rfl⟩
                rw [hU]
                have HU := Lib.hid hU
                clear hsome hrecs hU
                go_wp2_with fail
                refine HOY.out.mono ?_
                rintro e w10 ⟨b10, k10, hk10, hco⟩
                obtain rfl := Marks.inj HK9.out hk10
                rcases hco with ⟨h', rfl⟩ | ⟨rs', p, v', h', hpw, hla, hre', rfl⟩
                · rw [HSO.out] at h'; cases h'
                · rw [HSO.out] at h'
                  obtain rfl : rs = rs' := Option.some.inj h'
                  have hr10 := hre' 0 (Nat.zero_le _)
                  obtain ⟨a10, c10, rfl, _⟩ := hr10.shape
                  have hsame := sameRows_any _ _ rs rs w10 hr10.rows (HRE.out.below b10).rows
                  rw [show decide (rs = rs) = true by simp] at hsame
                  have hle := hla.ok.o1
                  change 0 + 1 + used rs ≤ N at hle
                  have hUe := HU.out
                  obtain ⟨nr2, hnr2⟩ : ∃ n, rs.length = n := ⟨_, rfl⟩
                  rw [hnr2] at hsame
                  rw [hnr2]
                  have HNR2 := Lib.hid hnr2
                  have HS := Lib.hid hsame
                  have HLA := Lib.hid hla
                  have B10 := Lib.hid (B9.out.trans (b10.mono B9.out.size))
                  clear hsame b10 hk10 HOY HK9 B9 hla hre' hr10 h' hnr2 HRE
                  go_wp2_with fail
                  refine HS.out.mono ?_
                  rintro e w11 ⟨rfl, b11⟩
                  have L11 := HLA.out.below b11
                  have hln := logLen_any p d.p _ w11 L11
                  have hfr := free_any p d.p _ w11 L11
                  rw [show (opened 0 N (s.now.getD 0 []) rs).count = nr2 from HNR2.out] at hln
                  rw [show (opened 0 N (s.now.getD 0 []) rs).to - (opened 0 N (s.now.getD 0 []) rs).next = N - (0 + 1 + used rs) from rfl] at hfr
                  obtain ⟨fv, hfv⟩ : ∃ fv : Int, ((N - (0 + 1 + used rs) : Nat) : Int) = fv := ⟨_, rfl⟩
                  rw [hfv] at hfr
                  have hfe : fv = (N : Int) - U := by omega
                  have HLN := Lib.hid hln
                  have HFR := Lib.hid hfr
                  have B11 := Lib.hid (B10.out.trans (b11.mono B10.out.size))
                  have hU1 : U ≤ 200 := by omega
                  clear hln hfr hfv b11 L11 HLA HS B10
                  go_wp2_with fail
                  refine HLN.out.mono ?_
                  rintro e w' ⟨rfl, rfl⟩
                  go_wp2_with fail
                  refine HFR.out.mono ?_
                  rintro e w12 hT
                  obtain ⟨rfl, b12⟩ := hT.below
                  have B12 := Lib.hid (B11.out.trans (b12.mono B11.out.size))
                  clear hT b12 B11 HFR
                  go_wp2_with fail
                  refine (awake_any _).mono ?_
                  rintro e w13 ⟨rfl, b13⟩
                  go_wp2_with fail
                  go_ret
                  exact ⟨rfl, B12.out.trans (b13.mono B12.out.size)⟩

            · have hno : isArea d.n fr to = false := by rw [HDN.out]; simp [isArea]; omega
              have hop := open_no d s fr to w7 HD.out hno
              have hfm := format_no d s fr to w7 HD.out hno
              unfold Dk.ptr at hop hfm
              have HOP := Lib.hid hop
              have HFM := Lib.hid hfm
              clear hop hfm hno
              have hb4 : ¬ fr < 0 := by omega
              have hb5 : ¬ to ≤ fr := by omega
              go_wp2_with fail
              refine HLEN.out.mono ?_
              rintro e w' ⟨rfl, rfl⟩
              go_wp2_with fail
              refine HOP.out.mono ?_
              rintro e w' ⟨rfl, rfl⟩
              go_wp2_with fail
              refine HFM.out.mono ?_
              rintro e w' ⟨rfl, rfl⟩
              clear HOP HFM
              go_wp2_with fail
              refine HLEN.out.mono ?_
              rintro e w' ⟨rfl, rfl⟩
              have hsecs := HD.out.now.secs
              rw [HDN.out] at hsecs
              have hall := all_any d s w7 HD.out HOFF.out
              unfold Dk.ptr at hall
              rw [HDN.out] at hall
              have HALL := Lib.hid hall
              have HSE := Lib.hid hsecs
              clear hall hsecs
              go_wp2_with fail
              refine HALL.out.mono ?_
              rintro e w8 ⟨v8, rfl, m8, b8⟩
              obtain ⟨n8, a8, c8, rfl, hc8, hl8, hr8⟩ := m8.rows
              rw [bytes_len HSE.out 0 N (Nat.le_refl _)] at hl8
              obtain ⟨g8, o8, rfl, _, _⟩ := hr8.cells (by omega)
              obtain rfl : o8 = 0 := by
                rcases m8.1.2 with ⟨h1, _⟩ | ⟨_, _, _, h1, _⟩ <;> simp only [Value.slice.injEq] at h1
                · cases h1.1
                · cases h1.1; rfl
              obtain rfl : 64 * N = n8 := by omega
              have hp := Row.part hr8 (0 * 64) (N * 64) (by omega) (by omega)
              rw [area_bytes HSE.out 0 N (by omega) (by omega), show N * 64 - 0 * 64 = 64 * (N - 0 - 1 + 1) by omega] at hp
              have hRC : Calls Try.prog 22 #[.slice (some ⟨g8, 0, none⟩) (N * 64) (c8)] w8 (RecsTold w8 (bytes s.now 0 N)) := by
                have h := refRecords_any g8 (0 + 0 * 64) (N - 0 - 1) (c8 - 0 * 64) (bytes s.now 0 N) w8 hp (by omega) (by omega)
                rwa [show 64 * (N - 0 - 1 + 1) = N * 64 by omega, show 0 + 0 * 64 = 0 by omega, show c8 - 0 * 64 = c8 by omega] at h
              have hlen8 := Disk.len_any d s w8 (HD.out.below b8)
              unfold Dk.ptr at hlen8
              rw [HDN.out] at hlen8
              have HL8 := Lib.hid hlen8
              have HRC := Lib.hid hRC
              have B8 := Lib.hid b8
              have hbig : ¬ (64 * (N : Int) < (N : Int) * 64) := by omega
              clear hp hRC hlen8 m8 hr8 b8 HALL HLEN hl8
              go_wp2_with fail
              refine HL8.out.mono ?_
              rintro e w' ⟨rfl, rfl⟩
              go_wp2_with fail
              refine HL8.out.mono ?_
              rintro e w' ⟨rfl, rfl⟩
              go_wp2_with fail
              refine HRC.out.mono ?_
              rintro e w9 ⟨b9, k9, hk9, hcs⟩
              rw [(area_first HSE.out 0 N (by omega) (by omega)).1] at hk9
              rw [(area_first HSE.out 0 N (by omega) (by omega)).2] at hcs
              have hd9 := (HD.out.below B8.out).below b9
              have hop := open_yes d s 0 N w9 hd9 (by omega) (by rw [HDN.out]; omega) HOFF.out
              unfold Dk.ptr at hop
              have HOY := Lib.hid hop
              have HK9 := Lib.hid hk9
              have b9' := HB.out.trans ((B8.out.trans (b9.mono B8.out.size)).mono HB.out.size)
              have B9 := Lib.hid b9'
              clear hop hk9 hd9 b9 b9' HL8 HRC B8 HD HSE HB
              rcases hcs with ⟨hnone, rfl⟩ | ⟨rs, v9, hsome, hrecs, rfl⟩
              · have HNO := Lib.hid hnone
                clear hnone
                go_wp2_with fail
                refine HOY.out.mono ?_
                rintro e w10 ⟨b10, k10, hk10, hco⟩
                obtain rfl := Marks.inj HK9.out hk10
                rcases hco with ⟨_, rfl⟩ | ⟨rs', p, v', h', _⟩
                · have hsame := sameRows_any (.slice none 0 0) (.slice none 0 0) [] [] w10 (recs_nil _ 0).rows (recs_nil _ 0).rows
                  rw [show decide (([] : List (List Int)) = []) = true by simp] at hsame
                  have HS := Lib.hid hsame
                  have B10 := Lib.hid (B9.out.trans (b10.mono B9.out.size))
                  clear hsame b10 hk10 HOY HK9 B9
                  go_wp2_with fail
                  refine HS.out.mono ?_
                  rintro e w11 ⟨rfl, b11⟩
                  have B11 := Lib.hid (B10.out.trans (b11.mono B10.out.size))
                  clear b11 B10 HS
                  go_wp2_with fail
                  refine (awake_any _).mono ?_
                  rintro e w12 ⟨rfl, b12⟩
                  go_wp2_with fail
                  go_ret
                  exact ⟨rfl, B11.out.trans (b12.mono B11.out.size)⟩
                · rw [HNO.out] at h'; cases h'
              · have HSO := Lib.hid hsome
                have HRE := Lib.hid hrecs
                obtain ⟨a9, c9, rfl, _⟩ := hrecs.shape
                obtain ⟨U, hU⟩ : ∃ U, 1 + used rs = U := ⟨_, rfl⟩
                rw [hU]
                have HU := Lib.hid hU
                clear hsome hrecs hU
                go_wp2_with fail
                refine HOY.out.mono ?_
                rintro e w10 ⟨b10, k10, hk10, hco⟩
                obtain rfl := Marks.inj HK9.out hk10
                rcases hco with ⟨h', rfl⟩ | ⟨rs', p, v', h', hpw, hla, hre', rfl⟩
                · rw [HSO.out] at h'; cases h'
                · rw [HSO.out] at h'
                  obtain rfl : rs = rs' := Option.some.inj h'
                  have hr10 := hre' 0 (Nat.zero_le _)
                  obtain ⟨a10, c10, rfl, _⟩ := hr10.shape
                  have hsame := sameRows_any _ _ rs rs w10 hr10.rows (HRE.out.below b10).rows
                  rw [show decide (rs = rs) = true by simp] at hsame
                  have hle := hla.ok.o1
                  change 0 + 1 + used rs ≤ N at hle
                  have hUe := HU.out
                  obtain ⟨nr2, hnr2⟩ : ∃ n, rs.length = n := ⟨_, rfl⟩
                  rw [hnr2] at hsame
                  rw [hnr2]
                  have HNR2 := Lib.hid hnr2
                  have HS := Lib.hid hsame
                  have HLA := Lib.hid hla
                  have B10 := Lib.hid (B9.out.trans (b10.mono B9.out.size))
                  clear hsame b10 hk10 HOY HK9 B9 hla hre' hr10 h' hnr2 HRE
                  go_wp2_with fail
                  refine HS.out.mono ?_
                  rintro e w11 ⟨rfl, b11⟩
                  have L11 := HLA.out.below b11
                  have hln := logLen_any p d.p _ w11 L11
                  have hfr := free_any p d.p _ w11 L11
                  rw [show (opened 0 N (s.now.getD 0 []) rs).count = nr2 from HNR2.out] at hln
                  rw [show (opened 0 N (s.now.getD 0 []) rs).to - (opened 0 N (s.now.getD 0 []) rs).next = N - (0 + 1 + used rs) from rfl] at hfr
                  obtain ⟨fv, hfv⟩ : ∃ fv : Int, ((N - (0 + 1 + used rs) : Nat) : Int) = fv := ⟨_, rfl⟩
                  rw [hfv] at hfr
                  have hfe : fv = (N : Int) - U := by omega
                  have HLN := Lib.hid hln
                  have HFR := Lib.hid hfr
                  have B11 := Lib.hid (B10.out.trans (b11.mono B10.out.size))
                  have hU1 : U ≤ 200 := by omega
                  clear hln hfr hfv b11 L11 HLA HS B10
                  go_wp2_with fail
                  refine HLN.out.mono ?_
                  rintro e w' ⟨rfl, rfl⟩
                  go_wp2_with fail
                  refine HFR.out.mono ?_
                  rintro e w12 hT
                  obtain ⟨rfl, b12⟩ := hT.below
                  have B12 := Lib.hid (B11.out.trans (b12.mono B11.out.size))
                  clear hT b12 B11 HFR
                  go_wp2_with fail
                  refine (awake_any _).mono ?_
                  rintro e w13 ⟨rfl, b13⟩
                  go_wp2_with fail
                  go_ret
                  exact ⟨rfl, B12.out.trans (b13.mono B12.out.size)⟩

            · obtain ⟨a, rfl⟩ := Int.eq_ofNat_of_zero_le hg1
              obtain ⟨b, rfl⟩ := Int.eq_ofNat_of_zero_le (show 0 ≤ to by omega)
              have hg4 : ¬ (a : Int) < 0 := by omega
              have hg5 : ¬ (b : Int) ≤ a := by omega
              have hg6 : ¬ (N : Int) < b := by omega
              go_wp2_with fail
              refine HLEN.out.mono ?_
              rintro e w' ⟨rfl, rfl⟩
              have hsecs := HD.out.now.secs
              rw [HDN.out] at hsecs
              have hall := all_any d s w7 HD.out HOFF.out
              unfold Dk.ptr at hall
              rw [HDN.out] at hall
              have HALL := Lib.hid hall
              have HSE := Lib.hid hsecs
              clear hall hsecs
              go_wp2_with fail
              refine HALL.out.mono ?_
              rintro e w8 ⟨v8, rfl, m8, b8⟩
              obtain ⟨n8, a8, c8, rfl, hc8, hl8, hr8⟩ := m8.rows
              rw [bytes_len HSE.out 0 N (Nat.le_refl _)] at hl8
              obtain ⟨g8, o8, rfl, _, _⟩ := hr8.cells (by omega)
              obtain rfl : o8 = 0 := by
                rcases m8.1.2 with ⟨h1, _⟩ | ⟨_, _, _, h1, _⟩ <;> simp only [Value.slice.injEq] at h1
                · cases h1.1
                · cases h1.1; rfl
              obtain rfl : 64 * N = n8 := by omega
              have hp := Row.part hr8 (a * 64) (b * 64) (by omega) (by omega)
              rw [area_bytes HSE.out a b (by omega) (by omega), show b * 64 - a * 64 = 64 * (b - a - 1 + 1) by omega] at hp
              have hRC : Calls Try.prog 22 #[.slice (some ⟨g8, a * 64, none⟩) (b * 64 - a * 64) (c8 - a * 64)] w8 (RecsTold w8 (bytes s.now a b)) := by
                have h := refRecords_any g8 (0 + a * 64) (b - a - 1) (c8 - a * 64) (bytes s.now a b) w8 hp (by omega) (by omega)
                rwa [show 64 * (b - a - 1 + 1) = b * 64 - a * 64 by omega, show 0 + a * 64 = a * 64 by omega, show c8 - a * 64 = c8 - a * 64 by omega] at h
              have hlen8 := Disk.len_any d s w8 (HD.out.below b8)
              unfold Dk.ptr at hlen8
              rw [HDN.out] at hlen8
              have HL8 := Lib.hid hlen8
              have HRC := Lib.hid hRC
              have B8 := Lib.hid b8
              have hbig : ¬ (64 * (N : Int) < (N : Int) * 64) := by omega
              clear hp hRC hlen8 m8 hr8 b8 HALL HLEN hl8
              go_wp2_with fail
              refine HL8.out.mono ?_
              rintro e w' ⟨rfl, rfl⟩
              go_wp2_with fail
              refine HL8.out.mono ?_
              rintro e w' ⟨rfl, rfl⟩
              go_wp2_with fail
              refine HRC.out.mono ?_
              rintro e w9 ⟨b9, k9, hk9, hcs⟩
              rw [(area_first HSE.out a b (by omega) (by omega)).1] at hk9
              rw [(area_first HSE.out a b (by omega) (by omega)).2] at hcs
              have hd9 := (HD.out.below B8.out).below b9
              have hop := open_yes d s a b w9 hd9 (by omega) (by rw [HDN.out]; omega) HOFF.out
              unfold Dk.ptr at hop
              have HOY := Lib.hid hop
              have HK9 := Lib.hid hk9
              have b9' := HB.out.trans ((B8.out.trans (b9.mono B8.out.size)).mono HB.out.size)
              have B9 := Lib.hid b9'
              clear hop hk9 hd9 b9 b9' HL8 HRC B8 HD HSE HB
              rcases hcs with ⟨hnone, rfl⟩ | ⟨rs, v9, hsome, hrecs, rfl⟩
              · have HNO := Lib.hid hnone
                clear hnone
                go_wp2_with fail
                refine HOY.out.mono ?_
                rintro e w10 ⟨b10, k10, hk10, hco⟩
                obtain rfl := Marks.inj HK9.out hk10
                rcases hco with ⟨_, rfl⟩ | ⟨rs', p, v', h', _⟩
                · have hsame := sameRows_any (.slice none 0 0) (.slice none 0 0) [] [] w10 (recs_nil _ 0).rows (recs_nil _ 0).rows
                  rw [show decide (([] : List (List Int)) = []) = true by simp] at hsame
                  have HS := Lib.hid hsame
                  have B10 := Lib.hid (B9.out.trans (b10.mono B9.out.size))
                  clear hsame b10 hk10 HOY HK9 B9
                  go_wp2_with fail
                  refine HS.out.mono ?_
                  rintro e w11 ⟨rfl, b11⟩
                  have B11 := Lib.hid (B10.out.trans (b11.mono B10.out.size))
                  clear b11 B10 HS
                  go_wp2_with fail
                  refine (awake_any _).mono ?_
                  rintro e w12 ⟨rfl, b12⟩
                  go_wp2_with fail
                  go_ret
                  exact ⟨rfl, B11.out.trans (b12.mono B11.out.size)⟩
                · rw [HNO.out] at h'; cases h'
              · have HSO := Lib.hid hsome
                have HRE := Lib.hid hrecs
                obtain ⟨a9, c9, rfl, _⟩ := hrecs.shape
                obtain ⟨U, hU⟩ : ∃ U, 1 + used rs = U := ⟨_, rfl⟩
                rw [hU]
                have HU := Lib.hid hU
                clear hsome hrecs hU
                go_wp2_with fail
                refine HOY.out.mono ?_
                rintro e w10 ⟨b10, k10, hk10, hco⟩
                obtain rfl := Marks.inj HK9.out hk10
                rcases hco with ⟨h', rfl⟩ | ⟨rs', p, v', h', hpw, hla, hre', rfl⟩
                · rw [HSO.out] at h'; cases h'
                · rw [HSO.out] at h'
                  obtain rfl : rs = rs' := Option.some.inj h'
                  have hr10 := hre' 0 (Nat.zero_le _)
                  obtain ⟨a10, c10, rfl, _⟩ := hr10.shape
                  have hsame := sameRows_any _ _ rs rs w10 hr10.rows (HRE.out.below b10).rows
                  rw [show decide (rs = rs) = true by simp] at hsame
                  have hle := hla.ok.o1
                  change a + 1 + used rs ≤ b at hle
                  have hUe := HU.out
                  obtain ⟨nr2, hnr2⟩ : ∃ n, rs.length = n := ⟨_, rfl⟩
                  rw [hnr2] at hsame
                  rw [hnr2]
                  have HNR2 := Lib.hid hnr2
                  have HS := Lib.hid hsame
                  have HLA := Lib.hid hla
                  have B10 := Lib.hid (B9.out.trans (b10.mono B9.out.size))
                  clear hsame b10 hk10 HOY HK9 B9 hla hre' hr10 h' hnr2 HRE
                  go_wp2_with fail
                  refine HS.out.mono ?_
                  rintro e w11 ⟨rfl, b11⟩
                  have L11 := HLA.out.below b11
                  have hln := logLen_any p d.p _ w11 L11
                  have hfr := free_any p d.p _ w11 L11
                  rw [show (opened a b (s.now.getD a []) rs).count = nr2 from HNR2.out] at hln
                  rw [show (opened a b (s.now.getD a []) rs).to - (opened a b (s.now.getD a []) rs).next = b - (a + 1 + used rs) from rfl] at hfr
                  obtain ⟨fv, hfv⟩ : ∃ fv : Int, ((b - (a + 1 + used rs) : Nat) : Int) = fv := ⟨_, rfl⟩
                  rw [hfv] at hfr
                  have hfe : fv = (b : Int) - a - U := by omega
                  have HLN := Lib.hid hln
                  have HFR := Lib.hid hfr
                  have B11 := Lib.hid (B10.out.trans (b11.mono B10.out.size))
                  have hU1 : U ≤ 200 := by omega
                  clear hln hfr hfv b11 L11 HLA HS B10
                  go_wp2_with fail
                  refine HLN.out.mono ?_
                  rintro e w' ⟨rfl, rfl⟩
                  go_wp2_with fail
                  refine HFR.out.mono ?_
                  rintro e w12 hT
                  obtain ⟨rfl, b12⟩ := hT.below
                  have B12 := Lib.hid (B11.out.trans (b12.mono B11.out.size))
                  clear hT b12 B11 HFR
                  go_wp2_with fail
                  refine (awake_any _).mono ?_
                  rintro e w13 ⟨rfl, b13⟩
                  go_wp2_with fail
                  go_ret
                  exact ⟨rfl, B12.out.trans (b13.mono B12.out.size)⟩


end Wal
end Go.Proofs.Ytjeidfknnophnaa

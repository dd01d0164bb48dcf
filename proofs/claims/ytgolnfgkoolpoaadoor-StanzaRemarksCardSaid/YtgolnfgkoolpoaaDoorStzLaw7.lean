/-
The walk of the law StanzaRemarks.
-/
import Derived.Test.YtgolnfgkoolpoaaDoorStzRem
import Derived.Test.YtgolnfgkoolpoaaDoorStzAwake
import Derived.Test.YtgolnfgkoolpoaaDoorStzSameK
import Derived.Test.YtgolnfgkoolpoaaDoorStzPrinter
import Derived.Test.YtgolnfgkoolpoaaDoorStzLine
import Derived.Lib.ConvBytes
import Derived.Lib.AtoiErrMem
namespace Go.Proofs.YtgolnfgkoolpoaaDoor
open Go.RowKit
set_option linter.unusedSimpArgs false
set_option linter.unusedVariables false
namespace Stz
open Txt (tabs_below tabs_lt MaxLen trimL ytrim_any)
theorem nums_S' (l : Bs) : strOfNums (nums l) = S l := by
  apply ByteArray.ext
  simp [strOfNums, nums, S, List.map_map, Function.comp_def]
theorem byte_ex {zs : List Int} (h : Byte zs) : ∃ bs : Bs, zs = nums bs := by
  refine ⟨zs.map fun z => UInt8.ofNat z.toNat, ?_⟩
  unfold nums
  rw [List.map_map]
  apply List.ext_getElem (by simp)
  intro i h1 h2
  have hz := h _ (List.getElem_mem h1)
  simp
  omega
theorem S_more {t : ByteArray} {a c : Bs} {k : ByteArray} (h : t = S a) (hk : k = S c) : t ++ k = S (a ++ c) := by rw [h, hk, S_app]
theorem cnt_five (ps : List Int) (q n : Nat) : cntEq ((ps.take 5).take q) n ≤ 5 := by
  have : cntEq ((ps.take 5).take q) n ≤ ((ps.take 5).take q).length := List.countP_le_length
  rw [List.length_take, List.length_take] at this
  omega
/-- A slice of ints that came in. -/
def Places (w : World) (a : Option Addr) (n : Nat) (ps : List Int) : Prop := ps.length = n ∧ n ≤ 9223372036854775807 ∧ (0 < n → ∃ b off, a = some ⟨b, off, none⟩ ∧ ∀ j, j < n → w.cell? ⟨b, off + j, none⟩ = some (.int .i64 (ps.getD j 0)))
theorem places_of {w : World} {a : Option Addr} {len cap : Nat} {zs : List Int} (h : IsRow .i64 w a len cap zs) : Places w a len (zs.take len) := by
  rcases h with ⟨rfl, rfl, rfl, rfl⟩ | ⟨x, rfl, hl, hm, hz, hc, hw⟩
  · exact ⟨rfl, by omega, fun h => absurd h (by omega)⟩
  · unfold maxLen at hm
    refine ⟨by rw [List.length_take]; omega, by omega, fun h0 => ?_⟩
    obtain ⟨b, off, rfl, hc'⟩ := ints_at hc (by omega)
    refine ⟨b, off, rfl, fun j hj => ?_⟩
    rw [hc' j (by omega)]
    simp [hj]
set_option maxRecDepth 100000 in
set_option maxHeartbeats 8000000 in
theorem stanzaRemarks_walk (a : Option Addr) (len cap : Nat) (zs : List Int) (hcap : len ≤ cap) (pa : Option Addr) (pn pc : Nat) (ps : List Int) (w : World) (hr : Row w a len zs) (hp : Places w pa pn ps) (hT : Lib.Utf8Tabs 1 2 w) (hm : MaxLen w) :
    Calls Tryd.prog 8 #[.slice a len cap, .slice pa pn pc] w fun e w' => e = .returned (.bool true) ∧ Below w.heap.size w w' := by
  have hl := tabs_lt hT
  have hml := Lib.hid hm.lt
  have HT := Lib.hid hT
  have HMM := Lib.hid hm
  obtain ⟨bs, rfl⟩ := byte_ex hr.byt
  have HR := Lib.hid hr
  have hbl := hr.count
  rw [nums_len] at hbl
  have HBL := Lib.hid hbl
  have HP := Lib.hid hp
  have c1 := parse_any a len cap _ w hr hT hm
  rw [nums_S'] at c1
  have HC := Lib.hid c1
  clear hT hm hr hp hbl c1
  go_enter Tryd.func8, Tryd.ntmps8
  go_wp2_with fail
  refine HC.out.mono ?_
  rintro e w1 ⟨v1, l, er, n, rfl, h1, _, t1, b1⟩
  have H1 := Lib.hid h1
  have T1 := Lib.hid t1
  have B1 := Lib.hid b1
  clear h1 t1 b1 HC
  have nA : Below w1.heap.size w1 (w1.alloc (.cells #[.int .i64 er, .int .i64 n] 26)) := (Below.refl _ _).alloc (Nat.le_refl _) _
  have T2 := Lib.hid (T1.out.below nA)
  have B2 := Lib.hid (B1.out.trans (nA.mono B1.out.size))
  clear nA B1 T1
  by_cases her : er = 0
  case neg =>
    have hb1 : ((er : Int) != 0) = true := by rw [bne_iff_ne]; omega
    clear her
    go_wp2_with fail
    clear hb1
    refine (awake_any _ (tabs_below HT.out B2.out hl) (HMM.out.below B2.out hml.out)).mono ?_
    rintro e w4 ⟨rfl, b4⟩
    have B4 := Lib.hid (B2.out.trans (b4.mono B2.out.size))
    clear b4 B2
    go_wp2_with fail
    go_ret
    exact ⟨rfl, B4.out⟩
  have hb0 : ((er : Int) != 0) = false := by rw [her]; rfl
  have HPR := Lib.hid (show PR (S bs) l 0 n by have := H1.out; rwa [her] at this)
  clear her H1
  by_cases hlen : 3000 < len
  · have hlen' : (3000 : Int) < len := by omega
    go_wp2_with fail
    clear hb0
    refine (awake_any _ (tabs_below HT.out B2.out hl) (HMM.out.below B2.out hml.out)).mono ?_
    rintro e w4 ⟨rfl, b4⟩
    have B4 := Lib.hid (B2.out.trans (b4.mono B2.out.size))
    clear b4 B2
    go_wp2_with fail
    go_ret
    exact ⟨rfl, B4.out⟩
  have hlen' : ¬ (3000 : Int) < len := by omega
  have hln : len ≤ 3000 := by omega
  go_wp2_with fail
  obtain ⟨W, hW⟩ : ∃ W, w1.alloc (.cells #[.int .i64 er, .int .i64 n] 26) = W := ⟨_, rfl⟩
  rw [hW] at T2 B2 ⊢
  clear hW hb0 hlen hlen'
  go_loopw [7, 8, 9, 10] (fun s7 s8 s9 i u => ∃ (k f : Nat) (ds c : List Bs), s7 = .string (S (fl c)) ∧ s8 = .int .i64 (ds.length : Nat) ∧ s9 = .int .i64 f ∧ i = .int .i64 k ∧ Hid (RemAt bs (ps.take 5) ds c k f) ∧ Hid (Below W.heap.size W u)) (fun _ _ _ i _ => len + 1 - (intOf i).toNat)
  case atStart => exact ⟨0, 0, [], [], rfl, rfl, rfl, rfl, Lib.hid (RemAt.start bs _), Lib.hid (Below.refl _ _)⟩
  case round =>
    obtain ⟨k, f, ds, c, rfl, rfl, rfl, rfl, HRM, HB⟩ := hrel
    have hfk : f ≤ k := HRM.out.fk
    have hdf : ds.length ≤ f := HRM.out.count
    have hkn : k ≤ len + 1 := by rw [← HBL.out]; exact HRM.out.kn
    obtain ⟨L, hL⟩ : ∃ L, ds.length = L := ⟨_, rfl⟩
    have HL := Lib.hid hL
    rw [hL] at hdf ⊢
    clear hL
    have k0 : (0 : Int) ≤ k := by omega
    by_cases hk : k ≤ len
    case neg =>
      have hk' : ¬ (k : Int) ≤ len := by omega
      obtain rfl : k = len + 1 := by omega
      obtain ⟨m, hpr, hlk⟩ := remarks_pr (ps := ps.take 5) HPR.out (by rw [HBL.out]; exact hln) (by rw [List.length_take]; omega) (by have := HRM.out; rw [← HBL.out] at this; exact this)
      have HPM := Lib.hid hpr
      have HLK := Lib.hid hlk
      obtain ⟨X, hX⟩ : ∃ X, fl c = X := ⟨_, rfl⟩
      rw [hX] at HPM ⊢
      have hcv := Lib.run_convert_string_bytes (P := Tryd.prog) wr 9 22 5 (S X) Tryd.underlying9 Tryd.underlying22 Tryd.underlying5
      have bb := Lib.bytesWorld_below wr 5 (S X)
      have hXs : (S X).size ≤ 100000 := by
        rw [S_size, ← hX]
        have h1 := HRM.out.size
        have h2 := cnt_le (ps.take 5) ds.length
        rw [List.length_take] at h2
        omega
      have HROW := Lib.hid (show Row (Lib.bytesWorld wr 5 (S X)) (some ⟨wr.heap.size, 0, none⟩) (S X).size (nums X) from ⟨by rw [nums_len, S_size], by omega, byte_nums X, fun _ => ⟨_, _, rfl, by rw [Lib.bytesWorld_size]; omega, fun j hj => by
        rw [Nat.zero_add, Lib.bytesWorld_cell wr 5 (S X) j hj, S_data]
        rw [S_size] at hj
        simp [nums, List.getD, List.getElem?_eq_getElem hj]⟩⟩)
      obtain ⟨w2, hw2⟩ : ∃ w2, Lib.bytesWorld wr 5 (S X) = w2 := ⟨_, rfl⟩
      obtain ⟨g, hg⟩ : ∃ g, grownCap wr (S X).size 0 5 = g := ⟨_, rfl⟩
      rw [hw2, hg] at hcv
      rw [hw2] at bb HROW
      have HB2 := Lib.hid (B2.out.trans ((HB.out.trans (bb.mono HB.out.size)).mono B2.out.size))
      have T3 := Lib.hid ((T2.out.below HB.out).below bb)
      clear hpr hlk hX bb hw2 hg hk hfk hdf hkn HB HRM T2
      go_wp2_with fail
      clear hcv hXs
      refine (parse_any (some ⟨wr.heap.size, 0, none⟩) (S X).size g (nums X) w2 HROW.out (tabs_below HT.out HB2.out hl) (HMM.out.below HB2.out hml.out)).mono ?_
      rintro e w3 ⟨v3, l3, er3, n3, rfl, h3, _, t3, b3⟩
      rw [nums_S'] at h3
      obtain ⟨rfl, rfl, rfl⟩ := h3.uniq HPM.out
      have T4 := Lib.hid t3
      have T5 := Lib.hid (T3.out.below b3)
      have B4 := Lib.hid (HB2.out.trans (b3.mono HB2.out.size))
      clear h3 t3 b3 T3 HB2 HROW
      go_wp2_with fail
      have nA : Below w3.heap.size w3 (w3.alloc (.cells #[.int .i64 0, .int .i64 0] 26)) := (Below.refl _ _).alloc (Nat.le_refl _) _
      have T6 := Lib.hid (T4.out.below nA)
      have T7 := Lib.hid (T5.out.below nA)
      have B5 := Lib.hid (B4.out.trans (nA.mono B4.out.size))
      clear nA T4 T5 B4
      refine (sameStanzas_yes v1 v3 l l3 false _ T7.out T6.out HLK.out (fun h => by cases h)).mono ?_
      rintro e w6 ⟨rfl, b6⟩
      have B6 := Lib.hid (B5.out.trans (b6.mono B5.out.size))
      clear b6 B5 T6 T7
      go_wp2_with fail
      refine (awake_any w6 (tabs_below HT.out B6.out hl) (HMM.out.below B6.out hml.out)).mono ?_
      rintro e w7 ⟨rfl, b7⟩
      have B7 := Lib.hid (B6.out.trans (b7.mono B6.out.size))
      clear b7 B6
      go_wp2_with fail
      go_ret
      exact ⟨rfl, B7.out⟩
    have hk' : (k : Int) ≤ len := by omega
    by_cases hk1 : k < len
    case neg =>
      obtain rfl : k = len := by omega
      have e1 : ¬ (k : Int) < k := by omega
      have e2 : ((k : Int) == k) = true := by simp
      by_cases hf : f = k
      · subst hf
        go_wp2_with fail
        refine ⟨⟨f + 1, f, ds, c, rfl, by rw [HL.out], rfl, by go_num, Lib.hid (HRM.out.skipEnd HBL.out.symm rfl), HB⟩, by simp [intOf]⟩
      · have e3 : ((f : Int) == k) = false := by rw [beq_eq_false_iff_ne]; omega
        have NEXT := Lib.hid (HRM.out.line (by rw [HBL.out]; exact Nat.le_refl _) (fun h => absurd h (by rw [HBL.out]; omega)) (fun _ => hf))
        have hfl : f < k := by omega
        obtain ⟨blk, off, rfl, _, _⟩ := HR.out.cells (by omega)
        have hfc : f < cap := by omega
        clear hf hk
        obtain ⟨x, hx⟩ : ∃ x, (bs.drop f).take (k - f) = x := ⟨_, rfl⟩
        rw [hx] at NEXT
        have hrow : Row wr (some ⟨blk, off + f, none⟩) (k - f) (nums x) := by
          have r0 := HR.out.below (B2.out.trans (HB.out.mono B2.out.size))
          obtain ⟨r1, r2, r3, r4⟩ := r0
          refine ⟨by rw [nums_len, ← hx, List.length_take, List.length_drop, HBL.out]; omega, by omega, fun z hz => ?_, fun h0 => ?_⟩
          · obtain ⟨d, hd, rfl⟩ := List.mem_map.1 hz
            have := d.toNat_lt
            omega
          · obtain ⟨b', o', e, q1, q2⟩ := r4 (by omega)
            simp only [Option.some.injEq, Addr.mk.injEq, and_true] at e
            obtain ⟨rfl, rfl⟩ := e
            refine ⟨_, _, rfl, q1, fun j hj => ?_⟩
            rw [show off + f + j = off + (f + j) by omega, q2 _ (by omega), ← hx]
            simp only [nums, List.getD, List.getElem?_map, List.getElem?_take, List.getElem?_drop]
            rw [if_pos (by omega)]
        have hcv := hrow.conv (cap - f)
        rw [nums_S'] at hcv
        clear hrow
        have hxl : x.length ≤ 9223372036854775807 := by
          rw [← hx, List.length_take]
          have := HR.out.short
          omega
        have HX := Lib.hid hx
        have HCL := Lib.hid (show (fl c).length ≤ 12100 by
          have h1 := HRM.out.size
          have h2 := cnt_le (ps.take 5) ds.length
          rw [List.length_take] at h2
          omega)
        have hxs : (S x).size ≤ 3000 := by
          rw [S_size, ← hx, List.length_take]
          omega
        rw [HL.out] at NEXT
        obtain ⟨V, hV⟩ : ∃ V, V = wr := ⟨_, rfl⟩
        subst hV
        clear hx
        go_wp2_with fail
        clear hcv
        go_loopw [7, 67] (fun s7 i u => ∃ q : Nat, q ≤ pn ∧ i = .int .i64 q ∧ s7 = .string (S (fl (c ++ List.replicate (cntEq ((ps.take 5).take q) L) rmk))) ∧ u = V) (fun _ i _ => pn - (intOf i).toNat)
        case atStart => exact ⟨0, by omega, rfl, by rw [List.take_zero, show cntEq [] L = 0 from rfl, List.replicate_zero, List.append_nil], rfl⟩
        case round =>
          obtain ⟨q, hq, rfl, rfl, rfl⟩ := hrel
          obtain ⟨hpl, hpm, hpat⟩ := HP.out
          by_cases hqn : q < pn
          · obtain ⟨pb, poff, rfl, hpat2⟩ := hpat (by omega)
            have hcl := hpat2 q hqn
            obtain ⟨P, hP⟩ : ∃ P, ps.getD q 0 = P := ⟨_, rfl⟩
            rw [hP, ← (B2.out.trans (HB.out.mono B2.out.size)).cell (Txt.lt_cell hcl)] at hcl
            have hst := cnt_step ps L (show q < ps.length by rw [hpl]; exact hqn)
            rw [hP] at hst
            have HST := Lib.hid hst
            obtain ⟨r, hr⟩ : ∃ r, cntEq ((ps.take 5).take q) L = r := ⟨_, rfl⟩
            have HR5 := Lib.hid (show r ≤ 5 by rw [← hr]; exact cnt_five ps _ L)
            rw [hr] at HST ⊢
            obtain ⟨T, hTx⟩ : ∃ T, fl (c ++ List.replicate r rmk) = T := ⟨_, rfl⟩
            rw [hTx]
            have HTX := Lib.hid hTx
            have q0 : (0 : Int) ≤ q := by omega
            have hts : (S T).size ≤ 13000 := by
              rw [S_size, ← HTX.out, fl_app', List.length_append, fl_rmks]
              have h1 := HCL.out
              have h2 := HR5.out
              omega
            have q1 : (q : Int) < pn := by omega
            clear hpl hpat hpat2 hP hst hr hTx
            by_cases h5 : q < 5
            · have h5' : (q : Int) < 5 := by omega
              by_cases hPL : P = L
              · have hPL' : (P == (L : Int)) = true := by rw [hPL]; simp
                have HN1 := Lib.hid (show cntEq ((ps.take 5).take (q + 1)) L = r + 1 by rw [HST.out, if_pos ⟨h5, hPL⟩])
                have hSS := Lib.hid (show S T ++ S [35, 32, 114, 101, 109, 97, 114, 107, 58, 32, 120, 10] = S (fl (c ++ List.replicate (r + 1) rmk)) by
                  rw [S_app, List.replicate_succ', ← List.append_assoc, fl_app', HTX.out]; rfl)
                clear hPL
                go_wp2_with fail
                refine ⟨⟨q + 1, by omega, by go_num, ?_, trivial⟩, by simp [intOf]; omega⟩
                rw [HN1.out, ← hSS.out]
                rfl
              · have hPL' : (P == (L : Int)) = false := by rw [beq_eq_false_iff_ne]; exact hPL
                have HN1 := Lib.hid (show cntEq ((ps.take 5).take (q + 1)) L = r by rw [HST.out, if_neg (fun e => hPL e.2)]; rfl)
                clear hPL
                go_wp2_with fail
                refine ⟨⟨q + 1, by omega, by go_num, by rw [HN1.out, HTX.out], trivial⟩, by simp [intOf]; omega⟩
            · have h5' : ¬ (q : Int) < 5 := by omega
              have HN1 := Lib.hid (show cntEq ((ps.take 5).take (q + 1)) L = r by rw [HST.out, if_neg (fun e => h5 e.1)]; rfl)
              go_wp2_with fail
              refine ⟨⟨q + 1, by omega, by go_num, by rw [HN1.out, HTX.out], trivial⟩, by simp [intOf]; omega⟩
          · obtain rfl : q = pn := by omega
            have hall := cnt_all ps L
            rw [hpl] at hall
            rw [hall]
            obtain ⟨r, hr⟩ : ∃ r, cntEq (ps.take 5) L = r := ⟨_, rfl⟩
            have HR5 := Lib.hid (show r ≤ 5 by rw [← hr, ← cnt_all ps L]; exact cnt_five ps _ L)
            rw [hr] at NEXT ⊢
            obtain ⟨T, hTx⟩ : ∃ T, fl (c ++ List.replicate r rmk) = T := ⟨_, rfl⟩
            rw [hTx]
            have HTX := Lib.hid hTx
            have qn : ¬ (q : Int) < q := by omega
            have hts : (S T).size ≤ 13000 := by
              rw [S_size, ← HTX.out, fl_app', List.length_append, fl_rmks]
              have h1 := HCL.out
              have h2 := HR5.out
              omega
            have ct := ytrim_any (S x) wr (by rw [S_size]; exact hxl)
            rw [S_data] at ct
            have CT := Lib.hid ct
            clear hpl hpat hall hr hTx hqn ct
            go_wp2_with fail
            refine CT.out.mono ?_
            rintro e w2 ⟨t, rfl, ht, b2⟩
            have HB2 := Lib.hid (HB.out.trans (b2.mono HB.out.size))
            have hie := is_empty t
            rw [ht] at hie
            have hkL : L ≤ 3001 := by omega
            have HSL := Lib.hid (show (ds ++ [x]).length = L + 1 by rw [List.length_append, HL.out]; rfl)
            clear ht b2 CT
            by_cases hem : trimL x = []
            · rw [decide_eq_true hem] at hie
              have HSS := Lib.hid (show S T ++ (S x ++ S [10]) ++ S [32, 10, 10] = S (fl (c ++ (List.replicate r rmk ++ lineTo x))) by
                rw [S_app, S_app, S_app, ← List.append_assoc c, fl_app', HTX.out]
                unfold lineTo
                rw [if_pos hem]
                congr 1
                simp [fl])
              clear hem
              go_wp2_with fail
              refine ⟨⟨k + 1, k + 1, ds ++ [x], c ++ (List.replicate r rmk ++ lineTo x), ?_, ?_, by go_num, by go_num, NEXT, HB2⟩, by simp [intOf] <;> omega⟩
              · rw [← HSS.out]; rfl
              · rw [HSL.out]; go_num
            · rw [decide_eq_false hem] at hie
              have HSS := Lib.hid (show S T ++ (S x ++ S [10]) = S (fl (c ++ (List.replicate r rmk ++ lineTo x))) by
                rw [S_app, S_app, ← List.append_assoc c, fl_app', HTX.out]
                unfold lineTo
                rw [if_neg hem]
                rfl)
              clear hem
              go_wp2_with fail
              refine ⟨⟨k + 1, k + 1, ds ++ [x], c ++ (List.replicate r rmk ++ lineTo x), ?_, ?_, by go_num, by go_num, NEXT, HB2⟩, by simp [intOf] <;> omega⟩
              · rw [← HSS.out]; rfl
              · rw [HSL.out]; go_num
    · have hkb : k < bs.length := by rw [HBL.out]; exact hk1
      have hk1' : (k : Int) < len := by omega
      obtain ⟨blk, off, rfl, hlt, hat⟩ := HR.out.cells (by omega)
      have hck := hat k hk1
      obtain ⟨C, hC⟩ : ∃ C, bs.getD k 0 = C := ⟨_, rfl⟩
      have hcn : (nums bs).getD k 0 = (C.toNat : Int) := by
        rw [← hC]
        simp [nums, List.getD, List.getElem?_eq_getElem hkb]
      rw [hcn, ← (B2.out.trans (HB.out.mono B2.out.size)).cell hlt] at hck
      clear hat hcn
      by_cases h10 : C = 10
      · have e4 : ((C.toNat : Int) != 10) = false := by rw [h10]; rfl
        have e5 : ((k : Int) == len) = false := by rw [beq_eq_false_iff_ne]; omega
        have NEXT := Lib.hid (HRM.out.line (Nat.le_of_lt hkb) (fun _ => by rw [hC, h10]) (fun h => absurd h (by omega)))
        have hfc : f < cap := by omega
        clear hC h10 hkb hk
        obtain ⟨x, hx⟩ : ∃ x, (bs.drop f).take (k - f) = x := ⟨_, rfl⟩
        rw [hx] at NEXT
        have hrow : Row wr (some ⟨blk, off + f, none⟩) (k - f) (nums x) := by
          have r0 := HR.out.below (B2.out.trans (HB.out.mono B2.out.size))
          obtain ⟨r1, r2, r3, r4⟩ := r0
          refine ⟨by rw [nums_len, ← hx, List.length_take, List.length_drop, HBL.out]; omega, by omega, fun z hz => ?_, fun h0 => ?_⟩
          · obtain ⟨d, hd, rfl⟩ := List.mem_map.1 hz
            have := d.toNat_lt
            omega
          · obtain ⟨b', o', e, q1, q2⟩ := r4 (by omega)
            simp only [Option.some.injEq, Addr.mk.injEq, and_true] at e
            obtain ⟨rfl, rfl⟩ := e
            refine ⟨_, _, rfl, q1, fun j hj => ?_⟩
            rw [show off + f + j = off + (f + j) by omega, q2 _ (by omega), ← hx]
            simp only [nums, List.getD, List.getElem?_map, List.getElem?_take, List.getElem?_drop]
            rw [if_pos (by omega)]
        have hcv := hrow.conv (cap - f)
        rw [nums_S'] at hcv
        clear hrow
        have hxl : x.length ≤ 9223372036854775807 := by
          rw [← hx, List.length_take]
          have := HR.out.short
          omega
        have HX := Lib.hid hx
        have HCL := Lib.hid (show (fl c).length ≤ 12100 by
          have h1 := HRM.out.size
          have h2 := cnt_le (ps.take 5) ds.length
          rw [List.length_take] at h2
          omega)
        have hxs : (S x).size ≤ 3000 := by
          rw [S_size, ← hx, List.length_take]
          omega
        rw [HL.out] at NEXT
        obtain ⟨V, hV⟩ : ∃ V, V = wr := ⟨_, rfl⟩
        subst hV
        clear hx
        go_wp2_with fail
        clear hcv
        go_loopw [7, 67] (fun s7 i u => ∃ q : Nat, q ≤ pn ∧ i = .int .i64 q ∧ s7 = .string (S (fl (c ++ List.replicate (cntEq ((ps.take 5).take q) L) rmk))) ∧ u = V) (fun _ i _ => pn - (intOf i).toNat)
        case atStart => exact ⟨0, by omega, rfl, by rw [List.take_zero, show cntEq [] L = 0 from rfl, List.replicate_zero, List.append_nil], rfl⟩
        case round =>
          obtain ⟨q, hq, rfl, rfl, rfl⟩ := hrel
          obtain ⟨hpl, hpm, hpat⟩ := HP.out
          by_cases hqn : q < pn
          · obtain ⟨pb, poff, rfl, hpat2⟩ := hpat (by omega)
            have hcl := hpat2 q hqn
            obtain ⟨P, hP⟩ : ∃ P, ps.getD q 0 = P := ⟨_, rfl⟩
            rw [hP, ← (B2.out.trans (HB.out.mono B2.out.size)).cell (Txt.lt_cell hcl)] at hcl
            have hst := cnt_step ps L (show q < ps.length by rw [hpl]; exact hqn)
            rw [hP] at hst
            have HST := Lib.hid hst
            obtain ⟨r, hr⟩ : ∃ r, cntEq ((ps.take 5).take q) L = r := ⟨_, rfl⟩
            have HR5 := Lib.hid (show r ≤ 5 by rw [← hr]; exact cnt_five ps _ L)
            rw [hr] at HST ⊢
            obtain ⟨T, hTx⟩ : ∃ T, fl (c ++ List.replicate r rmk) = T := ⟨_, rfl⟩
            rw [hTx]
            have HTX := Lib.hid hTx
            have q0 : (0 : Int) ≤ q := by omega
            have hts : (S T).size ≤ 13000 := by
              rw [S_size, ← HTX.out, fl_app', List.length_append, fl_rmks]
              have h1 := HCL.out
              have h2 := HR5.out
              omega
            have q1 : (q : Int) < pn := by omega
            clear hpl hpat hpat2 hP hst hr hTx
            by_cases h5 : q < 5
            · have h5' : (q : Int) < 5 := by omega
              by_cases hPL : P = L
              · have hPL' : (P == (L : Int)) = true := by rw [hPL]; simp
                have HN1 := Lib.hid (show cntEq ((ps.take 5).take (q + 1)) L = r + 1 by rw [HST.out, if_pos ⟨h5, hPL⟩])
                have hSS := Lib.hid (show S T ++ S [35, 32, 114, 101, 109, 97, 114, 107, 58, 32, 120, 10] = S (fl (c ++ List.replicate (r + 1) rmk)) by
                  rw [S_app, List.replicate_succ', ← List.append_assoc, fl_app', HTX.out]; rfl)
                clear hPL
                go_wp2_with fail
                refine ⟨⟨q + 1, by omega, by go_num, ?_, trivial⟩, by simp [intOf]; omega⟩
                rw [HN1.out, ← hSS.out]
                rfl
              · have hPL' : (P == (L : Int)) = false := by rw [beq_eq_false_iff_ne]; exact hPL
                have HN1 := Lib.hid (show cntEq ((ps.take 5).take (q + 1)) L = r by rw [HST.out, if_neg (fun e => hPL e.2)]; rfl)
                clear hPL
                go_wp2_with fail
                refine ⟨⟨q + 1, by omega, by go_num, by rw [HN1.out, HTX.out], trivial⟩, by simp [intOf]; omega⟩
            · have h5' : ¬ (q : Int) < 5 := by omega
              have HN1 := Lib.hid (show cntEq ((ps.take 5).take (q + 1)) L = r by rw [HST.out, if_neg (fun e => h5 e.1)]; rfl)
              go_wp2_with fail
              refine ⟨⟨q + 1, by omega, by go_num, by rw [HN1.out, HTX.out], trivial⟩, by simp [intOf]; omega⟩
          · obtain rfl : q = pn := by omega
            have hall := cnt_all ps L
            rw [hpl] at hall
            rw [hall]
            obtain ⟨r, hr⟩ : ∃ r, cntEq (ps.take 5) L = r := ⟨_, rfl⟩
            have HR5 := Lib.hid (show r ≤ 5 by rw [← hr, ← cnt_all ps L]; exact cnt_five ps _ L)
            rw [hr] at NEXT ⊢
            obtain ⟨T, hTx⟩ : ∃ T, fl (c ++ List.replicate r rmk) = T := ⟨_, rfl⟩
            rw [hTx]
            have HTX := Lib.hid hTx
            have qn : ¬ (q : Int) < q := by omega
            have hts : (S T).size ≤ 13000 := by
              rw [S_size, ← HTX.out, fl_app', List.length_append, fl_rmks]
              have h1 := HCL.out
              have h2 := HR5.out
              omega
            have ct := ytrim_any (S x) wr (by rw [S_size]; exact hxl)
            rw [S_data] at ct
            have CT := Lib.hid ct
            clear hpl hpat hall hr hTx hqn ct
            go_wp2_with fail
            refine CT.out.mono ?_
            rintro e w2 ⟨t, rfl, ht, b2⟩
            have HB2 := Lib.hid (HB.out.trans (b2.mono HB.out.size))
            have hie := is_empty t
            rw [ht] at hie
            have hkL : L ≤ 3001 := by omega
            have HSL := Lib.hid (show (ds ++ [x]).length = L + 1 by rw [List.length_append, HL.out]; rfl)
            clear ht b2 CT
            by_cases hem : trimL x = []
            · rw [decide_eq_true hem] at hie
              have HSS := Lib.hid (show S T ++ (S x ++ S [10]) ++ S [32, 10, 10] = S (fl (c ++ (List.replicate r rmk ++ lineTo x))) by
                rw [S_app, S_app, S_app, ← List.append_assoc c, fl_app', HTX.out]
                unfold lineTo
                rw [if_pos hem]
                congr 1
                simp [fl])
              clear hem
              go_wp2_with fail
              refine ⟨⟨k + 1, k + 1, ds ++ [x], c ++ (List.replicate r rmk ++ lineTo x), ?_, ?_, by go_num, by go_num, NEXT, HB2⟩, by simp [intOf] <;> omega⟩
              · rw [← HSS.out]; rfl
              · rw [HSL.out]; go_num
            · rw [decide_eq_false hem] at hie
              have HSS := Lib.hid (show S T ++ (S x ++ S [10]) = S (fl (c ++ (List.replicate r rmk ++ lineTo x))) by
                rw [S_app, S_app, ← List.append_assoc c, fl_app', HTX.out]
                unfold lineTo
                rw [if_neg hem]
                rfl)
              clear hem
              go_wp2_with fail
              refine ⟨⟨k + 1, k + 1, ds ++ [x], c ++ (List.replicate r rmk ++ lineTo x), ?_, ?_, by go_num, by go_num, NEXT, HB2⟩, by simp [intOf] <;> omega⟩
              · rw [← HSS.out]; rfl
              · rw [HSL.out]; go_num
      · have e4 : ((C.toNat : Int) != 10) = true := by
          rw [bne_iff_ne]
          intro h
          exact h10 (UInt8.toNat_inj.1 (by have : C.toNat = 10 := by omega
                                           rw [this]; rfl))
        have NEXT := Lib.hid (HRM.out.skip hkb (by rw [hC]; exact h10))
        clear hC h10 hkb
        go_wp2_with fail
        refine ⟨⟨k + 1, f, ds, c, rfl, by rw [HL.out], rfl, by go_num, NEXT, HB⟩, by simp [intOf]; omega⟩
end Stz
end Go.Proofs.YtgolnfgkoolpoaaDoor

/-
The walk of the law TextSpread.
-/
import Derived.Test.YtnhacikpkchfjaaDoorWordsRef
import Derived.Laws.Concat
namespace Go.Proofs.YtnhacikpkchfjaaDoor
open Go.RowKit
set_option linter.unusedSimpArgs false
set_option linter.unusedVariables false
namespace Txt
theorem modU (n : Int) (m : Nat) (h0 : 0 < m) : ∃ N : Nat, (IntKind.u64.wrap n).tmod m = (N : Int) ∧ N < m := by
  have h1 : 0 ≤ IntKind.u64.wrap n := by rw [IntKind.wrap_u64]; omega
  obtain ⟨k, hk⟩ := Int.eq_ofNat_of_zero_le h1
  rw [hk]
  exact ⟨k % m, rfl, Nat.mod_lt _ h0⟩
theorem list_app (x y : ByteArray) : (x ++ y).data.toList = x.data.toList ++ y.data.toList := by simp [ByteArray.data_append]
theorem spread_snoc (gap l : List UInt8) (c : UInt8) : spread gap (l ++ [c]) = spread gap l ++ (if W c = true then c :: gap else [c]) := by
  induction l with
  | nil =>
    show (if W c = true then c :: (gap ++ []) else c :: []) = _
    simp [spread]
  | cons d l ih =>
    show (if W d = true then d :: (gap ++ spread gap (l ++ [c])) else d :: spread gap (l ++ [c])) = (if W d = true then d :: (gap ++ spread gap l) else d :: spread gap l) ++ _
    rw [ih]
    split <;> simp
theorem go_short (l : List UInt8) : ∀ cur, ∀ y ∈ go cur l, y.length ≤ cur.length + l.length := by
  induction l with
  | nil =>
    intro cur y hy
    rw [go_nil] at hy
    unfold close at hy
    split at hy
    · cases hy
    · rw [List.mem_singleton.1 hy]; omega
  | cons c l ih =>
    intro cur y hy
    by_cases hw : W c = true
    · rw [go_white hw] at hy
      rcases List.mem_append.1 hy with h | h
      · unfold close at h
        split at h
        · cases h
        · rw [List.mem_singleton.1 h]; omega
      · have := ih [] y h
        simp at this ⊢; omega
    · rw [Bool.not_eq_true] at hw
      rw [go_black hw] at hy
      have := ih _ y hy
      simp at this ⊢; omega
theorem WordsOf.word {s : ByteArray} {ls : List ByteArray} (h : WordsOf s ls) {i : Nat} (hi : i < ls.length) : Word (ls.getD i ByteArray.empty).data.toList ∧ (ls.getD i ByteArray.empty).size ≤ s.size := by
  have hm : (ls.getD i ByteArray.empty).data.toList ∈ ls.map (·.data.toList) := List.mem_map.2 ⟨_, by simp [hi], rfl⟩
  rw [h] at hm
  refine ⟨words_word hm, ?_⟩
  have := go_short s.data.toList [] _ hm
  rw [len_list, len_list] at this
  simpa using this
theorem WordsOf.self {x : ByteArray} {ls : List ByteArray} (h : WordsOf x ls) (hx : Word x.data.toList) : ls = [x] := by
  refine lists_inj ?_
  rw [h]
  exact go_one hx.2 hx.1
theorem white_app {x y : List UInt8} (hx : White x) (hy : White y) : White (x ++ y) := fun d hd => (List.mem_append.1 hd).elim (hx d) (hy d)
theorem slice_one (s : ByteArray) (k : Nat) (h : k < s.size) : ∃ c : UInt8, (s.extract k (k + 1)).data.toList = [c] ∧ s.data.toList.take (k + 1) = s.data.toList.take k ++ [c] ∧ c.toNat = b s k := by
  obtain ⟨c, h1, h2⟩ := take_snoc s k h
  obtain ⟨d, h3, h4⟩ := drop_cons s k h
  refine ⟨c, ?_, h1, h2⟩
  rw [ext_list s k (k + 1) (by omega), h3, Nat.add_sub_cancel_left]
  have : d = c := UInt8.toNat_inj.1 (by rw [h4, h2])
  rw [this]; rfl
set_option maxRecDepth 100000 in
set_option maxHeartbeats 4000000 in
theorem textSpread_walk (s : ByteArray) (a1 : Int) (w : World) (hs : s.size ≤ 1048576) (hT : Lib.Utf8Tabs 0 1 w) :
    Calls Tryd.prog 10 #[.string s, .int .i64 a1] w fun e w' => e = .returned (.bool true) ∧ Below w.heap.size w w' := by
  have hl := tabs_lt hT
  have HT := Lib.hid hT
  clear hT
  obtain ⟨M, hM, hM5⟩ := modU a1 5 (by omega)
  rw [show ((5 : Nat) : Int) = 5 from rfl] at hM
  go_enter Tryd.func10, Tryd.ntmps10
  go_wp2_with fail
  clear hM
  go_loopg [5, 15] M (fun gf s5 s15 wx => ∃ (k : Nat) (t : ByteArray), s5 = .string t ∧ s15 = .int .u64 k ∧ wx = w ∧ k ≤ M ∧ M ≤ k + gf ∧ t.size ≤ 2 * k ∧ Hid (White t.data.toList))
  case atStart => exact ⟨0, _, rfl, rfl, rfl, by omega, by omega, by decide, fun d hd => by cases hd⟩
  case round =>
    obtain ⟨k, t, rfl, rfl, rfl, hkM, hkg, hts, HW⟩ := hrel
    by_cases hk : k < M
    · have hk' : (k : Int) < (M : Int) := by omega
      have hw2 : White (t ++ ⟨#[32, 9]⟩).data.toList := by
        rw [list_app]
        exact white_app HW.out (fun d hd => by
          simp at hd
          rcases hd with rfl | rfl <;> decide)
      have hsz : (t ++ (⟨#[32, 9]⟩ : ByteArray)).size = t.size + 2 := by rw [ByteArray.size_append]; rfl
      have HW2 := Lib.hid hw2
      have HSZ := Lib.hid hsz
      clear hw2 hsz HW
      go_wp2_with fail
      go_roundg (gk - 1)
      case measure => omega
      case rel => exact ⟨k + 1, _, rfl, by go_num, rfl, by omega, by omega, by rw [HSZ.out]; omega, HW2⟩
    · have hk' : ¬ (k : Int) < (M : Int) := by omega
      have hg10 : t.size ≤ 10 := by omega
      obtain ⟨G, hG⟩ : ∃ G, t = G := ⟨_, rfl⟩
      rw [hG] at HW hg10 ⊢
      clear hG hts hkg
      go_wp2_with fail
      go_loopg [6, 23] s.size (fun gf s6 s23 wx => ∃ (k : Nat) (t : ByteArray), s6 = .string t ∧ s23 = .int .i64 k ∧ wx = wr ∧ k ≤ s.size ∧ s.size ≤ k + gf ∧ t.size ≤ 10 + 11 * k ∧ Hid (t.data.toList = G.data.toList ++ spread G.data.toList (s.data.toList.take k)))
      case atStart => exact ⟨0, G, rfl, rfl, rfl, by omega, by omega, by omega, by show _ = _ ++ []; simp⟩
      case round =>
        obtain ⟨q, u, rfl, rfl, rfl, hq1, hq2, hus, HU⟩ := hrel
        by_cases hq : q < s.size
        · have hq' : (q : Int) < (s.size : Int) := by omega
          have hq0 : (q : Int) + 1 ≤ (s.size : Int) := by omega
          obtain ⟨c, hc1, hc2, hc3⟩ := slice_one s q hq
          have hb := b_eq s q hq
          have hsn := spread_snoc G.data.toList (s.data.toList.take q) c
          rw [← hc2] at hsn
          have hes : (s.extract q (q + 1)).size = 1 := by rw [← len_list, hc1]; rfl
          have hWc : W c = wht (b s q) := W_b hc3
          have hWu : ((u ++ s.extract q (q + 1)).data.toList = u.data.toList ++ [c]) := by rw [list_app, hc1]
          have hsz1 : (u ++ s.extract q (q + 1)).size = u.size + 1 := by rw [ByteArray.size_append, hes]
          have hsz2 : ((u ++ s.extract q (q + 1)) ++ G).size = u.size + 1 + G.size := by rw [ByteArray.size_append, hsz1]
          cases hw : wht (b s q)
          · have hU : (u ++ s.extract q (q + 1)).data.toList = G.data.toList ++ spread G.data.toList (s.data.toList.take (q + 1)) := by
              rw [hWu, hsn, if_neg (by rw [hWc, hw]; simp), HU.out, List.append_assoc]
            have HU2 := Lib.hid hU
            have HZ1 := Lib.hid hsz1
            have hne : ¬ (b s q = 32) ∧ ¬ (b s q = 9) := by unfold wht at hw; simp at hw; omega
            obtain ⟨n, hn⟩ : ∃ n, b s q = n := ⟨_, rfl⟩
            rw [hn] at hb hne
            have hn1 : ¬ ((n : Int) = 32) := by omega
            have hn2 : ¬ ((n : Int) = 9) := by omega
            have e1 : ((n : Int) == 32) = false := beq_eq_false_iff_ne.2 hn1
            have e2 : ((n : Int) == 9) = false := beq_eq_false_iff_ne.2 hn2
            clear hc1 hc2 hc3 hsn hWc hWu hsz1 hsz2 hU HU hw hn hne hes
            have hxs : (s.extract q (q + 1)).size ≤ 1048576 := by simp [ByteArray.size_extract]; omega
            go_wp2_with fail
            go_roundg (gk - 1)
            case measure => omega
            case rel => exact ⟨q + 1, _, rfl, by go_num, rfl, by omega, by omega, by rw [HZ1.out]; omega, HU2⟩
          · have hU : ((u ++ s.extract q (q + 1)) ++ G).data.toList = G.data.toList ++ spread G.data.toList (s.data.toList.take (q + 1)) := by
              rw [list_app, hWu, hsn, if_pos (by rw [hWc, hw]), HU.out]
              simp
            have HU2 := Lib.hid hU
            have HZ2 := Lib.hid hsz2
            have hbv : b s q = 32 ∨ b s q = 9 := by unfold wht at hw; simpa using hw
            have hxs : (s.extract q (q + 1)).size ≤ 1048576 := by simp [ByteArray.size_extract]; omega
            clear hc1 hc2 hc3 hsn hWc hWu hsz1 hsz2 hU HU hw hes
            rcases hbv with e | e
            all_goals
              rw [e] at hb
              clear e
              go_wp2_with fail
              go_roundg (gk - 1)
              case measure => omega
              case rel => exact ⟨q + 1, _, rfl, by go_num, rfl, by omega, by omega, by rw [HZ2.out]; omega, HU2⟩
        · have hq' : ¬ (q : Int) < (s.size : Int) := by omega
          have hU := HU.out
          rw [show q = s.size by omega, List.take_of_length_le (by rw [len_list]; omega)] at hU
          have HU2 := Lib.hid hU
          have hus2 : u.size ≤ 12000000 := by omega
          clear hU HU hus hq1 hq2 hq
          go_wp2_with fail
          refine (words_any s wr (by omega)).mono ?_
          rintro e w1 ⟨v8, ls, rfl, h1, t1, b1⟩
          have H1 := Lib.hid h1
          have hok : ∀ i, i < ls.length → Word (ls.getD i ByteArray.empty).data.toList := fun i hi => (h1.word hi).1
          have hzl : ∀ i, i < ls.length → (ls.getD i ByteArray.empty).size ≤ 1048576 := fun i hi => by
            have := (h1.word hi).2
            omega
          have HOK := Lib.hid hok
          have HZL := Lib.hid hzl
          have T1 := Lib.hid t1
          have B1 := Lib.hid b1
          obtain ⟨hlen, a8, c8, rfl, hc8, p8⟩ := t1
          have P8 := Lib.hid p8
          obtain ⟨n, hn⟩ : ∃ n, ls.length = n := ⟨_, rfl⟩
          have HL := Lib.hid hn
          rw [hn] at hlen hc8 HOK HZL P8 ⊢
          clear h1 hok hzl b1 p8 hn
          go_wp2_with fail
          go_loopg [51] n (fun gf s51 wx => ∃ k : Nat, s51 = .int .i64 k ∧ Below w1.heap.size w1 wx ∧ k ≤ n ∧ n ≤ k + gf)
          case atStart => exact ⟨0, rfl, Below.refl _ _, by omega, by omega⟩
          case round =>
            obtain ⟨k, rfl, hbw, hk1, hk2⟩ := hrel
            have HBW := Lib.hid hbw
            by_cases hkn : k < n
            · have hkn' : (k : Int) < (n : Int) := by omega
              obtain ⟨blk, off, rfl, q8⟩ := P8.out (by omega)
              have x1 := q8 k hkn
              rw [← hbw.cell (lt_cell x1)] at x1
              have hxw := HOK.out k hkn
              have hxz := HZL.out k hkn
              obtain ⟨X, hX⟩ : ∃ X, ls.getD k ByteArray.empty = X := ⟨_, rfl⟩
              rw [hX] at x1 hxw hxz
              have HXW := Lib.hid hxw
              clear hbw q8 hX hxw
              go_wp2_with fail
              refine (words_any X _ (by omega)).mono ?_
              rintro e w2 ⟨v9, l9, rfl, h9, t9, b9⟩
              obtain rfl := h9.self HXW.out
              obtain ⟨_, a9, c9, rfl, hc9, p9⟩ := t9
              obtain ⟨b9', o9, rfl, q9⟩ := p9 (by simp)
              have y1 := q9 0 (by simp)
              rw [Nat.add_zero] at y1
              have y2 : w2.cell? ⟨b9', o9, none⟩ = some (.string X) := y1
              have hbeq := str_beq X X
              rw [decide_eq_true rfl] at hbeq
              have HB9 := Lib.hid (HBW.out.trans (b9.mono HBW.out.size))
              have hc9' : 1 ≤ c9 := hc9
              clear h9 p9 q9 y1 b9 HBW hc9
              go_wp2_with fail
              go_roundg (gk - 1)
              case measure => omega
              case rel => exact ⟨k + 1, by go_num, HB9.out, by omega, by omega⟩
            · have hkn' : ¬ (k : Int) < (n : Int) := by omega
              clear hbw
              go_wp2_with fail
              have hws : wordsL (u ++ G).data.toList = wordsL s.data.toList := by
                rw [list_app, HU2.out]
                unfold wordsL
                rw [go_back HW.out, go_front HW.out, go_spread HW.out]
              have hug : (u ++ G).size ≤ 12000010 := by rw [ByteArray.size_append]; omega
              have HWS := Lib.hid hws
              have D1 := Lib.hid (B1.out.trans (HBW.out.mono B1.out.size))
              have T2 := Lib.hid (T1.out.below HBW.out)
              clear hws
              refine (words_any (u ++ G) _ (by omega)).mono ?_
              rintro e w2 ⟨v3, l3, rfl, h3, t3, b3⟩
              obtain rfl : l3 = ls := h3.uniq H1.out HWS.out
              have T3 := Lib.hid (T2.out.below b3)
              have D2 := Lib.hid (D1.out.trans (b3.mono D1.out.size))
              have T4 := Lib.hid t3
              rw [HL.out] at T3
              clear h3 t3 b3 D1 T2 T1
              go_wp2_with fail
              refine (sameTexts_any v3 _ l3 l3 w2 T4.out T3.out).mono ?_
              rintro e w3 ⟨rfl, b4⟩
              rw [show decide (l3 = l3) = true from decide_eq_true rfl]
              have D3 := Lib.hid (D2.out.trans (b4.mono D2.out.size))
              have hgs : (G ++ s).size ≤ 1048586 := by rw [ByteArray.size_append]; omega
              have hgsg : ((G ++ s) ++ G).size ≤ 1048596 := by rw [ByteArray.size_append]; omega
              clear b4 D2 T3 T4
              go_wp2_with fail
              refine (trim_any ((G ++ s) ++ G) w3 (by omega) (tabs_below HT.out D3.out hl)).mono ?_
              rintro e w4 ⟨x, rfl, hx, b5⟩
              have HX := Lib.hid hx
              have D4 := Lib.hid (D3.out.trans (b5.mono D3.out.size))
              clear hx b5 D3
              go_wp2_with fail
              refine (trim_any s w4 (by omega) (tabs_below HT.out D4.out hl)).mono ?_
              rintro e w5 ⟨y, rfl, hy, b6⟩
              have hxy : x = y := bytes_inj (by
                rw [hy, HX.out, list_app, list_app]
                exact trim_gaps HW.out HW.out _)
              subst hxy
              have D5 := Lib.hid (D4.out.trans (b6.mono D4.out.size))
              have hbeq := str_beq x x
              rw [decide_eq_true rfl] at hbeq
              clear hy b6 D4 HX
              go_wp2_with fail
              refine (awake_any w5 (tabs_below HT.out D5.out hl)).mono ?_
              rintro e w6 ⟨rfl, b7⟩
              have D6 := Lib.hid (D5.out.trans (b7.mono D5.out.size))
              clear b7 D5
              go_wp2_with fail
              go_ret
              exact ⟨rfl, D6.out⟩
end Txt
end Go.Proofs.YtnhacikpkchfjaaDoor

/-
The walk of the law TextBack.
-/
import Derived.Test.YtnhacikpkchfjaaDoorTextLaws6
import Derived.Test.YtnhacikpkchfjaaDoorTextLaws5
namespace Go.Proofs.YtnhacikpkchfjaaDoor
open Go.RowKit
set_option linter.unusedSimpArgs false
set_option linter.unusedVariables false
namespace Txt
/-- Lines, each with a line feed. -/
def fl : List (List UInt8) → List UInt8
  | [] => []
  | x :: r => x ++ 10 :: fl r
theorem fl_app (a c : List (List UInt8)) : fl (a ++ c) = fl a ++ fl c := by
  induction a with
  | nil => rfl
  | cons x r ih => rw [List.cons_append]; show x ++ 10 :: fl (r ++ c) = (x ++ 10 :: fl r) ++ fl c; rw [ih]; simp
theorem fl_spl (L : List UInt8) : fl (spl L) = L ++ [10] := by
  induction L with
  | nil => rfl
  | cons c l ih =>
    have e : spl (c :: l) = if c = 10 then [] :: spl l else put c (spl l) := rfl
    rw [e]
    split
    · next h => subst h; show 10 :: fl (spl l) = _; rw [ih]; rfl
    · cases hs : spl l with
      | nil => exact absurd hs (spl_ne l)
      | cons x r =>
        rw [hs] at ih
        show c :: x ++ 10 :: fl r = _
        rw [List.cons_append]
        show c :: (fl (x :: r)) = _
        rw [ih]; rfl
theorem spl_pieces (L : List UInt8) : ∀ y ∈ spl L, Plain y := by
  induction L with
  | nil => intro y hy; rw [List.mem_singleton.1 hy]; intro c hc; cases hc
  | cons c l ih =>
    intro y hy
    have e : spl (c :: l) = if c = 10 then [] :: spl l else put c (spl l) := rfl
    rw [e] at hy
    split at hy
    · rcases List.mem_cons.1 hy with rfl | h
      · intro d hd; cases hd
      · exact ih y h
    · next hc =>
      cases hs : spl l with
      | nil => exact absurd hs (spl_ne l)
      | cons x r =>
        rw [hs] at hy ih
        rcases List.mem_cons.1 hy with rfl | h
        · intro d hd
          rcases List.mem_cons.1 hd with rfl | hd
          · exact hc
          · exact ih x (.head _) d hd
        · exact ih y (.tail _ h)
theorem fl_end : ∀ {rs : List (List UInt8)}, rs ≠ [] → ∃ q, fl rs = q ++ [10]
  | [], h => absurd rfl h
  | [x], _ => ⟨x, rfl⟩
  | x :: y :: r, _ => by
    obtain ⟨q, hq⟩ := fl_end (rs := y :: r) (by simp)
    exact ⟨x ++ 10 :: q, by show x ++ 10 :: fl (y :: r) = _; rw [hq]; simp⟩
/-- LINES, PUT TOGETHER, ARE THE TEXT: with a line feed at its end. -/
theorem fl_lines (L : List UInt8) : (L = [] ∧ fl (linesL L) = []) ∨ (∃ q, L = q ++ [10] ∧ fl (linesL L) = L) ∨ (∃ q c, L = q ++ [c] ∧ c ≠ 10 ∧ fl (linesL L) = L ++ [10]) := by
  obtain ⟨rs, x, hrx⟩ : ∃ rs x, spl L = rs ++ [x] := ⟨(spl L).dropLast, (spl L).getLast (spl_ne L), (List.dropLast_concat_getLast (spl_ne L)).symm⟩
  have h1 := fl_spl L
  rw [hrx, fl_app] at h1
  unfold linesL
  rw [hrx, dl_last]
  by_cases hx : x = []
  · subst hx
    rw [if_pos rfl]
    have h2 : fl rs = L := by
      have : fl rs ++ [10] = L ++ [10] := h1
      exact List.append_cancel_right this
    by_cases hr : rs = []
    · subst hr
      exact .inl ⟨h2.symm, rfl⟩
    · obtain ⟨q, hq⟩ := fl_end hr
      exact .inr (.inl ⟨q, by rw [← h2, hq], h2⟩)
  · rw [if_neg hx, fl_app]
    right; right
    have hp := spl_pieces L x (by rw [hrx]; simp)
    have hL : fl rs ++ x = L := by
      have : (fl rs ++ x) ++ [10] = L ++ [10] := by rw [← h1]; simp [fl]
      exact List.append_cancel_right this
    refine ⟨fl rs ++ x.dropLast, x.getLast hx, ?_, hp _ (List.getLast_mem hx), h1⟩
    rw [List.append_assoc, List.dropLast_concat_getLast hx, hL]
def tot : List (List UInt8) → Nat
  | [] => 0
  | x :: r => x.length + 1 + tot r
theorem tot_app (a c : List (List UInt8)) : tot (a ++ c) = tot a + tot c := by
  induction a with
  | nil => show tot c = 0 + tot c; omega
  | cons x r ih => show x.length + 1 + tot (r ++ c) = x.length + 1 + tot r + tot c; omega
theorem go_tot (l : List UInt8) : ∀ cur, tot (go cur l) ≤ cur.length + l.length + 1 := by
  have hcl : ∀ cur : List UInt8, tot (close cur) ≤ cur.length + 1 := fun cur => by
    unfold close; split
    · show 0 ≤ _; omega
    · show cur.length + 1 + 0 ≤ _; omega
  induction l with
  | nil => intro cur; rw [go_nil]; have := hcl cur; simp; omega
  | cons c l ih =>
    intro cur
    by_cases hw : W c = true
    · rw [go_white hw, tot_app]
      have h1 := ih []
      have h2 := hcl cur
      simp at h1 ⊢; omega
    · rw [Bool.not_eq_true] at hw
      rw [go_black hw]
      have := ih (cur ++ [c])
      simp at this ⊢; omega
theorem join_snoc (ws : List (List UInt8)) (x : List UInt8) : join (ws ++ [x]) = if ws = [] then x else join ws ++ 32 :: x := by
  induction ws with
  | nil => rfl
  | cons y r ih =>
    rw [if_neg (by simp)]
    cases r with
    | nil => rfl
    | cons z r =>
      rw [if_neg (by simp)] at ih
      show y ++ 32 :: join ((z :: r) ++ [x]) = (y ++ 32 :: join (z :: r)) ++ 32 :: x
      rw [ih]; simp
theorem join_tot (ws : List (List UInt8)) : (join ws).length ≤ tot ws := by
  induction ws with
  | nil => exact Nat.le_refl _
  | cons y r ih =>
    cases r with
    | nil => show y.length ≤ y.length + 1 + 0; omega
    | cons z r =>
      show (y ++ 32 :: join (z :: r)).length ≤ y.length + 1 + tot (z :: r)
      rw [List.length_append, List.length_cons]
      omega
theorem take_tot (ws : List (List UInt8)) (k : Nat) : tot (ws.take k) ≤ tot ws := by
  have := tot_app (ws.take k) (ws.drop k)
  rw [List.take_append_drop] at this
  omega
theorem take_fl (ws : List (List UInt8)) (k : Nat) : (fl (ws.take k)).length ≤ (fl ws).length := by
  have := congrArg List.length (fl_app (ws.take k) (ws.drop k))
  rw [List.take_append_drop, List.length_append] at this
  omega
theorem take_more {ls : List ByteArray} {k : Nat} (h : k < ls.length) : (ls.map (·.data.toList)).take (k + 1) = (ls.map (·.data.toList)).take k ++ [(ls.getD k ByteArray.empty).data.toList] := by
  have hl : k < (ls.map (·.data.toList)).length := by simpa using h
  rw [List.take_succ_eq_append_getElem hl]
  simp [List.getD_eq_getElem?_getD, h]
theorem last_b {S : ByteArray} {q : List UInt8} {c : UInt8} (h : S.data.toList = q ++ [c]) {z : Nat} (hz : S.size = z + 1) : b S z = c.toNat := by
  have hq : q.length = z := by
    have := congrArg List.length h
    rw [len_list, List.length_append, List.length_singleton] at this
    omega
  rw [← getD_b S z (by omega), h]
  simp [List.getD_eq_getElem?_getD, ← hq]
theorem trimLeft_len (l : List UInt8) : (trimLeft l).length ≤ l.length := by
  obtain ⟨x, _, h, _⟩ := trimLeft_eq l
  have := congrArg List.length h
  rw [List.length_append] at this
  omega
theorem trim_len (l : List UInt8) : (trimL l).length ≤ l.length := by
  have h1 := trimLeft_len l
  have h2 := trimLeft_len (trimLeft l).reverse
  unfold trimL trimRight
  rw [List.length_reverse]
  rw [List.length_reverse] at h2
  omega
set_option maxRecDepth 100000 in
set_option maxHeartbeats 8000000 in
theorem textBack_walk (a : Option Addr) (len cap : Nat) (zs : List Int) (s : ByteArray) (w : World) (hr : Row w a len zs) (hs : s.size ≤ 1048576) (hT : Lib.Utf8Tabs 0 1 w) (hm : MaxLen w) :
    Calls Tryd.prog 8 #[.slice a len cap, .string s] w fun e w' => e = .returned (.bool true) ∧ Below w.heap.size w w' := by
  have hl := tabs_lt hT
  have HT := Lib.hid hT
  have HR := Lib.hid hr
  have c1 := lines_all a len cap zs w hr hT hm
  have hsz : (strOfNums zs).size = len := by rw [strOfNums_size]; exact hr.count
  clear hT hm
  go_enter Tryd.func8, Tryd.ntmps8
  go_wp2_with fail
  refine c1.mono ?_
  rintro e w1 ⟨v1, ls, er, n, rfl, h1, hls, t1, b1⟩
  have H1 := Lib.hid h1
  have T1 := Lib.hid t1
  have B1 := Lib.hid b1
  by_cases he : er = 0
  · -- lines: they are the text
    subst he
    have hLR : len ≤ 65536 ∧ n = 0 ∧ LinesOf (strOfNums zs) ls := by
      unfold LR at h1
      rw [hsz] at h1
      split at h1
      · exact absurd h1.2.1 (by decide)
      · next hc =>
        rcases h1 with ⟨_, h2, h3, _⟩ | ⟨_, h2, _⟩
        · exact ⟨by omega, h2, h3⟩
        · exact absurd rfl h2
    obtain ⟨hlen, rfl, hlines⟩ := hLR
    have hcv := (hr.below (b1.alloc b1.size (.cells #[.int .i64 0, .int .i64 0] 29))).conv cap
    obtain ⟨S, hS⟩ : ∃ S, strOfNums zs = S := ⟨_, rfl⟩
    rw [hS] at hcv hsz hlines
    have HLN := Lib.hid hlines
    have hfl := fl_lines S.data.toList
    rw [← hlines] at hfl
    have HFL := Lib.hid hfl
    obtain ⟨_, a8, c8, rfl, hc8, p8⟩ := t1
    have P8 := Lib.hid p8
    obtain ⟨n, hn⟩ : ∃ n, ls.length = n := ⟨_, rfl⟩
    have HL := Lib.hid hn
    rw [hn] at hls hc8 P8 ⊢
    clear h1 b1 c1 hS hlines hfl p8 hn hr H1 T1
    go_wp2_with fail
    go_loopg [7, 26] n (fun gf s7 s26 wx => ∃ (k : Nat) (t : ByteArray), s7 = .string t ∧ s26 = .int .i64 k ∧ wx = w1.alloc (.cells #[.int .i64 0, .int .i64 0] 29) ∧ k ≤ n ∧ n ≤ k + gf ∧ Hid (t.data.toList = fl ((ls.map (·.data.toList)).take k)) ∧ t.size ≤ 65537)
    case atStart => exact ⟨0, _, rfl, rfl, rfl, by omega, by omega, rfl, by decide⟩
    case round =>
      obtain ⟨k, t, rfl, rfl, rfl, hk1, hk2, HF, hts⟩ := hrel
      by_cases hkn : k < n
      · have hkn' : (k : Int) < (n : Int) := by omega
        obtain ⟨blk, off, rfl, q8⟩ := P8.out (by omega)
        have x1 := q8 k hkn
        have bW : Below w1.heap.size w1 (w1.alloc (.cells #[.int .i64 0, .int .i64 0] 29)) := (Below.refl _ _).alloc (Nat.le_refl _) _
        rw [← bW.cell (lt_cell x1)] at x1
        have hmore := take_more (ls := ls) (k := k) (by rw [HL.out]; exact hkn)
        have hflt := take_fl (ls.map (·.data.toList)) (k + 1)
        obtain ⟨X, hX⟩ : ∃ X, ls.getD k ByteArray.empty = X := ⟨_, rfl⟩
        rw [hX] at x1 hmore
        have hnew : (t ++ (X ++ ⟨#[10]⟩)).data.toList = fl ((ls.map (·.data.toList)).take (k + 1)) := by
          rw [hmore, fl_app, list_app, list_app, HF.out]
          rfl
        have hsm : (fl (ls.map (·.data.toList))).length ≤ 65537 := by
          rcases HFL.out with ⟨_, h⟩ | ⟨q, _, h⟩ | ⟨q, c, _, _, h⟩
          · rw [h]; simp
          · rw [h, len_list]; omega
          · rw [h, List.length_append, len_list]; simp; omega
        have hnz : (t ++ (X ++ ⟨#[10]⟩)).size ≤ 65537 := by rw [← len_list, hnew]; omega
        have hXs : X.size ≤ 65537 := by
          have : (t ++ (X ++ (⟨#[10]⟩ : ByteArray))).size = t.size + (X.size + 1) := by rw [ByteArray.size_append, ByteArray.size_append]; rfl
          omega
        have HNEW := Lib.hid hnew
        have HNZ := Lib.hid hnz
        clear q8 hmore hflt hX hnew hsm hnz HF bW
        go_wp2_with fail
        go_roundg (gk - 1)
        case measure => omega
        case rel => exact ⟨k + 1, _, rfl, by go_num, rfl, by omega, by omega, HNEW, HNZ.out⟩
      · have hkn' : ¬ (k : Int) < (n : Int) := by omega
        have hall : t.data.toList = fl (ls.map (·.data.toList)) := by
          rw [HF.out, List.take_of_length_le (by rw [List.length_map, HL.out]; omega)]
        have DW := Lib.hid (B1.out.alloc B1.out.size (.cells #[.int .i64 0, .int .i64 0] 29))
        rcases HFL.out with ⟨h5, h6⟩ | ⟨q, h5, h6⟩ | ⟨q, c, h5, h6, h7⟩
        · obtain rfl : t = S := bytes_inj (by rw [hall, h6, h5])
          have hS0 : ¬ 0 < (t.size : Int) := by rw [← len_list, h5]; simp
          have hbeq := str_beq t t
          rw [decide_eq_true rfl] at hbeq
          clear h5 h6 hall HF
          go_wp2_with fail
          refine (words_any s _ (by omega)).mono ?_
          rintro e w2 ⟨v11, ws, rfl, h2, t2, b2⟩
          have H2 := Lib.hid h2
          have T2 := Lib.hid t2
          have D2 := Lib.hid (DW.out.trans (b2.mono DW.out.size))
          have hok : ∀ i, i < ws.length → Word (ws.getD i ByteArray.empty).data.toList ∧ (ws.getD i ByteArray.empty).size ≤ 1048576 := fun i hi => by
            have := h2.word hi
            exact ⟨this.1, by omega⟩
          have htot : tot (ws.map (·.data.toList)) ≤ 1048577 := by
            rw [h2]
            have := go_tot s.data.toList []
            rw [len_list] at this
            unfold wordsL
            simp at this; omega
          have HOK := Lib.hid hok
          have HTOT := Lib.hid htot
          obtain ⟨_, a9, c9, rfl, hc9, p9⟩ := t2
          have P9 := Lib.hid p9
          obtain ⟨m, hmw⟩ : ∃ m, ws.length = m := ⟨_, rfl⟩
          have HM := Lib.hid hmw
          rw [hmw] at hc9 P9 HOK ⊢
          have hm2 : m ≤ 1048576 := by have := h2.le; omega
          clear h2 b2 hok htot p9 hmw
          go_wp2_with fail
          go_loopg [12, 57] m (fun gf s12 s57 wx => ∃ (k : Nat) (j : ByteArray), s12 = .string j ∧ s57 = .int .i64 k ∧ Below w2.heap.size w2 wx ∧ k ≤ m ∧ m ≤ k + gf ∧ Hid (j.data.toList = join ((ws.map (·.data.toList)).take k)) ∧ j.size ≤ 1048577)
          case atStart => exact ⟨0, _, rfl, rfl, Below.refl _ _, by omega, by omega, rfl, by decide⟩
          case round =>
            obtain ⟨k, j, rfl, rfl, hbw, hk1, hk2, HJ, hjs⟩ := hrel
            have HBW := Lib.hid hbw
            by_cases hkm : k < m
            · have hkm' : (k : Int) < (m : Int) := by omega
              obtain ⟨blk, off, rfl, q9⟩ := P9.out (by omega)
              have x1 := q9 k hkm
              rw [← hbw.cell (lt_cell x1)] at x1
              obtain ⟨hxw, hxz⟩ := HOK.out k hkm
              have hmore := take_more (ls := ws) (k := k) (by rw [HM.out]; exact hkm)
              obtain ⟨X, hX⟩ : ∃ X, ws.getD k ByteArray.empty = X := ⟨_, rfl⟩
              rw [hX] at x1 hxw hxz hmore
              have HXW := Lib.hid hxw
              have hX0 : 0 < X.size := by
                rw [← len_list]
                exact List.length_pos_iff.2 hxw.1
              have hX0' : ¬ ((X.size : Int) = 0) := by omega
              have hX0'' : ((X.size : Int) == 0) = false := beq_eq_false_iff_ne.2 hX0'
              have hjoin : join ((ws.map (·.data.toList)).take (k + 1)) = if k = 0 then X.data.toList else join ((ws.map (·.data.toList)).take k) ++ 32 :: X.data.toList := by
                rw [hmore, join_snoc]
                by_cases h0 : k = 0
                · subst h0; rfl
                · rw [if_neg h0, if_neg (by
                    intro e
                    have := congrArg List.length e
                    rw [List.length_take, List.length_map, HM.out, List.length_nil] at this
                    omega)]
              have hbound : (join ((ws.map (·.data.toList)).take (k + 1))).length ≤ 1048577 := Nat.le_trans (join_tot _) (Nat.le_trans (take_tot _ _) HTOT.out)
              have HBD := Lib.hid hbound
              have D3 := Lib.hid (D2.out.trans (hbw.mono D2.out.size))
              have c9' := trim_any X wr (by omega) (tabs_below HT.out D3.out hl)
              by_cases h0 : k = 0
              · have hk0 : ¬ 0 < (k : Int) := by omega
                rw [if_pos h0] at hjoin
                have hj0 : (j ++ X).data.toList = join ((ws.map (·.data.toList)).take (k + 1)) := by
                  rw [hjoin, list_app, HJ.out, h0]
                  rfl
                have HJ2 := Lib.hid hj0
                clear hxw hX hmore hjoin hbound hj0 h0 q9 hbw HJ
                go_wp2_with fail
                refine c9'.mono ?_
                rintro e w3 ⟨y, rfl, hy, b3⟩
                obtain rfl : y = X := bytes_inj (by rw [hy]; exact trim_word HXW.out)
                have hbeq := str_beq y y
                rw [decide_eq_true rfl] at hbeq
                have HB3 := Lib.hid (HBW.out.trans (b3.mono HBW.out.size))
                clear hy b3 c9'
                go_wp2_with fail
                go_roundg (gk - 1)
                case measure => omega
                case rel => exact ⟨k + 1, _, rfl, by go_num, HB3.out, by omega, by omega, HJ2, by rw [← len_list, HJ2.out]; exact HBD.out⟩
              · have hk0 : 0 < (k : Int) := by omega
                rw [if_neg h0] at hjoin
                have hj0 : ((j ++ ⟨#[32]⟩) ++ X).data.toList = join ((ws.map (·.data.toList)).take (k + 1)) := by
                  rw [hjoin, list_app, list_app, HJ.out]
                  simp
                have HJ2 := Lib.hid hj0
                clear hxw hX hmore hjoin hbound hj0 h0 q9 hbw HJ
                go_wp2_with fail
                refine c9'.mono ?_
                rintro e w3 ⟨y, rfl, hy, b3⟩
                obtain rfl : y = X := bytes_inj (by rw [hy]; exact trim_word HXW.out)
                have hbeq := str_beq y y
                rw [decide_eq_true rfl] at hbeq
                have HB3 := Lib.hid (HBW.out.trans (b3.mono HBW.out.size))
                clear hy b3 c9'
                go_wp2_with fail
                go_roundg (gk - 1)
                case measure => omega
                case rel => exact ⟨k + 1, _, rfl, by go_num, HB3.out, by omega, by omega, HJ2, by rw [← len_list, HJ2.out]; exact HBD.out⟩
            · have hkm' : ¬ (k : Int) < (m : Int) := by omega
              have hjw : wordsL j.data.toList = wordsL s.data.toList := by
                rw [HJ.out, List.take_of_length_le (by rw [List.length_map, HM.out]; omega), H2.out]
                exact words_join _ (fun y hy => words_word hy)
              have HJW := Lib.hid hjw
              have D3 := Lib.hid (D2.out.trans (hbw.mono D2.out.size))
              have T3 := Lib.hid (show Texts wr (.slice a9 m c9) ws from by
                have := T2.out.below hbw
                rwa [HM.out] at this)
              have c5 := trim_any s wr (by omega) (tabs_below HT.out D3.out hl)
              clear hbw hjw T2 HJ
              go_wp2_with fail
              refine c5.mono ?_
              rintro e w3 ⟨t, rfl, ht, b3⟩
              have HTT := Lib.hid ht
              have htz : t.size ≤ 1048576 := by
                have h1 := congrArg List.length ht
                have h2 := trim_len s.data.toList
                rw [len_list] at h1 h2
                omega
              have D4 := Lib.hid (D3.out.trans (b3.mono D3.out.size))
              have T4 := Lib.hid (T3.out.below b3)
              clear ht b3 c5 T3
              go_wp2_with fail
              refine (words_any j w3 (by omega)).mono ?_
              rintro e w4 ⟨v5, w5, rfl, h5, t5, b5⟩
              obtain rfl : w5 = ws := h5.uniq H2.out HJW.out
              have T5 := Lib.hid t5
              have T6 := Lib.hid (T4.out.below b5)
              have D5 := Lib.hid (D4.out.trans (b5.mono D4.out.size))
              clear h5 t5 b5 T4
              go_wp2_with fail
              refine (sameTexts_any v5 _ w5 w5 w4 T5.out T6.out).mono ?_
              rintro e w6 ⟨rfl, b6⟩
              rw [show decide (w5 = w5) = true from decide_eq_true rfl]
              have D6 := Lib.hid (D5.out.trans (b6.mono D5.out.size))
              have T7 := Lib.hid (T6.out.below b6)
              clear b6 T5 T6
              go_wp2_with fail
              refine (trim_any t w6 (by omega) (tabs_below HT.out D6.out hl)).mono ?_
              rintro e w7 ⟨y, rfl, hy, b7⟩
              obtain rfl : y = t := bytes_inj (by rw [hy, HTT.out]; exact trim_trim _)
              have hbeq := str_beq y y
              rw [decide_eq_true rfl] at hbeq
              have D7 := Lib.hid (D6.out.trans (b7.mono D6.out.size))
              have T8 := Lib.hid (T7.out.below b7)
              clear hy b7 T7
              go_wp2_with fail
              refine (words_any y w7 (by omega)).mono ?_
              rintro e w8 ⟨v8, w9, rfl, h8, t8, b8⟩
              obtain rfl : w9 = w5 := h8.uniq H2.out (by rw [HTT.out]; exact words_trim _)
              have T9 := Lib.hid (T8.out.below b8)
              have T10 := Lib.hid t8
              have D8 := Lib.hid (D7.out.trans (b8.mono D7.out.size))
              clear h8 t8 b8 T8
              go_wp2_with fail
              refine (sameTexts_any v8 _ w9 w9 w8 T10.out T9.out).mono ?_
              rintro e w10 ⟨rfl, b10⟩
              rw [show decide (w9 = w9) = true from decide_eq_true rfl]
              have D9 := Lib.hid (D8.out.trans (b10.mono D8.out.size))
              clear b10 T9 T10
              go_wp2_with fail
              refine (awake_any w10 (tabs_below HT.out D9.out hl)).mono ?_
              rintro e w11 ⟨rfl, b11⟩
              have D10 := Lib.hid (D9.out.trans (b11.mono D9.out.size))
              clear b11
              go_wp2_with fail
              go_ret
              exact ⟨rfl, D10.out⟩
        · obtain rfl : t = S := bytes_inj (by rw [hall, h6])
          have hS0 : 0 < t.size := by rw [← len_list, h5]; simp
          have hS0' : 0 < (t.size : Int) := by omega
          obtain ⟨z, rfl⟩ : ∃ z, len = z + 1 := ⟨len - 1, by omega⟩
          have hb10 : b t z = 10 := last_b h5 hsz
          have hbz := b_eq t z (by omega)
          rw [hb10] at hbz
          have hbeq := str_beq t t
          rw [decide_eq_true rfl] at hbeq
          clear h5 h6 hall HF hb10
          go_wp2_with fail
          refine (words_any s _ (by omega)).mono ?_
          rintro e w2 ⟨v11, ws, rfl, h2, t2, b2⟩
          have H2 := Lib.hid h2
          have T2 := Lib.hid t2
          have D2 := Lib.hid (DW.out.trans (b2.mono DW.out.size))
          have hok : ∀ i, i < ws.length → Word (ws.getD i ByteArray.empty).data.toList ∧ (ws.getD i ByteArray.empty).size ≤ 1048576 := fun i hi => by
            have := h2.word hi
            exact ⟨this.1, by omega⟩
          have htot : tot (ws.map (·.data.toList)) ≤ 1048577 := by
            rw [h2]
            have := go_tot s.data.toList []
            rw [len_list] at this
            unfold wordsL
            simp at this; omega
          have HOK := Lib.hid hok
          have HTOT := Lib.hid htot
          obtain ⟨_, a9, c9, rfl, hc9, p9⟩ := t2
          have P9 := Lib.hid p9
          obtain ⟨m, hmw⟩ : ∃ m, ws.length = m := ⟨_, rfl⟩
          have HM := Lib.hid hmw
          rw [hmw] at hc9 P9 HOK ⊢
          have hm2 : m ≤ 1048576 := by have := h2.le; omega
          clear h2 b2 hok htot p9 hmw
          go_wp2_with fail
          go_loopg [12, 57] m (fun gf s12 s57 wx => ∃ (k : Nat) (j : ByteArray), s12 = .string j ∧ s57 = .int .i64 k ∧ Below w2.heap.size w2 wx ∧ k ≤ m ∧ m ≤ k + gf ∧ Hid (j.data.toList = join ((ws.map (·.data.toList)).take k)) ∧ j.size ≤ 1048577)
          case atStart => exact ⟨0, _, rfl, rfl, Below.refl _ _, by omega, by omega, rfl, by decide⟩
          case round =>
            obtain ⟨k, j, rfl, rfl, hbw, hk1, hk2, HJ, hjs⟩ := hrel
            have HBW := Lib.hid hbw
            by_cases hkm : k < m
            · have hkm' : (k : Int) < (m : Int) := by omega
              obtain ⟨blk, off, rfl, q9⟩ := P9.out (by omega)
              have x1 := q9 k hkm
              rw [← hbw.cell (lt_cell x1)] at x1
              obtain ⟨hxw, hxz⟩ := HOK.out k hkm
              have hmore := take_more (ls := ws) (k := k) (by rw [HM.out]; exact hkm)
              obtain ⟨X, hX⟩ : ∃ X, ws.getD k ByteArray.empty = X := ⟨_, rfl⟩
              rw [hX] at x1 hxw hxz hmore
              have HXW := Lib.hid hxw
              have hX0 : 0 < X.size := by
                rw [← len_list]
                exact List.length_pos_iff.2 hxw.1
              have hX0' : ¬ ((X.size : Int) = 0) := by omega
              have hX0'' : ((X.size : Int) == 0) = false := beq_eq_false_iff_ne.2 hX0'
              have hjoin : join ((ws.map (·.data.toList)).take (k + 1)) = if k = 0 then X.data.toList else join ((ws.map (·.data.toList)).take k) ++ 32 :: X.data.toList := by
                rw [hmore, join_snoc]
                by_cases h0 : k = 0
                · subst h0; rfl
                · rw [if_neg h0, if_neg (by
                    intro e
                    have := congrArg List.length e
                    rw [List.length_take, List.length_map, HM.out, List.length_nil] at this
                    omega)]
              have hbound : (join ((ws.map (·.data.toList)).take (k + 1))).length ≤ 1048577 := Nat.le_trans (join_tot _) (Nat.le_trans (take_tot _ _) HTOT.out)
              have HBD := Lib.hid hbound
              have D3 := Lib.hid (D2.out.trans (hbw.mono D2.out.size))
              have c9' := trim_any X wr (by omega) (tabs_below HT.out D3.out hl)
              by_cases h0 : k = 0
              · have hk0 : ¬ 0 < (k : Int) := by omega
                rw [if_pos h0] at hjoin
                have hj0 : (j ++ X).data.toList = join ((ws.map (·.data.toList)).take (k + 1)) := by
                  rw [hjoin, list_app, HJ.out, h0]
                  rfl
                have HJ2 := Lib.hid hj0
                clear hxw hX hmore hjoin hbound hj0 h0 q9 hbw HJ
                go_wp2_with fail
                refine c9'.mono ?_
                rintro e w3 ⟨y, rfl, hy, b3⟩
                obtain rfl : y = X := bytes_inj (by rw [hy]; exact trim_word HXW.out)
                have hbeq := str_beq y y
                rw [decide_eq_true rfl] at hbeq
                have HB3 := Lib.hid (HBW.out.trans (b3.mono HBW.out.size))
                clear hy b3 c9'
                go_wp2_with fail
                go_roundg (gk - 1)
                case measure => omega
                case rel => exact ⟨k + 1, _, rfl, by go_num, HB3.out, by omega, by omega, HJ2, by rw [← len_list, HJ2.out]; exact HBD.out⟩
              · have hk0 : 0 < (k : Int) := by omega
                rw [if_neg h0] at hjoin
                have hj0 : ((j ++ ⟨#[32]⟩) ++ X).data.toList = join ((ws.map (·.data.toList)).take (k + 1)) := by
                  rw [hjoin, list_app, list_app, HJ.out]
                  simp
                have HJ2 := Lib.hid hj0
                clear hxw hX hmore hjoin hbound hj0 h0 q9 hbw HJ
                go_wp2_with fail
                refine c9'.mono ?_
                rintro e w3 ⟨y, rfl, hy, b3⟩
                obtain rfl : y = X := bytes_inj (by rw [hy]; exact trim_word HXW.out)
                have hbeq := str_beq y y
                rw [decide_eq_true rfl] at hbeq
                have HB3 := Lib.hid (HBW.out.trans (b3.mono HBW.out.size))
                clear hy b3 c9'
                go_wp2_with fail
                go_roundg (gk - 1)
                case measure => omega
                case rel => exact ⟨k + 1, _, rfl, by go_num, HB3.out, by omega, by omega, HJ2, by rw [← len_list, HJ2.out]; exact HBD.out⟩
            · have hkm' : ¬ (k : Int) < (m : Int) := by omega
              have hjw : wordsL j.data.toList = wordsL s.data.toList := by
                rw [HJ.out, List.take_of_length_le (by rw [List.length_map, HM.out]; omega), H2.out]
                exact words_join _ (fun y hy => words_word hy)
              have HJW := Lib.hid hjw
              have D3 := Lib.hid (D2.out.trans (hbw.mono D2.out.size))
              have T3 := Lib.hid (show Texts wr (.slice a9 m c9) ws from by
                have := T2.out.below hbw
                rwa [HM.out] at this)
              have c5 := trim_any s wr (by omega) (tabs_below HT.out D3.out hl)
              clear hbw hjw T2 HJ
              go_wp2_with fail
              refine c5.mono ?_
              rintro e w3 ⟨t, rfl, ht, b3⟩
              have HTT := Lib.hid ht
              have htz : t.size ≤ 1048576 := by
                have h1 := congrArg List.length ht
                have h2 := trim_len s.data.toList
                rw [len_list] at h1 h2
                omega
              have D4 := Lib.hid (D3.out.trans (b3.mono D3.out.size))
              have T4 := Lib.hid (T3.out.below b3)
              clear ht b3 c5 T3
              go_wp2_with fail
              refine (words_any j w3 (by omega)).mono ?_
              rintro e w4 ⟨v5, w5, rfl, h5, t5, b5⟩
              obtain rfl : w5 = ws := h5.uniq H2.out HJW.out
              have T5 := Lib.hid t5
              have T6 := Lib.hid (T4.out.below b5)
              have D5 := Lib.hid (D4.out.trans (b5.mono D4.out.size))
              clear h5 t5 b5 T4
              go_wp2_with fail
              refine (sameTexts_any v5 _ w5 w5 w4 T5.out T6.out).mono ?_
              rintro e w6 ⟨rfl, b6⟩
              rw [show decide (w5 = w5) = true from decide_eq_true rfl]
              have D6 := Lib.hid (D5.out.trans (b6.mono D5.out.size))
              have T7 := Lib.hid (T6.out.below b6)
              clear b6 T5 T6
              go_wp2_with fail
              refine (trim_any t w6 (by omega) (tabs_below HT.out D6.out hl)).mono ?_
              rintro e w7 ⟨y, rfl, hy, b7⟩
              obtain rfl : y = t := bytes_inj (by rw [hy, HTT.out]; exact trim_trim _)
              have hbeq := str_beq y y
              rw [decide_eq_true rfl] at hbeq
              have D7 := Lib.hid (D6.out.trans (b7.mono D6.out.size))
              have T8 := Lib.hid (T7.out.below b7)
              clear hy b7 T7
              go_wp2_with fail
              refine (words_any y w7 (by omega)).mono ?_
              rintro e w8 ⟨v8, w9, rfl, h8, t8, b8⟩
              obtain rfl : w9 = w5 := h8.uniq H2.out (by rw [HTT.out]; exact words_trim _)
              have T9 := Lib.hid (T8.out.below b8)
              have T10 := Lib.hid t8
              have D8 := Lib.hid (D7.out.trans (b8.mono D7.out.size))
              clear h8 t8 b8 T8
              go_wp2_with fail
              refine (sameTexts_any v8 _ w9 w9 w8 T10.out T9.out).mono ?_
              rintro e w10 ⟨rfl, b10⟩
              rw [show decide (w9 = w9) = true from decide_eq_true rfl]
              have D9 := Lib.hid (D8.out.trans (b10.mono D8.out.size))
              clear b10 T9 T10
              go_wp2_with fail
              refine (awake_any w10 (tabs_below HT.out D9.out hl)).mono ?_
              rintro e w11 ⟨rfl, b11⟩
              have D10 := Lib.hid (D9.out.trans (b11.mono D9.out.size))
              clear b11
              go_wp2_with fail
              go_ret
              exact ⟨rfl, D10.out⟩
        · have hS0 : 0 < S.size := by rw [← len_list, h5]; simp
          have hS0' : 0 < (S.size : Int) := by omega
          obtain rfl : t = S ++ ⟨#[10]⟩ := bytes_inj (by rw [hall, h7, list_app])
          obtain ⟨z, rfl⟩ : ∃ z, len = z + 1 := ⟨len - 1, by omega⟩
          have hbc : b S z = c.toNat := last_b h5 hsz
          have hbz := b_eq S z (by omega)
          have hbl := b_lt S z
          have hb10 : ¬ (b S z = 10) := fun e => h6 (UInt8.toNat_inj.1 (by rw [← hbc, e]; rfl))
          obtain ⟨y, hy⟩ : ∃ y, b S z = y := ⟨_, rfl⟩
          rw [hy] at hbz hb10 hbl
          have hb10' : ((y : Int) != 10) = true := by simp; omega
          have hbeq := str_beq (S ++ ⟨#[10]⟩) (S ++ ⟨#[10]⟩)
          rw [decide_eq_true rfl] at hbeq
          clear h5 h6 h7 hall HF hbc hy
          go_wp2_with fail
          refine (words_any s _ (by omega)).mono ?_
          rintro e w2 ⟨v11, ws, rfl, h2, t2, b2⟩
          have H2 := Lib.hid h2
          have T2 := Lib.hid t2
          have D2 := Lib.hid (DW.out.trans (b2.mono DW.out.size))
          have hok : ∀ i, i < ws.length → Word (ws.getD i ByteArray.empty).data.toList ∧ (ws.getD i ByteArray.empty).size ≤ 1048576 := fun i hi => by
            have := h2.word hi
            exact ⟨this.1, by omega⟩
          have htot : tot (ws.map (·.data.toList)) ≤ 1048577 := by
            rw [h2]
            have := go_tot s.data.toList []
            rw [len_list] at this
            unfold wordsL
            simp at this; omega
          have HOK := Lib.hid hok
          have HTOT := Lib.hid htot
          obtain ⟨_, a9, c9, rfl, hc9, p9⟩ := t2
          have P9 := Lib.hid p9
          obtain ⟨m, hmw⟩ : ∃ m, ws.length = m := ⟨_, rfl⟩
          have HM := Lib.hid hmw
          rw [hmw] at hc9 P9 HOK ⊢
          have hm2 : m ≤ 1048576 := by have := h2.le; omega
          clear h2 b2 hok htot p9 hmw
          go_wp2_with fail
          go_loopg [12, 57] m (fun gf s12 s57 wx => ∃ (k : Nat) (j : ByteArray), s12 = .string j ∧ s57 = .int .i64 k ∧ Below w2.heap.size w2 wx ∧ k ≤ m ∧ m ≤ k + gf ∧ Hid (j.data.toList = join ((ws.map (·.data.toList)).take k)) ∧ j.size ≤ 1048577)
          case atStart => exact ⟨0, _, rfl, rfl, Below.refl _ _, by omega, by omega, rfl, by decide⟩
          case round =>
            obtain ⟨k, j, rfl, rfl, hbw, hk1, hk2, HJ, hjs⟩ := hrel
            have HBW := Lib.hid hbw
            by_cases hkm : k < m
            · have hkm' : (k : Int) < (m : Int) := by omega
              obtain ⟨blk, off, rfl, q9⟩ := P9.out (by omega)
              have x1 := q9 k hkm
              rw [← hbw.cell (lt_cell x1)] at x1
              obtain ⟨hxw, hxz⟩ := HOK.out k hkm
              have hmore := take_more (ls := ws) (k := k) (by rw [HM.out]; exact hkm)
              obtain ⟨X, hX⟩ : ∃ X, ws.getD k ByteArray.empty = X := ⟨_, rfl⟩
              rw [hX] at x1 hxw hxz hmore
              have HXW := Lib.hid hxw
              have hX0 : 0 < X.size := by
                rw [← len_list]
                exact List.length_pos_iff.2 hxw.1
              have hX0' : ¬ ((X.size : Int) = 0) := by omega
              have hX0'' : ((X.size : Int) == 0) = false := beq_eq_false_iff_ne.2 hX0'
              have hjoin : join ((ws.map (·.data.toList)).take (k + 1)) = if k = 0 then X.data.toList else join ((ws.map (·.data.toList)).take k) ++ 32 :: X.data.toList := by
                rw [hmore, join_snoc]
                by_cases h0 : k = 0
                · subst h0; rfl
                · rw [if_neg h0, if_neg (by
                    intro e
                    have := congrArg List.length e
                    rw [List.length_take, List.length_map, HM.out, List.length_nil] at this
                    omega)]
              have hbound : (join ((ws.map (·.data.toList)).take (k + 1))).length ≤ 1048577 := Nat.le_trans (join_tot _) (Nat.le_trans (take_tot _ _) HTOT.out)
              have HBD := Lib.hid hbound
              have D3 := Lib.hid (D2.out.trans (hbw.mono D2.out.size))
              have c9' := trim_any X wr (by omega) (tabs_below HT.out D3.out hl)
              by_cases h0 : k = 0
              · have hk0 : ¬ 0 < (k : Int) := by omega
                rw [if_pos h0] at hjoin
                have hj0 : (j ++ X).data.toList = join ((ws.map (·.data.toList)).take (k + 1)) := by
                  rw [hjoin, list_app, HJ.out, h0]
                  rfl
                have HJ2 := Lib.hid hj0
                clear hxw hX hmore hjoin hbound hj0 h0 q9 hbw HJ
                go_wp2_with fail
                refine c9'.mono ?_
                rintro e w3 ⟨y, rfl, hy, b3⟩
                obtain rfl : y = X := bytes_inj (by rw [hy]; exact trim_word HXW.out)
                have hbeq := str_beq y y
                rw [decide_eq_true rfl] at hbeq
                have HB3 := Lib.hid (HBW.out.trans (b3.mono HBW.out.size))
                clear hy b3 c9'
                go_wp2_with fail
                go_roundg (gk - 1)
                case measure => omega
                case rel => exact ⟨k + 1, _, rfl, by go_num, HB3.out, by omega, by omega, HJ2, by rw [← len_list, HJ2.out]; exact HBD.out⟩
              · have hk0 : 0 < (k : Int) := by omega
                rw [if_neg h0] at hjoin
                have hj0 : ((j ++ ⟨#[32]⟩) ++ X).data.toList = join ((ws.map (·.data.toList)).take (k + 1)) := by
                  rw [hjoin, list_app, list_app, HJ.out]
                  simp
                have HJ2 := Lib.hid hj0
                clear hxw hX hmore hjoin hbound hj0 h0 q9 hbw HJ
                go_wp2_with fail
                refine c9'.mono ?_
                rintro e w3 ⟨y, rfl, hy, b3⟩
                obtain rfl : y = X := bytes_inj (by rw [hy]; exact trim_word HXW.out)
                have hbeq := str_beq y y
                rw [decide_eq_true rfl] at hbeq
                have HB3 := Lib.hid (HBW.out.trans (b3.mono HBW.out.size))
                clear hy b3 c9'
                go_wp2_with fail
                go_roundg (gk - 1)
                case measure => omega
                case rel => exact ⟨k + 1, _, rfl, by go_num, HB3.out, by omega, by omega, HJ2, by rw [← len_list, HJ2.out]; exact HBD.out⟩
            · have hkm' : ¬ (k : Int) < (m : Int) := by omega
              have hjw : wordsL j.data.toList = wordsL s.data.toList := by
                rw [HJ.out, List.take_of_length_le (by rw [List.length_map, HM.out]; omega), H2.out]
                exact words_join _ (fun y hy => words_word hy)
              have HJW := Lib.hid hjw
              have D3 := Lib.hid (D2.out.trans (hbw.mono D2.out.size))
              have T3 := Lib.hid (show Texts wr (.slice a9 m c9) ws from by
                have := T2.out.below hbw
                rwa [HM.out] at this)
              have c5 := trim_any s wr (by omega) (tabs_below HT.out D3.out hl)
              clear hbw hjw T2 HJ
              go_wp2_with fail
              refine c5.mono ?_
              rintro e w3 ⟨t, rfl, ht, b3⟩
              have HTT := Lib.hid ht
              have htz : t.size ≤ 1048576 := by
                have h1 := congrArg List.length ht
                have h2 := trim_len s.data.toList
                rw [len_list] at h1 h2
                omega
              have D4 := Lib.hid (D3.out.trans (b3.mono D3.out.size))
              have T4 := Lib.hid (T3.out.below b3)
              clear ht b3 c5 T3
              go_wp2_with fail
              refine (words_any j w3 (by omega)).mono ?_
              rintro e w4 ⟨v5, w5, rfl, h5, t5, b5⟩
              obtain rfl : w5 = ws := h5.uniq H2.out HJW.out
              have T5 := Lib.hid t5
              have T6 := Lib.hid (T4.out.below b5)
              have D5 := Lib.hid (D4.out.trans (b5.mono D4.out.size))
              clear h5 t5 b5 T4
              go_wp2_with fail
              refine (sameTexts_any v5 _ w5 w5 w4 T5.out T6.out).mono ?_
              rintro e w6 ⟨rfl, b6⟩
              rw [show decide (w5 = w5) = true from decide_eq_true rfl]
              have D6 := Lib.hid (D5.out.trans (b6.mono D5.out.size))
              have T7 := Lib.hid (T6.out.below b6)
              clear b6 T5 T6
              go_wp2_with fail
              refine (trim_any t w6 (by omega) (tabs_below HT.out D6.out hl)).mono ?_
              rintro e w7 ⟨y, rfl, hy, b7⟩
              obtain rfl : y = t := bytes_inj (by rw [hy, HTT.out]; exact trim_trim _)
              have hbeq := str_beq y y
              rw [decide_eq_true rfl] at hbeq
              have D7 := Lib.hid (D6.out.trans (b7.mono D6.out.size))
              have T8 := Lib.hid (T7.out.below b7)
              clear hy b7 T7
              go_wp2_with fail
              refine (words_any y w7 (by omega)).mono ?_
              rintro e w8 ⟨v8, w9, rfl, h8, t8, b8⟩
              obtain rfl : w9 = w5 := h8.uniq H2.out (by rw [HTT.out]; exact words_trim _)
              have T9 := Lib.hid (T8.out.below b8)
              have T10 := Lib.hid t8
              have D8 := Lib.hid (D7.out.trans (b8.mono D7.out.size))
              clear h8 t8 b8 T8
              go_wp2_with fail
              refine (sameTexts_any v8 _ w9 w9 w8 T10.out T9.out).mono ?_
              rintro e w10 ⟨rfl, b10⟩
              rw [show decide (w9 = w9) = true from decide_eq_true rfl]
              have D9 := Lib.hid (D8.out.trans (b10.mono D8.out.size))
              clear b10 T9 T10
              go_wp2_with fail
              refine (awake_any w10 (tabs_below HT.out D9.out hl)).mono ?_
              rintro e w11 ⟨rfl, b11⟩
              have D10 := Lib.hid (D9.out.trans (b11.mono D9.out.size))
              clear b11
              go_wp2_with fail
              go_ret
              exact ⟨rfl, D10.out⟩
  · have he' : ¬ ((er : Int) = 0) := by omega
    have he2 : ((er : Int) == 0) = false := beq_eq_false_iff_ne.2 he'
    have DW := Lib.hid (B1.out.alloc B1.out.size (.cells #[.int .i64 er, .int .i64 n] 29))
    clear h1 t1 b1 c1 hr H1 T1
    go_wp2_with fail
    refine (words_any s _ (by omega)).mono ?_
    rintro e w2 ⟨v11, ws, rfl, h2, t2, b2⟩
    have H2 := Lib.hid h2
    have T2 := Lib.hid t2
    have D2 := Lib.hid (DW.out.trans (b2.mono DW.out.size))
    have hok : ∀ i, i < ws.length → Word (ws.getD i ByteArray.empty).data.toList ∧ (ws.getD i ByteArray.empty).size ≤ 1048576 := fun i hi => by
      have := h2.word hi
      exact ⟨this.1, by omega⟩
    have htot : tot (ws.map (·.data.toList)) ≤ 1048577 := by
      rw [h2]
      have := go_tot s.data.toList []
      rw [len_list] at this
      unfold wordsL
      simp at this; omega
    have HOK := Lib.hid hok
    have HTOT := Lib.hid htot
    obtain ⟨_, a9, c9, rfl, hc9, p9⟩ := t2
    have P9 := Lib.hid p9
    obtain ⟨m, hmw⟩ : ∃ m, ws.length = m := ⟨_, rfl⟩
    have HM := Lib.hid hmw
    rw [hmw] at hc9 P9 HOK ⊢
    have hm2 : m ≤ 1048576 := by have := h2.le; omega
    clear h2 b2 hok htot p9 hmw
    go_wp2_with fail
    go_loopg [12, 57] m (fun gf s12 s57 wx => ∃ (k : Nat) (j : ByteArray), s12 = .string j ∧ s57 = .int .i64 k ∧ Below w2.heap.size w2 wx ∧ k ≤ m ∧ m ≤ k + gf ∧ Hid (j.data.toList = join ((ws.map (·.data.toList)).take k)) ∧ j.size ≤ 1048577)
    case atStart => exact ⟨0, _, rfl, rfl, Below.refl _ _, by omega, by omega, rfl, by decide⟩
    case round =>
      obtain ⟨k, j, rfl, rfl, hbw, hk1, hk2, HJ, hjs⟩ := hrel
      have HBW := Lib.hid hbw
      by_cases hkm : k < m
      · have hkm' : (k : Int) < (m : Int) := by omega
        obtain ⟨blk, off, rfl, q9⟩ := P9.out (by omega)
        have x1 := q9 k hkm
        rw [← hbw.cell (lt_cell x1)] at x1
        obtain ⟨hxw, hxz⟩ := HOK.out k hkm
        have hmore := take_more (ls := ws) (k := k) (by rw [HM.out]; exact hkm)
        obtain ⟨X, hX⟩ : ∃ X, ws.getD k ByteArray.empty = X := ⟨_, rfl⟩
        rw [hX] at x1 hxw hxz hmore
        have HXW := Lib.hid hxw
        have hX0 : 0 < X.size := by
          rw [← len_list]
          exact List.length_pos_iff.2 hxw.1
        have hX0' : ¬ ((X.size : Int) = 0) := by omega
        have hX0'' : ((X.size : Int) == 0) = false := beq_eq_false_iff_ne.2 hX0'
        have hjoin : join ((ws.map (·.data.toList)).take (k + 1)) = if k = 0 then X.data.toList else join ((ws.map (·.data.toList)).take k) ++ 32 :: X.data.toList := by
          rw [hmore, join_snoc]
          by_cases h0 : k = 0
          · subst h0; rfl
          · rw [if_neg h0, if_neg (by
              intro e
              have := congrArg List.length e
              rw [List.length_take, List.length_map, HM.out, List.length_nil] at this
              omega)]
        have hbound : (join ((ws.map (·.data.toList)).take (k + 1))).length ≤ 1048577 := Nat.le_trans (join_tot _) (Nat.le_trans (take_tot _ _) HTOT.out)
        have HBD := Lib.hid hbound
        have D3 := Lib.hid (D2.out.trans (hbw.mono D2.out.size))
        have c9' := trim_any X wr (by omega) (tabs_below HT.out D3.out hl)
        by_cases h0 : k = 0
        · have hk0 : ¬ 0 < (k : Int) := by omega
          rw [if_pos h0] at hjoin
          have hj0 : (j ++ X).data.toList = join ((ws.map (·.data.toList)).take (k + 1)) := by
            rw [hjoin, list_app, HJ.out, h0]
            rfl
          have HJ2 := Lib.hid hj0
          clear hxw hX hmore hjoin hbound hj0 h0 q9 hbw HJ
          go_wp2_with fail
          refine c9'.mono ?_
          rintro e w3 ⟨y, rfl, hy, b3⟩
          obtain rfl : y = X := bytes_inj (by rw [hy]; exact trim_word HXW.out)
          have hbeq := str_beq y y
          rw [decide_eq_true rfl] at hbeq
          have HB3 := Lib.hid (HBW.out.trans (b3.mono HBW.out.size))
          clear hy b3 c9'
          go_wp2_with fail
          go_roundg (gk - 1)
          case measure => omega
          case rel => exact ⟨k + 1, _, rfl, by go_num, HB3.out, by omega, by omega, HJ2, by rw [← len_list, HJ2.out]; exact HBD.out⟩
        · have hk0 : 0 < (k : Int) := by omega
          rw [if_neg h0] at hjoin
          have hj0 : ((j ++ ⟨#[32]⟩) ++ X).data.toList = join ((ws.map (·.data.toList)).take (k + 1)) := by
            rw [hjoin, list_app, list_app, HJ.out]
            simp
          have HJ2 := Lib.hid hj0
          clear hxw hX hmore hjoin hbound hj0 h0 q9 hbw HJ
          go_wp2_with fail
          refine c9'.mono ?_
          rintro e w3 ⟨y, rfl, hy, b3⟩
          obtain rfl : y = X := bytes_inj (by rw [hy]; exact trim_word HXW.out)
          have hbeq := str_beq y y
          rw [decide_eq_true rfl] at hbeq
          have HB3 := Lib.hid (HBW.out.trans (b3.mono HBW.out.size))
          clear hy b3 c9'
          go_wp2_with fail
          go_roundg (gk - 1)
          case measure => omega
          case rel => exact ⟨k + 1, _, rfl, by go_num, HB3.out, by omega, by omega, HJ2, by rw [← len_list, HJ2.out]; exact HBD.out⟩
      · have hkm' : ¬ (k : Int) < (m : Int) := by omega
        have hjw : wordsL j.data.toList = wordsL s.data.toList := by
          rw [HJ.out, List.take_of_length_le (by rw [List.length_map, HM.out]; omega), H2.out]
          exact words_join _ (fun y hy => words_word hy)
        have HJW := Lib.hid hjw
        have D3 := Lib.hid (D2.out.trans (hbw.mono D2.out.size))
        have T3 := Lib.hid (show Texts wr (.slice a9 m c9) ws from by
          have := T2.out.below hbw
          rwa [HM.out] at this)
        have c5 := trim_any s wr (by omega) (tabs_below HT.out D3.out hl)
        clear hbw hjw T2 HJ
        go_wp2_with fail
        refine c5.mono ?_
        rintro e w3 ⟨t, rfl, ht, b3⟩
        have HTT := Lib.hid ht
        have htz : t.size ≤ 1048576 := by
          have h1 := congrArg List.length ht
          have h2 := trim_len s.data.toList
          rw [len_list] at h1 h2
          omega
        have D4 := Lib.hid (D3.out.trans (b3.mono D3.out.size))
        have T4 := Lib.hid (T3.out.below b3)
        clear ht b3 c5 T3
        go_wp2_with fail
        refine (words_any j w3 (by omega)).mono ?_
        rintro e w4 ⟨v5, w5, rfl, h5, t5, b5⟩
        obtain rfl : w5 = ws := h5.uniq H2.out HJW.out
        have T5 := Lib.hid t5
        have T6 := Lib.hid (T4.out.below b5)
        have D5 := Lib.hid (D4.out.trans (b5.mono D4.out.size))
        clear h5 t5 b5 T4
        go_wp2_with fail
        refine (sameTexts_any v5 _ w5 w5 w4 T5.out T6.out).mono ?_
        rintro e w6 ⟨rfl, b6⟩
        rw [show decide (w5 = w5) = true from decide_eq_true rfl]
        have D6 := Lib.hid (D5.out.trans (b6.mono D5.out.size))
        have T7 := Lib.hid (T6.out.below b6)
        clear b6 T5 T6
        go_wp2_with fail
        refine (trim_any t w6 (by omega) (tabs_below HT.out D6.out hl)).mono ?_
        rintro e w7 ⟨y, rfl, hy, b7⟩
        obtain rfl : y = t := bytes_inj (by rw [hy, HTT.out]; exact trim_trim _)
        have hbeq := str_beq y y
        rw [decide_eq_true rfl] at hbeq
        have D7 := Lib.hid (D6.out.trans (b7.mono D6.out.size))
        have T8 := Lib.hid (T7.out.below b7)
        clear hy b7 T7
        go_wp2_with fail
        refine (words_any y w7 (by omega)).mono ?_
        rintro e w8 ⟨v8, w9, rfl, h8, t8, b8⟩
        obtain rfl : w9 = w5 := h8.uniq H2.out (by rw [HTT.out]; exact words_trim _)
        have T9 := Lib.hid (T8.out.below b8)
        have T10 := Lib.hid t8
        have D8 := Lib.hid (D7.out.trans (b8.mono D7.out.size))
        clear h8 t8 b8 T8
        go_wp2_with fail
        refine (sameTexts_any v8 _ w9 w9 w8 T10.out T9.out).mono ?_
        rintro e w10 ⟨rfl, b10⟩
        rw [show decide (w9 = w9) = true from decide_eq_true rfl]
        have D9 := Lib.hid (D8.out.trans (b10.mono D8.out.size))
        clear b10 T9 T10
        go_wp2_with fail
        refine (awake_any w10 (tabs_below HT.out D9.out hl)).mono ?_
        rintro e w11 ⟨rfl, b11⟩
        have D10 := Lib.hid (D9.out.trans (b11.mono D9.out.size))
        clear b11
        go_wp2_with fail
        go_ret
        exact ⟨rfl, D10.out⟩
end Txt
end Go.Proofs.YtnhacikpkchfjaaDoor

/-
The contract of the reference's Words.
-/
import Derived.Test.YtnhacikpkchfjaaDoorWordsK
namespace Go.Proofs.YtnhacikpkchfjaaDoor
open Go.RowKit
set_option linter.unusedVariables false
set_option linter.unusedSimpArgs false
namespace Txt
theorem go_word {x l : List UInt8} (h : Black x) (hx : x ≠ []) (hl : l = [] ∨ ∃ c r, l = c :: r ∧ W c = true) : go [] (x ++ l) = x :: go [] l := by
  rw [go_plain h, List.nil_append]
  rcases hl with rfl | ⟨c, r, rfl, hc⟩
  · rw [go_nil]; unfold close; rw [if_neg hx]; rfl
  · rw [go_white hc, go_white hc]; unfold close; rw [if_neg hx]; rfl
theorem new_cell (w : World) (v : Value) (t : TypeId) : (w.alloc (.cells #[v] t)).cell? ((⟨w.heap.size, 0, none⟩ : Addr).add 0) = some v := by simp [Addr.add]
set_option maxRecDepth 100000 in
set_option maxHeartbeats 4000000 in
theorem ywords_any (s : ByteArray) (w : World) (hs : s.size ≤ 4294967296) :
    Calls Tryd.prog 19 #[.string s] w fun e w' => ∃ v ls, e = .returned v ∧ WordsOf s ls ∧ Texts w' v ls ∧ Below w.heap.size w w' := by
  obtain ⟨M, hM⟩ : ∃ M, wordsL s.data.toList = M := ⟨_, rfl⟩
  have HM := Lib.hid hM
  clear hM
  go_enter Tryd.func19, Tryd.ntmps19
  go_wp2_with fail
  go_loopg [3, 4, 5] s.size (fun gf s3 s4 s5 wx => ∃ (pos : Nat) (ls : List ByteArray), s4 = .int .i64 pos ∧ wx.ownsRow w.heap.size 9 1 s3 ls.length (ls.map Value.string) ∧ Below w.heap.size w wx ∧ Hid (ls.map (·.data.toList) ++ go [] (s.data.toList.drop pos) = M) ∧ pos ≤ s.size ∧ s.size ≤ pos + gf ∧ ls.length ≤ pos)
  case atStart => exact ⟨0, [], rfl, World.ownsRow_nil _ _ _ _, Below.refl _ _, HM.out, by omega, by omega, by simp⟩
  case round =>
    obtain ⟨pos, ls, rfl, hown, hbw, HN, hps, hg, hll⟩ := hrel
    by_cases hlt : pos < s.size
    · have hlt' : (pos : Int) < (s.size : Int) := by omega
      obtain ⟨c, hc, hcb⟩ := drop_cons s pos hlt
      have hbc := b_eq s pos hlt
      have HC := Lib.hid hc
      have HCB := Lib.hid hcb
      have HO := Lib.hid hown
      have HB := Lib.hid hbw
      clear hc hcb hown hbw
      go_wp2_with fail
      refine (ywhite_any _ _).mono ?_
      rintro e w' ⟨rfl, rfl⟩
      cases hw : wht (b s pos)
      · -- a word begins
        have HWB := Lib.hid hw
        obtain ⟨g0, rfl⟩ : ∃ g', gk = g' + 1 := ⟨gk - 1, by omega⟩
        clear hw hbc
        go_wp2_with fail
        go_loopg [4] s.size (fun gf s4 wx => ∃ q : Nat, s4 = .int .i64 q ∧ wx = w' ∧ pos ≤ q ∧ q ≤ s.size ∧ Hid (∀ j, j < q - pos → wht (b s (pos + j)) = false) ∧ s.size ≤ q + gf)
        case atStart => exact ⟨pos, rfl, rfl, by omega, by omega, fun j hj => by omega, by omega⟩
        case round =>
          obtain ⟨q, rfl, rfl, hq1, hq2, HQ, hqg⟩ := hrel
          have fin : ∀ (hend : (s.data.toList.drop q = [] ∨ ∃ c r, s.data.toList.drop q = c :: r ∧ W c = true)) (hpq : pos < q), (ls ++ [s.extract pos q]).map (·.data.toList) ++ go [] (s.data.toList.drop q) = M := fun hend hpq => by
            obtain ⟨x, hx1, hx2, hx3⟩ := drop_run s pos (q - pos) (by omega) HQ.out
            rw [show pos + (q - pos) = q by omega] at hx1
            have h1 := HN.out
            rw [hx1, go_word hx3 (fun e => by rw [e] at hx2; simp at hx2; omega) hend] at h1
            rw [← h1, List.map_append, List.map_cons, List.map_nil, ext_list s pos q hq2, hx1, List.take_left' hx2]
            simp
          have HF := Lib.hid fin
          clear fin
          have hown2 := HO.out.alloc (.cells #[.string (s.extract pos q)] 9)
          have hcell := new_cell wr (.string (s.extract pos q)) 9
          have hq0 : (pos : Int) ≤ (q : Int) := by omega
          have hq3 : (q : Int) ≤ (s.size : Int) := by omega
          have hB := HB.out.size
          by_cases hqe : q < s.size
          · have hqe' : (q : Int) < (s.size : Int) := by omega
            have hbq := b_eq s q hqe
            have HO2 := Lib.hid hown2
            have HCELL := Lib.hid hcell
            clear hown2 hcell
            go_wp2_with fail
            refine (ywhite_any _ _).mono ?_
            rintro e w3 ⟨rfl, rfl⟩
            cases hwq : wht (b s q)
            · obtain ⟨g', rfl⟩ : ∃ g', gk = g' + 1 := ⟨gk - 1, by omega⟩
              have hn : ∀ j, j < q + 1 - pos → wht (b s (pos + j)) = false := fun j hj => by
                by_cases e : j < q - pos
                · exact HQ.out j e
                · rw [show pos + j = q by omega]; exact hwq
              have HN2 := Lib.hid hn
              clear hn HQ HF HO2 HCELL
              go_wp2_with fail
              go_roundg g'
              case measure => omega
              case rel => exact ⟨q + 1, by go_num, rfl, by omega, by omega, HN2, by omega⟩
            · have hpq : pos < q := by
                by_cases e : pos < q
                · exact e
                · exfalso
                  have : q = pos := by omega
                  subst this
                  rw [HWB.out] at hwq; cases hwq
              obtain ⟨d, hd, hdb⟩ := drop_cons s q hqe
              have hfin := HF.out (.inr ⟨d, _, hd, by rw [W_b hdb]; exact hwq⟩) hpq
              have HFIN := Lib.hid hfin
              have HDB := Lib.hid hpq
              clear hfin hpq hd hdb HF HQ hwq
              go_wp2_with (at_builtin; refine append_text rfl (.tmp 30) (.tmp 35) rfl w.heap.size _ ls rfl HO2.out ⟨_, 0, none⟩ 1 rfl (s.extract pos q) HCELL.out (by omega) (by simp; omega) ?_; intro v' w4 h4 h5)
              have hbel := Own.below_grown (HB.out.alloc hB (.cells #[.string (s.extract pos q)] 9)) HO2.out h5 (by simp; omega)
              go_roundg g0
              case measure => omega
              case rel => exact ⟨q, _, rfl, h4, hbel, HFIN, by omega, by have := HDB.out; omega, by have := HDB.out; simp; omega⟩
          · have hqe' : ¬ (q : Int) < (s.size : Int) := by omega
            have hfin := HF.out (.inl (by rw [show q = s.size by omega, ← len_list]; exact List.drop_length)) (by omega)
            have HFIN := Lib.hid hfin
            have HO2 := Lib.hid hown2
            have HCELL := Lib.hid hcell
            clear hown2 hcell hfin HF HQ
            go_wp2_with (at_builtin; refine append_text rfl (.tmp 30) (.tmp 35) rfl w.heap.size _ ls rfl HO2.out ⟨_, 0, none⟩ 1 rfl (s.extract pos q) HCELL.out (by omega) (by simp; omega) ?_; intro v' w4 h4 h5)
            have hbel := Own.below_grown (HB.out.alloc hB (.cells #[.string (s.extract pos q)] 9)) HO2.out h5 (by simp; omega)
            go_roundg g0
            case measure => omega
            case rel => exact ⟨q, _, rfl, h4, hbel, HFIN, by omega, by omega, by simp; omega⟩
      · -- a white byte
        have hN := HN.out
        rw [HC.out, go_white (by rw [W_b HCB.out]; exact hw)] at hN
        have HN2 := Lib.hid hN
        obtain ⟨g', rfl⟩ : ∃ g', gk = g' + 1 := ⟨gk - 1, by omega⟩
        clear hN HN HC HCB
        go_wp2_with fail
        go_roundg g'
        case measure => omega
        case rel => exact ⟨pos + 1, ls, by go_num, HO.out, HB.out, HN2, by omega, by omega, by omega⟩
    · have hge : ¬ (pos : Int) < (s.size : Int) := by omega
      have hW : WordsOf s ls := by
        have h1 := HN.out
        rw [show pos = s.size by omega, show s.data.toList.drop s.size = [] by rw [← len_list]; exact List.drop_length, go_nil] at h1
        unfold WordsOf
        rw [HM.out, ← h1]; simp [close]
      have HW := Lib.hid hW
      have HT := Lib.hid (Texts.owned hown (by omega))
      have HB := Lib.hid hbw
      clear hW hown hbw HN
      go_wp2_with fail
      go_ret
      exact ⟨_, rfl, ls, HW.out, HT.out, HB.out⟩
end Txt
end Go.Proofs.YtnhacikpkchfjaaDoor

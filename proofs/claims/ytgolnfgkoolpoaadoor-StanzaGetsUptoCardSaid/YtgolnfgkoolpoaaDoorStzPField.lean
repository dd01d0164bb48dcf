/-
The printer: one more field.
-/
import Derived.Test.YtgolnfgkoolpoaaDoorStzPrinter
namespace Go.Proofs.YtgolnfgkoolpoaaDoor
open Go.RowKit
set_option linter.unusedSimpArgs false
set_option linter.unusedVariables false
namespace Stz
theorem addL_len {p : Bs × Bool} (h : p.1.length ≤ 65536) (x : Bs) : (addL p x).1.length ≤ 65536 := by
  unfold addL
  split
  · exact h
  · rename_i hn
    simp only [Bool.or_eq_true, decide_eq_true_eq, not_or] at hn
    simp only [List.length_append, List.length_singleton]
    omega
theorem addLs_len : ∀ (ls : List Bs) {p : Bs × Bool}, p.1.length ≤ 65536 → (ls.foldl addL p).1.length ≤ 65536
  | [], _, h => h
  | x :: r, _, h => addLs_len r (addL_len h x)
theorem addLs_snoc (p : Bs × Bool) (ls : List Bs) {k : Nat} (hk : k < ls.length) : (ls.take (k + 1)).foldl addL p = addL ((ls.take k).foldl addL p) (ls.getD k []) := by
  rw [take_one hk, List.foldl_append]
  rfl
set_option maxRecDepth 100000 in
set_option maxHeartbeats 4000000 in
theorem pfield_any (w0 : World) (k : Nat) (p : Bs × Bool) (nm : Bs) (u : Value) (ls : List Bs) (w : World) (h : PrAt w w0.heap.size k p) (hB : w0.heap.size ≤ k) (hp : p.1.length ≤ 65536) (ht : Txt.Texts w0 u (ls.map S)) (hb : Below w0.heap.size w0 w) (hs : Szd (nm, ls)) (hl : ∀ x ∈ fieldLines (nm, ls), x.length ≤ 1000000) :
    Calls Tryd.prog 32 #[.pointer (some ⟨k, 0, none⟩), .agg #[.string (S nm), u]] w fun e w' => e = .returned (.tuple #[]) ∧ PrAt w' w0.heap.size k ((fieldLines (nm, ls)).foldl addL p) ∧ Below w0.heap.size w w' ∧ Keeps w w' k := by
  obtain ⟨hN62, la, lc, rfl, _, _⟩ := id ht
  obtain ⟨N, hN⟩ : ∃ N, ls.length = N := ⟨_, rfl⟩
  rw [List.length_map, hN] at hN62 ht ⊢
  have HN := Lib.hid hN
  have HLN := Lib.hid (show (fieldLines (nm, ls)).length = N by rw [lines_len]; exact hN)
  obtain ⟨W, hW⟩ : ∃ W, w.alloc (.cells #[.string (S nm), .slice la N lc] 42) = W := ⟨_, rfl⟩
  have hbW : Below w.heap.size w W := by rw [← hW]; exact (Below.refl _ _).alloc (Nat.le_refl _) _
  have hiW : Blk.Is W w.heap.size 42 #[.string (S nm), .slice la N lc] := by rw [← hW]; exact Blk.Is.new w _ _
  have z0 : W.cell? ⟨w.heap.size, 0, none⟩ = some (.string (S nm)) := hiW.at rfl
  have z1 : W.cell? ⟨w.heap.size, 1, none⟩ = some (.slice la N lc) := hiW.at rfl
  have hsW : w.heap.size < W.heap.size := by rw [← hW]; simp
  have hkw : k < w.heap.size := by
    obtain ⟨v, h1, _⟩ := h
    exact h1.lt
  have HW := Lib.hid (h.below hbW)
  have HT := Lib.hid ht
  have HBW := Lib.hid (hb.trans (hbW.mono hb.size))
  have HB0 := Lib.hid (hbW.mono hb.size)
  have HIW := Lib.hid hiW
  have HS := Lib.hid hs
  have HL := Lib.hid hl
  have HSZ := Lib.hid hb.size
  have HKP := Lib.hid (Keeps.below (k := k) hbW)
  have hnm : nm.length ≤ 140737488351232 := hs.1
  obtain ⟨z, hz⟩ : ∃ z, w.heap.size = z := ⟨_, rfl⟩
  rw [hz] at z0 z1 hsW hkw HIW HSZ
  have hzk : z ≠ k := by omega
  clear h ht hb hs hl hbW hiW hN
  go_enter Tryd.func32, Tryd.ntmps32
  go_wp2_with fail
  clear z0 z1 hW hz
  go_loopw [8] (fun i u => ∃ q : Nat, q ≤ N ∧ i = .int .i64 q ∧ Hid (PrAt u w0.heap.size k (((fieldLines (nm, ls)).take q).foldl addL p)) ∧ Hid (Below w0.heap.size W u) ∧ Hid (Keeps W u k)) (fun i _ => N - (intOf i).toNat)
  case atStart => exact ⟨0, by omega, rfl, HW, Lib.hid (Below.refl _ _), Lib.hid (fun _ _ _ h _ _ => h)⟩
  case round =>
    obtain ⟨q, hq, rfl, HP, HBQ, HKQ⟩ := hrel
    have y0 : wr.cell? ⟨z, 0, none⟩ = some (.string (S nm)) := (HKQ.out z _ _ HIW.out (by decide) hzk).at rfl
    have y1 : wr.cell? ⟨z, 1, none⟩ = some (.slice la N lc) := (HKQ.out z _ _ HIW.out (by decide) hzk).at rfl
    by_cases hlt : q < N
    · have hlt' : (q : Int) < N := by omega
      have hql : q < ls.length := by rw [HN.out]; exact hlt
      have hbw := HBW.out.trans (HBQ.out.mono (Nat.le_refl _))
      have cl := lineOf_any nm (.slice la N lc) ls q wr (HT.out.below hbw) hql hnm (HS.out.2 _ (by simp [List.getD, List.getElem?_eq_getElem hql]))
      have hxl : (lineAt (nm, ls) q).length ≤ 1000000 := by
        rw [← lines_at (nm, ls) hql]
        exact HL.out _ (by simp [List.getD, List.getElem?_eq_getElem (show q < (fieldLines (nm, ls)).length by rw [HLN.out]; exact hlt)])
      obtain ⟨x, hx⟩ : ∃ x, lineAt (nm, ls) q = x := ⟨_, rfl⟩
      rw [hx] at cl hxl
      have HX := Lib.hid (show (fieldLines (nm, ls)).getD q [] = x by rw [lines_at (nm, ls) hql]; exact hx)
      clear hql hbw hx
      go_wp2_with fail
      refine cl.mono ?_
      rintro e w2 ⟨rfl, b2⟩
      have HP2 := Lib.hid (HP.out.below b2)
      have HB2 := Lib.hid (HBQ.out.trans (b2.mono (Nat.le_trans HBW.out.size HBQ.out.size)))
      have HK2 := Lib.hid (HKQ.out.trans (Keeps.below (k := k) b2))
      clear cl b2 y0 y1 HP HBQ HKQ
      go_wp2_with fail
      refine (pline_any w0.heap.size k _ x w2 HP2.out hB (addLs_len _ hp) hxl).mono ?_
      rintro e w3 ⟨rfl, p3, b3, k3⟩
      have HP3 := Lib.hid (show PrAt w3 w0.heap.size k (((fieldLines (nm, ls)).take (q + 1)).foldl addL p) by rw [addLs_snoc p _ (by rw [HLN.out]; exact hlt), HX.out]; exact p3)
      have HB3 := Lib.hid (HB2.out.trans b3)
      have HK3 := Lib.hid (HK2.out.trans k3)
      clear p3 b3 k3 HP2 HB2 HK2
      go_wp2_with fail
      refine ⟨⟨q + 1, by omega, by go_num, HP3, HB3, HK3⟩, by simp [intOf]; omega⟩
    · obtain rfl : q = N := by omega
      go_wp2_with fail
      refine bodyPost_end (results_none rfl _ _ _) rfl ⟨rfl, ?_, HB0.out.trans HBQ.out, HKP.out.trans HKQ.out⟩
      have := HP.out
      rwa [List.take_of_length_le (by rw [HLN.out]; exact Nat.le_refl _)] at this
end Stz
end Go.Proofs.YtgolnfgkoolpoaaDoor

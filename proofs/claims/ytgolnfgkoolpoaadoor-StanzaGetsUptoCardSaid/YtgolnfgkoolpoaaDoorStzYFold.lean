/-
The reference's Fold: the same as Fold.
-/
import Derived.Test.YtgolnfgkoolpoaaDoorStzFold
import Derived.Test.YtgolnfgkoolpoaaDoorStzLine
import Derived.Test.YtgolnfgkoolpoaaDoorStzSized
namespace Go.Proofs.YtgolnfgkoolpoaaDoor
open Go.RowKit
set_option linter.unusedSimpArgs false
set_option linter.unusedVariables false
namespace Stz
open Txt (trimL ytrim_any)
theorem join_snoc (ps : List Bs) (p : Bs) : Lib.join (ps ++ [p]) [32] = if ps = [] then p else Lib.join ps [32] ++ 32 :: p := by
  cases ps with
  | nil => rw [List.nil_append, Lib.join_one, if_pos rfl]
  | cons x r =>
    rw [if_neg (by simp), List.cons_append, Lib.join_cons, Lib.join_cons]
    unfold Lib.joinTail
    simp
theorem fold_nil_iff (ls : List Bs) : foldL ls = [] ↔ partsL ls = [] := by
  unfold foldL
  cases h : partsL ls with
  | nil => simp [Lib.join_nil]
  | cons y r =>
    have hy : y ∈ partsL ls := by rw [h]; exact .head _
    unfold partsL at hy
    have := (List.mem_filter.1 hy).2
    rw [Lib.join_cons]
    cases y with
    | nil => simp at this
    | cons c y => simp
theorem fold_snoc (ls : List Bs) (x : Bs) : foldL (ls ++ [x]) = if trimL x = [] then foldL ls else if foldL ls = [] then trimL x else foldL ls ++ 32 :: trimL x := by
  by_cases h : trimL x = []
  · rw [if_pos h]
    unfold foldL
    rw [parts_snoc, if_pos h]
  · rw [if_neg h]
    have e : foldL (ls ++ [x]) = Lib.join (partsL ls ++ [trimL x]) [32] := by
      unfold foldL
      rw [parts_snoc, if_neg h]
    rw [e, join_snoc]
    by_cases h2 : partsL ls = []
    · rw [if_pos h2, if_pos ((fold_nil_iff ls).2 h2)]
    · rw [if_neg h2, if_neg (fun e => h2 ((fold_nil_iff ls).1 e))]
      rfl
theorem fold_len {M : Nat} (ls : List Bs) (h : ∀ x ∈ ls, x.length ≤ M) : ∀ k, k ≤ ls.length → (foldL (ls.take k)).length ≤ (M + 1) * k
  | 0, _ => by simp [foldL, partsL, Lib.join_nil]
  | k + 1, hk => by
    have ih := fold_len ls h k (by omega)
    rw [take_one (show k < ls.length by omega), fold_snoc]
    have hx : (trimL (ls.getD k [])).length ≤ M := Nat.le_trans (trimL_le _) (h _ (by simp [List.getD, List.getElem?_eq_getElem (show k < ls.length by omega)]))
    rw [Nat.mul_add, Nat.mul_one]
    split
    · omega
    · split
      · omega
      · rw [List.length_append, List.length_cons]; omega
set_option maxRecDepth 100000 in
set_option maxHeartbeats 4000000 in
theorem yfold_any (v : Value) (ls : List Bs) (w : World) (h : Txt.Texts w v (ls.map S)) (hn : ls.length ≤ 1000) (hs : ∀ x ∈ ls, x.length ≤ 1048576) :
    Calls Tryd.prog 20 #[v] w fun e w' => e = .returned (.string (S (foldL ls))) ∧ Below w.heap.size w w' := by
  obtain ⟨_, a, cap, rfl, hcap, hread⟩ := h
  have HR := Lib.hid hread
  have HS := Lib.hid hs
  have hfl := fold_len ls hs
  have HF := Lib.hid hfl
  obtain ⟨N, hN⟩ : ∃ N, ls.length = N := ⟨_, rfl⟩
  have HN := Lib.hid hN
  rw [List.length_map] at hcap ⊢
  rw [hN] at hn hcap
  rw [hN]
  clear hread hs hN hfl
  go_enter Tryd.func20, Tryd.ntmps20
  go_wp2_with fail
  go_loopw [3, 9] (fun s3 i u => ∃ k : Nat, k ≤ N ∧ i = .int .i64 k ∧ s3 = .string (S (foldL (ls.take k))) ∧ Hid (Below w.heap.size w u)) (fun _ i _ => N - (intOf i).toNat)
  case atStart => exact ⟨0, by omega, rfl, rfl, Lib.hid (Below.refl _ _)⟩
  case round =>
    obtain ⟨k, hk, rfl, rfl, HB⟩ := hrel
    obtain ⟨F, hF⟩ : ∃ F, foldL (ls.take k) = F := ⟨_, rfl⟩
    rw [hF]
    have hFl : (S F).size ≤ 1048577000 := by
      rw [S_size, ← hF]
      have h1 := HF.out k (by rw [HN.out]; exact hk)
      have h2 : (1048576 + 1) * k ≤ 1048577 * 1000 := Nat.mul_le_mul_left _ (by omega)
      omega
    have HFF := Lib.hid hF
    clear hF
    by_cases hlt : k < N
    · obtain ⟨g, off, rfl, hat⟩ := HR.out (by rw [List.length_map, HN.out]; omega)
      have hkl : k < ls.length := by rw [HN.out]; exact hlt
      have hc := hat k (by rw [List.length_map]; exact hkl)
      rw [map_getD ls hkl] at hc
      obtain ⟨x, hx⟩ : ∃ x, ls.getD k [] = x := ⟨_, rfl⟩
      have hxl : x.length ≤ 1048576 := by
        rw [← hx]
        exact HS.out _ (by simp [List.getD, List.getElem?_eq_getElem hkl])
      have htk := take_one hkl
      rw [hx] at hc htk
      rw [← HB.out.cell (Txt.lt_cell hc)] at hc
      have k0 : (0 : Int) ≤ k := by omega
      have k1 : (k : Int) < N := by omega
      have ct := ytrim_any (S x) wr (by rw [S_size]; omega)
      rw [S_data] at ct
      have CT := Lib.hid ct
      have hsn := fold_snoc (ls.take k) x
      rw [← htk, HFF.out] at hsn
      have HSN := Lib.hid hsn
      have hnF := neq_empty (S F)
      rw [S_data] at hnF
      clear hat hx ct htk hsn hkl
      go_wp2_with fail
      refine CT.out.mono ?_
      rintro e w2 ⟨t, rfl, ht, b2⟩
      have HB2 := Lib.hid (HB.out.trans (b2.mono HB.out.size))
      have hne := neq_empty t
      rw [ht] at hne
      have HT2 := Lib.hid (S_of ht)
      have htl : t.size ≤ 1048576 := by
        rw [S_of ht, S_size]
        have := trimL_le x
        omega
      clear ht b2 hxl
      by_cases hem : trimL x = []
      · rw [decide_eq_true hem] at hne
        have hsn := HSN.out
        rw [if_pos hem] at hsn
        have HE := Lib.hid (show S F ++ t = S (foldL (ls.take (k + 1))) by rw [hsn, HT2.out, S_app, hem, List.append_nil])
        clear hem hsn hnF
        go_wp2_with fail
        refine ⟨⟨k + 1, by omega, by go_num, by rw [HE.out], HB2⟩, by simp [intOf]; omega⟩
      · rw [decide_eq_false hem] at hne
        have hsn := HSN.out
        rw [if_neg hem] at hsn
        by_cases hF0 : F = []
        · rw [decide_eq_true hF0] at hnF
          rw [if_pos hF0] at hsn
          have HE := Lib.hid (show S F ++ t = S (foldL (ls.take (k + 1))) by rw [hsn, HT2.out, S_app, hF0, List.nil_append])
          clear hem hsn hF0
          go_wp2_with fail
          refine ⟨⟨k + 1, by omega, by go_num, by rw [HE.out], HB2⟩, by simp [intOf]; omega⟩
        · rw [decide_eq_false hF0] at hnF
          rw [if_neg hF0] at hsn
          have HE := Lib.hid (show S F ++ S [32] ++ t = S (foldL (ls.take (k + 1))) by rw [hsn, HT2.out, S_app, S_app, List.append_assoc]; rfl)
          clear hem hsn hF0
          go_wp2_with fail
          refine ⟨⟨k + 1, by omega, by go_num, by rw [← HE.out]; rfl, HB2⟩, by simp [intOf]; omega⟩
    · obtain rfl : k = N := by omega
      have he := HFF.out
      rw [List.take_of_length_le (by rw [HN.out]; exact Nat.le_refl _)] at he
      have HE := Lib.hid he
      clear he
      go_wp2_with fail
      go_ret
      exact ⟨by rw [HE.out]; rfl, HB.out⟩
end Stz
end Go.Proofs.YtgolnfgkoolpoaaDoor

/-
awake: it always tells true.
-/
import Derived.Test.YtlpahomaokopoaaCnfQAdd
namespace Go.Proofs.Ytlpahomaokopoaa
open Go.RowKit
set_option linter.unusedSimpArgs false
set_option linter.unusedVariables false
namespace Cn
/-- A literal row of literals. -/
theorem lit_new {w : World} {b : Nat} {l : List Int} (h : Blk.Is w b 45 (lcells l).toArray) (hz : Lz l) (hl : l.length ≤ 1000) : LitV w (.slice (some ⟨b, 0, none⟩) l.length l.length) l :=
  ⟨hz, _, _, rfl, Nat.le_refl _, by omega, by simp, fun _ => ⟨b, 0, rfl, fun i x hx => by rw [Nat.zero_add]; exact h.at (by rw [List.getElem?_toArray]; exact lcells_get hx)⟩⟩
theorem tid313 : tidy [3, -1, 3] = [-1, 3] := by decide
theorem bad313 : bad [3, -1, 3] = false := by decide
set_option maxRecDepth 100000 in
set_option maxHeartbeats 8000000 in
theorem awake_any (w : World) : Calls Try.prog 10 #[] w fun e w' => e = .returned (.bool true) ∧ Below w.heap.size w w' := by
  have hb0 := (Below.refl w.heap.size w).alloc (Nat.le_refl _) (.cells #[.int .i64 3, .int .i64 (-1), .int .i64 3] 45)
  have i0 := Blk.Is.new w 45 #[.int .i64 3, .int .i64 (-1), .int .i64 3]
  obtain ⟨W, hW⟩ : ∃ W, w.alloc (.cells #[.int .i64 3, .int .i64 (-1), .int .i64 3] 45) = W := ⟨_, rfl⟩
  rw [hW] at hb0 i0
  have ct := tidy_any (.slice (some ⟨w.heap.size, 0, none⟩) 3 3) [3, -1, 3] W (lit_new (l := [3, -1, 3]) i0 (by intro x hx; simp at hx; unfold I64; omega) (by simp)) (by simp)
  rw [tid313, bad313] at ct
  have HB0 := Lib.hid hb0
  have hu := hW
  clear hb0 i0 hW
  go_enter Try.func10, Try.ntmps10
  go_wp2_with fail
  refine ct.mono ?_
  rintro e w1 ⟨v1, rfl, o1, k1⟩
  obtain ⟨R, cap, e1, _⟩ := own_slice o1.2 (by simp)
  rw [e1] at o1 ⊢
  have HB1 := Lib.hid (HB0.out.trans (k1.mono HB0.out.size))
  have O1 := Lib.hid o1
  clear ct hu o1 e1 k1
  have cn := new_any 3 w1
  rw [show vars 3 = 3 by decide] at cn
  go_wp2_with fail
  refine cn.mono ?_
  rintro e w2 ⟨rfl, hs2, st, k2⟩
  have ho := O1.out.below k2
  have c0 := own_cell ho.2 (i := 0) (u := .int .i64 (-1)) rfl
  have c1 := own_cell ho.2 (i := 1) (u := .int .i64 3) rfl
  have hv := ho.lit
  have ca := add_any st (.slice (some ⟨R, 0, none⟩) 2 cap) [-1, 3] hv (by simp) (Nat.le_trans (Nat.le_refl _) k2.size)
  rw [show takes 3 [] [-1, 3] = true by decide, show adds 3 [] [-1, 3] = [[-1, 3]] by decide] at ca
  have HB2 := Lib.hid (HB1.out.trans (k2.mono HB1.out.size))
  have ST := Lib.hid st
  have HS1 := Lib.hid HB1.out.size
  clear cn hs2 st k2 ho hv
  go_wp2_with fail
  refine ca.mono ?_
  rintro e w3 ⟨rfl, v3, s3, g3, h3⟩
  have ch := holds_any _ _ _ _ _ (.slice none 0 0) [] w3 s3 (BoolV.nil w3)
  rw [show holds [] [[-1, 3]] = true by decide] at ch
  have B3 := Lib.hid (HB2.out.trans (h3.below (B := w.heap.size) (fun k hk => Nat.le_trans HS1.out (ST.out.mineLow k hk)) HB2.out.size))
  have S3 := Lib.hid s3
  clear ca s3 g3 h3 c0 c1
  go_wp2_with fail
  refine ch.mono ?_
  rintro e w4 ⟨rfl, k4⟩
  have cl := len_any (S3.out.below k4)
  have B4 := Lib.hid (B3.out.trans (k4.mono B3.out.size))
  clear ch k4
  go_wp2_with fail
  refine cl.mono ?_
  rintro e w5 ⟨rfl, rfl⟩
  go_wp2_with fail
  go_ret
  exact ⟨rfl, B4.out⟩
end Cn
end Go.Proofs.Ytlpahomaokopoaa

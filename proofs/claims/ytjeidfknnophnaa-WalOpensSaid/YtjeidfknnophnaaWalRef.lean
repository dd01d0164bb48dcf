/-
The contracts of the reference's Need, u32 and Record.
-/
import Derived.Test.YtjeidfknnophnaaWalMath
import Derived.Test.YtjeidfknnophnaaCrcSum
import Derived.Test.YtjeidfknnophnaaRow
namespace Go.Proofs.Ytjeidfknnophnaa
open Go.RowKit
set_option linter.unusedVariables false
namespace Wal

theorem refNeed_any (n : Int) (w : World) (h : n ≤ 9223372036854775807) : Calls Try.prog 13 #[.int .i64 n] w fun e w' => e = .returned (.int .i64 (need n)) ∧ w = w' := by
  by_cases h0 : n < 0
  · have hn : need n = 0 := by unfold need; rw [if_pos (Or.inl h0)]
    rw [hn]
    clear hn
    go_enter Try.func13, Try.ntmps13
    go_wp2
    go_ret
    exact ⟨rfl, rfl⟩
  by_cases h1 : 8192 < n
  · have hn : need n = 0 := by unfold need; rw [if_pos (Or.inr h1)]
    rw [hn]
    clear hn
    go_enter Try.func13, Try.ntmps13
    go_wp2
    go_ret
    exact ⟨rfl, rfl⟩
  · have hn : need n = (n + 71) / 64 := by unfold need; rw [if_neg (by omega)]
    have HN := Lib.hid hn
    clear hn
    go_enter Try.func13, Try.ntmps13
    go_wp2
    go_ret
    refine ⟨?_, rfl⟩
    rw [HN.out, show n + 8 + 64 - 1 = n + 71 by omega]
    rfl

/-- What u32 hands back. -/
def Four (n : Int) (w : World) (e : Ending) (w' : World) : Prop := ∃ a : Nat, e = .returned (.slice (some ⟨a, 0, none⟩) 4 4) ∧ Mine w' w.heap.size (.slice (some ⟨a, 0, none⟩) 4 4) (be32 n) ∧ Below w.heap.size w w'
theorem refU32_any (n : Int) (w : World) (h : 0 ≤ n ∧ n < 4294967296) : Calls Try.prog 35 #[.int .u32 n] w fun e w' => Four n w e w' := by
  have e : n / 16777216 = n / 16777216 % 256 := by omega
  have E := Lib.hid e
  clear e
  go_enter Try.func35, Try.ntmps35
  go_wp2
  go_ret
  refine ⟨w.heap.size, rfl, ⟨⟨rfl, .inr ⟨w.heap.size, 4, _, rfl, Nat.le_refl _, Blk.Is.new w _ _, by simp [be32], by unfold maxLen; omega, by simp, ?_⟩⟩, be32_byte n⟩, (Below.refl _ _).alloc (Nat.le_refl _) _⟩
  simp [be32, bcells]
  exact E.out

/-- A row of the call's own is kept by what grows another's block. -/
theorem mineGrown {u u' : World} {base base' : Nat} {v x : Value} {zs : List Int} {ys : List Int} (h : Mine u base v zs) (hx : Mine u base' x ys) (hlt : ∀ b, v.ownBlock = some b → b < base') (hg : u.grownBy u' x.ownBlock) : Mine u' base v zs :=
  h.chg (S := fun b => x.ownBlock = some b) ((Blk.Chg.refl _ u).grown hg (fun k e _ => e)) fun b hb e => by
    have h1 := hlt b hb
    have h2 := (hx.block e).1
    omega
theorem below_grow {B base : Nat} {w u u' : World} {x : Value} {ys : List Int} (h : Below B w u) (hx : Mine u base x ys) (hB : B ≤ base) (hs : B ≤ u.heap.size) (hg : u.grownBy u' x.ownBlock) : Below B w u' :=
  h.grown hg hs fun k e => Nat.le_trans hB (hx.block e).1

theorem mineOf {w : World} {base n cap : Nat} {a : Option Addr} {zs : List Int} (h : Mine w base (.slice a n cap) zs) : Row w a n zs := by
  obtain ⟨a', c', e, _, r⟩ := h.row
  simp only [Value.slice.injEq] at e
  obtain ⟨rfl, e2, _⟩ := e
  rw [e2]; exact r
def lenOf : Value → Nat
  | .slice _ n _ => n
  | _ => 0

set_option maxRecDepth 100000 in
theorem refRecord_any (a : Option Addr) (len cap : Nat) (zs : List Int) (w : World) (hr : Row w a len zs) (hn : a = none → cap = 0) (hl : len ≤ 8192) :
    Calls Try.prog 16 #[.slice a len cap] w fun e w' => ∃ v, e = .returned v ∧ Mine w' w.heap.size v (record zs) ∧ Below w.heap.size w w' := by
  have hc := hr.count
  have HR := Lib.hid hr
  have HN := Lib.hid hn
  clear hr hn
  go_enter Try.func16, Try.ntmps16
  go_wp2_with fail
  refine (refU32_any _ _ (by omega)).mono ?_
  rintro e w1 ⟨a1, rfl, m1, b1⟩
  have e1 : be32 (len : Int) = be32 (zs.length : Int) := by rw [hc]
  rw [e1] at m1
  clear e1
  obtain ⟨L, hL⟩ : ∃ L, be32 (zs.length : Int) = L := ⟨_, rfl⟩
  have hLl : L.length = 4 := by rw [← hL]; rfl
  rw [hL] at m1
  have R1 := Lib.hid (mineOf m1)
  go_wp2_with (at_builtin; refine append_bytes rfl (.const (.slice none 0 0)) (.tmp 9) rfl w.heap.size (.slice none 0 0) [] rfl (mine_none _ _) (some ⟨a1, 0, none⟩) 4 4 rfl _ R1.out (by intro h; cases h) ?_ ?_ ?_)
  · simp
  · exact b1.size
  intro v2 w2 m2 g2
  have d2 : Below w1.heap.size w1 w2 := below_grow (Below.refl _ _) (mine_none w1 w1.heap.size) (Nat.le_refl _) (Nat.le_refl _) g2
  have R2 := Lib.hid (R1.out.below d2)
  have b2 := b1.trans (d2.mono b1.size)
  have l2 : ∀ b, v2.ownBlock = some b → b < w2.heap.size := fun b e => (m2.block e).2.1
  have M2 := Lib.hid m2
  have HL2 := Lib.hid l2
  clear m1 R1 m2 g2 d2 b1 l2
  go_wp2_with (at_builtin; refine append_bytes rfl (.const (.slice none 0 0)) (.tmp 11) rfl w2.heap.size (.slice none 0 0) [] rfl (mine_none _ _) (some ⟨a1, 0, none⟩) 4 4 rfl _ R2.out (by intro h; cases h) ?_ ?_ ?_)
  · simp
  · exact Nat.le_refl _
  intro v3 w3 m3 g3
  have d3 : Below w2.heap.size w2 w3 := below_grow (Below.refl _ _) (mine_none w2 w2.heap.size) (Nat.le_refl _) (Nat.le_refl _) g3
  have M2 := Lib.hid (M2.out.below d3)
  have b3 := b2.trans (d3.mono b2.size)
  have R3 := Lib.hid (HR.out.below b3)
  have s23 := d3.size
  have s2 := b2.size
  clear R2 g3 d3 b2
  go_wp2_with (at_builtin; refine append_bytes rfl (.tmp 12) (.tmp 13) rfl w2.heap.size v3 L rfl m3 a len cap rfl _ R3.out HN.out ?_ ?_ ?_)
  · omega
  · exact s23
  intro v4 w4 m4 g4
  have M2 := Lib.hid (mineGrown M2.out m3 HL2.out g4)
  have b4 := below_grow b3 m3 s2 (by omega) g4
  obtain ⟨n4, a4, c4, rfl, _, _, r4⟩ := m4.rows
  have R4 := Lib.hid r4
  clear R3 g4 b3 m3 m4 r4
  go_wp2_with fail
  refine (Crc.refSum_any a4 n4 c4 _ _ R4.out).mono ?_
  rintro e w' ⟨rfl, rfl⟩
  have hsb := sum_bounds (L ++ zs)
  obtain ⟨S, hS⟩ : ∃ S, sum (L ++ zs) = S := ⟨_, rfl⟩
  rw [show Crc.num (Crc.more 0#32 (L ++ zs)) = S from hS]
  rw [hS] at hsb
  go_wp2_with fail
  refine (refU32_any S _ hsb).mono ?_
  rintro e w5 ⟨a5, rfl, m5, b5⟩
  have M2 := Lib.hid (M2.out.below b5)
  have b5 := b4.trans (b5.mono b4.size)
  have R5 := Lib.hid (mineOf m5)
  have s5 := b5.size
  clear R4 b4 m5
  go_wp2_with (at_builtin; refine append_bytes rfl (.tmp 10) (.tmp 16) rfl w.heap.size v2 L rfl M2.out (some ⟨a5, 0, none⟩) 4 4 rfl _ R5.out (by intro h; cases h) ?_ ?_ ?_)
  · omega
  · exact s5
  intro v6 w6 m6 g6
  have b6 := below_grow b5 M2.out (Nat.le_refl _) s5 g6
  have R6 := Lib.hid (HR.out.below b6)
  have s6 := b6.size
  clear R5 b5 M2 g6
  go_wp2_with (at_builtin; refine append_bytes rfl (.tmp 17) (.tmp 18) rfl w.heap.size v6 _ rfl m6 a len cap rfl _ R6.out HN.out ?_ ?_ ?_)
  · rw [List.length_append, hLl, be32_len]; omega
  · exact s6
  intro v7 w7 m7 g7
  have b7 := below_grow b6 m6 (Nat.le_refl _) s6 g7
  have hbody : L ++ (be32 S ++ zs) = body zs := by rw [← List.append_assoc, ← hS, ← hL]; rfl
  rw [hbody] at m7
  have M7 := Lib.hid m7
  have B7 := Lib.hid b7
  clear R6 b6 m6 g7 m7 b7 hbody hS hsb hL hLl HL2 s2 s23 s5 s6
  go_wp2_with fail
  go_loopw [4] (fun v u => ∃ k : Nat, k ≤ pad (zs.length + 8) ∧ Mine u w.heap.size v (body zs ++ List.replicate k 0) ∧ Below w.heap.size w u) (fun v _ => 9000 - lenOf v)
  case atStart => exact ⟨0, Nat.zero_le _, by rw [List.replicate_zero, List.append_nil]; exact M7.out, B7.out⟩
  case round =>
    clear M7 B7
    obtain ⟨k, hk, mk, bk⟩ := hrel
    obtain ⟨n8, a8, c8, rfl, hc8, hl8, r8⟩ := mk.rows
    rw [List.length_append, body_len, List.length_replicate] at hl8
    obtain rfl : zs.length + 8 + k = n8 := hl8
    have MK := Lib.hid mk
    have BK := Lib.hid bk
    have sK := bk.size
    clear mk bk r8
    have hpl := pad_lt (zs.length + 8)
    have hps := pad_sum (zs.length + 8)
    have hkeep : Row ((wr.alloc (.cells #[.int .u8 0] 5))) (some ⟨wr.heap.size, 0, none⟩) 1 [0] := by
      refine Row.ofIs (Blk.Is.new wr 5 #[.int .u8 0]) 0 1 [0] rfl (by omega) (by intro z hz; simp at hz; omega) fun j hj => ?_
      obtain rfl : j = 0 := by omega
      rfl
    have HKP := Lib.hid hkeep
    have MA := Lib.hid (MK.out.below ((Below.refl _ _).alloc (Nat.le_refl _) (.cells #[.int .u8 0] 5)))
    clear hkeep
    obtain ⟨N, hN⟩ : ∃ N, zs.length + 8 + k = N := ⟨_, rfl⟩
    have hNl : N ≤ 8300 := by omega
    rw [hN] at MA MK
    rw [hN]
    rcases Nat.lt_or_ge k (pad (zs.length + 8)) with hlt | hge
    · have hmod : N % 64 ≠ 0 := by omega
      go_wp2_with (at_builtin; refine append_bytes rfl (.tmp 24) (.tmp 25) rfl w.heap.size _ _ rfl MA.out (some ⟨wr.heap.size, 0, none⟩) 1 1 rfl [0] HKP.out (by intro h; cases h) ?_ ?_ ?_)
      · rw [List.length_append, body_len, List.length_replicate]; omega
      · rw [World.size_alloc]; omega
      intro v9 w9 m9 g9
      have b9 := below_grow (BK.out.alloc sK (.cells #[.int .u8 0] 5)) MA.out (Nat.le_refl _) (by rw [World.size_alloc]; omega) g9
      have m10 : Mine w9 w.heap.size v9 (body zs ++ List.replicate (k + 1) 0) := by
        rw [List.replicate_succ', ← List.append_assoc]; simpa using m9
      obtain ⟨n9, a9, c9, rfl, _, hl9, _⟩ := m10.rows
      rw [List.length_append, body_len, List.length_replicate] at hl9
      have M10 := Lib.hid m10
      have B9 := Lib.hid b9
      clear m9 m10 g9 b9 MA MK BK HKP
      go_wp2
      refine ⟨⟨k + 1, by omega, M10.out, B9.out⟩, ?_⟩
      simp only [lenOf]; omega
    · have hmod : N % 64 = 0 := by omega
      go_wp2
      go_ret
      have e : k = pad (body zs).length := by rw [body_len]; omega
      refine ⟨_, rfl, ?_, BK.out⟩
      rw [record, ← e]
      exact MK.out
end Wal
end Go.Proofs.Ytjeidfknnophnaa

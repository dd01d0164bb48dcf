/-
strings.ContainsRune of the grammar's marks at a character that is no ASCII: none of them.
-/
import Derived.Test.YtddfjndclgapcaaDoorShelf
import Derived.Test.YtddfjndclgapcaaDoorTextUtf
import Derived.Test.YtddfjndclgapcaaDoorVerPart
import Derived.Laws.Runes
import Derived.Deep.QuietTactic
import Derived.StillTailTactics
import Derived.WalkMore
import Derived.WalkKit
import Derived.ProofKit
import Derived.Below
import Derived.Lib.Hide
import Derived.LoopN
import Derived.Deep.LoopGhost
import Derived.Lib.OthersKept
import Derived.IntWalk
namespace Go.Proofs.YtddfjndclgapcaaDoor
open Go.RowKit
set_option linter.unusedSimpArgs false
set_option linter.unusedVariables false
namespace Rl
def marks : ByteArray := ⟨#[44, 124, 40, 41]⟩
theorem indexByte_any (s : ByteArray) (c : Int) (w : World) :
    Calls Tryd.prog 97 #[.string s, .int .u8 c] w fun e w' => e = .returned (.int .i64 (Lib.indexByte s.data.toList c.toNat.toUInt8)) ∧ w' = w := Any.strings_IndexByte { Tryd.lays151 with } s c w
theorem validRune_any (r : Int) (w : World) : Calls Tryd.prog 98 #[.int .i32 r] w fun e w' => e = .returned (.bool (Utf8.valid r)) ∧ w' = w := by
  have hv : Utf8.valid r = decide ((0 ≤ r ∧ r < 55296) ∨ (57343 < r ∧ r ≤ 1114111)) := validRune_eq r
  rw [hv]
  by_cases h0 : 0 ≤ r
  · by_cases h1 : r < 55296
    · rw [decide_eq_true (.inl ⟨h0, h1⟩)]
      clear hv
      go_enter Tryd.func98, Tryd.ntmps98
      go_wp2_with fail
      go_ret
      exact ⟨rfl, rfl⟩
    · by_cases h2 : 57343 < r
      · by_cases h3 : r ≤ 1114111
        · rw [decide_eq_true (.inr ⟨h2, h3⟩)]
          clear hv
          go_enter Tryd.func98, Tryd.ntmps98
          go_wp2_with fail
          go_ret
          exact ⟨rfl, rfl⟩
        · rw [decide_eq_false (by omega)]
          clear hv
          go_enter Tryd.func98, Tryd.ntmps98
          go_wp2_with fail
          go_ret
          exact ⟨rfl, rfl⟩
      · rw [decide_eq_false (by omega)]
        clear hv
        go_enter Tryd.func98, Tryd.ntmps98
        go_wp2_with fail
        go_ret
        exact ⟨rfl, rfl⟩
  · rw [decide_eq_false (by omega)]
    have h2 : ¬ 57343 < r := by omega
    clear hv
    go_enter Tryd.func98, Tryd.ntmps98
    go_wp2_with fail
    go_ret
    exact ⟨rfl, rfl⟩
theorem no_byte (s : ByteArray) (c : UInt8) (hs : ∀ b ∈ s.data.toList, b.toNat < 128) (hc : 128 ≤ c.toNat) : Lib.indexByte s.data.toList c = -1 := by
  rw [← Lib.firstIdx_eq]
  exact firstIdx_none _ _ fun b hb hbc => by have := hs b hb; rw [hbc] at this; omega
theorem marks_low : ∀ b ∈ marks.data.toList, b.toNat < 128 := by decide
set_option maxRecDepth 100000 in
set_option maxHeartbeats 4000000 in
theorem indexRune_high (r : Int) (w : World) (hr : 128 ≤ r) :
    Calls Tryd.prog 89 #[.string marks, .int .i32 r] w fun e w' => e = .returned (.int .i64 (-1)) ∧ Below w.heap.size w w' := by
  have h1 : ¬ r < 128 := by omega
  have h0 : 0 ≤ r := by omega
  have hsz : marks.size = 4 := rfl
  by_cases he : r = 65533
  · subst he
    obtain ⟨s, hs⟩ : ∃ s, marks = s := ⟨_, rfl⟩
    have hlow : ∀ pos, pos < s.size → Txt.b s pos < 128 := fun pos hp => by
      have := marks_low
      rw [hs] at this
      rw [Txt.b, dif_pos hp]
      exact this _ (Array.getElem_mem_toList (xs := s.data) hp)
    rw [hs] at hsz ⊢
    clear hs
    go_enter Tryd.func89, Tryd.ntmps89
    go_wp2
    go_loopg [] s.size (fun gf wx => ∃ pos : Nat, wx.heap[w.heap.size]? = some (.stringIter s pos) ∧ Below w.heap.size w wx ∧ s.size ≤ pos + gf ∧ pos ≤ s.size)
    case atStart => exact ⟨0, World.iter_heap w s 0, (Below.refl _ _).alloc (Nat.le_refl _) _, by omega, by omega⟩
    case round =>
      obtain ⟨pos, hit, hbw, hfu, hps⟩ := hrel
      by_cases hlt : pos < s.size
      · obtain ⟨g', rfl⟩ : ∃ g', gk = g' + 1 := ⟨gk - 1, by omega⟩
        have hnx : ∀ ty, (Instr.next (.pointer (some ⟨w.heap.size, 0, none⟩)) true ty).run Tryd.prog wr = _ := fun ty => Lib.run_next_any_at wr w.heap.size s pos ty hit hlt
        obtain ⟨W, hW⟩ : ∃ W, wr.iterAt w.heap.size s (pos + (Utf8.decode s pos).2) = W := ⟨_, rfl⟩
        have hit2 := Lib.iterAt_heap wr w.heap.size s pos (pos + (Utf8.decode s pos).2) hit
        have hbw2 := Lib.below_iterAt hbw (k := w.heap.size) (Nat.le_refl _) s (pos + (Utf8.decode s pos).2)
        rw [hW] at hnx hit2 hbw2
        have hb := hlow pos hlt
        rw [Txt.dec_low s pos hlt hb] at hnx hit2
        generalize Txt.b s pos = c at *
        have hne : ¬ (c : Int) = 65533 := by omega
        clear hW hit hbw hlow
        go_wp2_with fail
        go_roundg g'
        case measure => omega
        case rel => exact ⟨pos + 1, hit2, hbw2, by omega, by omega⟩
      · have hne : ∀ ty, (Instr.next (.pointer (some ⟨w.heap.size, 0, none⟩)) true ty).run Tryd.prog wr = _ := fun ty => Lib.run_next_end_at wr w.heap.size s pos ty hit hlt
        clear hlow
        go_wp2_with fail
        go_ret
        exact ⟨rfl, hbw⟩
  · cases hv : Utf8.valid r
    · have cv := fun w => validRune_any r w
      rw [hv] at cv
      clear hv
      go_enter Tryd.func89, Tryd.ntmps89
      go_wp2_with fail
      refine (cv _).mono ?_
      rintro e w' ⟨rfl, rfl⟩
      go_wp2_with fail
      go_ret
      exact ⟨rfl, Below.refl _ _⟩
    · have cv := fun w => validRune_any r w
      rw [hv] at cv
      obtain ⟨f1, f2, f3⟩ := encode_facts r hv hr
      have f3' : ∀ k, k + 1 = (Utf8.encode r).size → 128 ≤ Txt.b (Utf8.encode r) k := fun k hk => by
        have h := f3 (by omega)
        have hk' : (Utf8.encode r).size - 1 = k := by omega
        simp only [hk'] at h
        unfold Txt.b
        rw [dif_pos (by omega)]
        exact h
      clear f3
      obtain ⟨s, hs⟩ : ∃ s, marks = s := ⟨_, rfl⟩
      have hlow : ∀ pos, pos < s.size → Txt.b s pos < 128 := fun pos hp => by
        have := marks_low
        rw [hs] at this
        rw [Txt.b, dif_pos hp]
        exact this _ (Array.getElem_mem_toList (xs := s.data) hp)
      have hio : ∀ (k : Nat) (x : Int) (w : World), 128 ≤ x → x < 256 → Calls Tryd.prog 97 #[.string (s.extract k s.size), .int .u8 x] w fun e w' => e = .returned (.int .i64 (-1)) ∧ w' = w := fun k x w h1 h2 => by
        have c := indexByte_any (s.extract k s.size) x w
        rw [no_byte _ _ (fun b hb => by rw [← hs] at hb; exact marks_low b (mem_extract hb)) (by simp [UInt8.toNat_ofNat']; omega)] at c
        exact c
      rw [hs] at hsz ⊢
      clear hs hv
      have hcv : ∀ w, (convert 21 9 (.int .i32 r)).run Tryd.prog w = .ok (.string (Utf8.encode r)) w := fun w => run_convert_int_string w 21 9 .i32 r (by rw [Tryd.underlying21]; rfl) Tryd.underlying9
      generalize Utf8.encode r = rs at *
      have key : ∀ k, k + 1 = rs.size → k = 1 ∨ k = 2 ∨ k = 3 → Calls Tryd.prog 89 #[.string s, .int .i32 r] w fun e w' => e = .returned (.int .i64 (-1)) ∧ Below w.heap.size w w' := by
        intro k hk hk3
        have hs1 := f3' k hk
        have hs2 := Txt.b_lt rs k
        have hs3 := Txt.b_eq rs k (by omega)
        have hl1 := hlow k (by omega)
        have hks : k < s.size := by omega
        have hl3 := Txt.b_eq s k hks
        generalize Txt.b rs k = x at *
        generalize Txt.b s k = y at *
        have hxy : ¬ (y : Int) = (x : Int) := by omega
        have hkk : (rs.size : Int) - 1 = (k : Int) := by omega
        have hk4 : (k : Int) < (s.size : Int) := by omega
        have hk5 : (k : Int) < (rs.size : Int) := by omega
        have ho := fun m w => hio m x w (by omega) (by omega)
        obtain ⟨m, hm⟩ : ∃ m, k + 1 = m := ⟨_, rfl⟩
        have hsum : (k : Int) + 1 = (m : Int) := by omega
        have hm2 : (m : Int) ≤ s.size := by omega
        have hwr : IntKind.i64.wrap (m : Int) = (m : Int) := IntWalk.i64_in _ (by omega)
        clear hsz
        clear hio hlow f3'
        go_enter Tryd.func89, Tryd.ntmps89
        go_wp2_with fail
        refine (cv _).mono ?_
        rintro e w' ⟨rfl, rfl⟩
        go_wp2_with fail
        go_step3
        go_wp2_with fail
        refine wp_loop_rounds 2 ?_
        rw [rounds_succ]
        go_wp2_with fail
        go_step3
        go_wp2_with fail
        go_quiet (fail)
        have kq := Ver.below_drewN w' nq
        generalize w'.drewN nq = wd at *
        go_wp2_with fail
        go_quiet ((with_reducible exact Calls.quiet_of_same (ho _ _)))
        have kq2 : Below w'.heap.size w' (wd.drewN nq) := kq.trans ((Ver.below_drewN wd nq).mono kq.size)
        generalize wd.drewN nq = we at *
        go_wp2_with fail
        simp only [Exit.noGoto_ret]
        simp only [Exit.inBlock, Exit.then, Exit.noGoto_ret]
        go_ret
        exact ⟨rfl, kq2⟩
      have h4 : rs.size = 2 ∨ rs.size = 3 ∨ rs.size = 4 := by omega
      exact key (rs.size - 1) (by omega) (by omega)
end Rl
end Go.Proofs.YtddfjndclgapcaaDoor

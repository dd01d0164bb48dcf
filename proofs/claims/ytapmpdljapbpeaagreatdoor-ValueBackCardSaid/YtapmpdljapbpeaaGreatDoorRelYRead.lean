/-
The reference's reader: an atom.
-/
import Derived.Test.YtapmpdljapbpeaaGreatDoorRelYDef
import Derived.StillTailTactics
import Derived.Deep.QuietTactic
import Derived.BigQuiet
import Derived.Test.YtapmpdljapbpeaaGreatDoorReg
namespace Go.Proofs.YtapmpdljapbpeaaGreatDoor
open Go.RowKit
set_option linter.unusedSimpArgs false
set_option linter.unusedVariables false
namespace Reg
theorem From.done {P : Program} {Q : Exit → Act → World → Prop} {a : Act} {w : World} {l : List Oper} {n : Nat} (hn : decide (l.length ≤ n ∧ Region.ready .any l.toArray (upTo l.length n) = []) = true) (h : Q .normal a w) : From P l Q n a w := by
  obtain ⟨hn, hr⟩ := of_decide_eq_true hn
  unfold From
  rw [show l.length - n = 0 by omega]
  exact ⟨hr, h⟩
end Reg
namespace Rl
open Ver (Bs li li_len li_drop S S_self S_of S_size S_li below_drewN empty_is empty_no MaxLen Signs)
theorem relP_iff (l : Bs) (k : Int) (hk : 1 ≤ k ∧ k ≤ 5) : l.take (sgnN k).length = sgnN k ↔ relP l = k := by
  have h5 : k = 1 ∨ k = 2 ∨ k = 3 ∨ k = 4 ∨ k = 5 := by omega
  constructor
  · intro h
    have e := take_pre h
    rw [e]
    rcases h5 with rfl | rfl | rfl | rfl | rfl <;> simp [sgnN, relP]
  · intro h
    have h0 : relP l ≠ 0 := by omega
    have := (relP_pre l h0).1
    rw [h] at this
    conv => lhs; rw [this]
    exact List.take_left
/-- The relation that has been found when the first k have been tried. -/
def rho (l : Bs) (k : Nat) : Int := if relP l < k then relP l else 0
theorem relP_range (l : Bs) : 0 ≤ relP l ∧ relP l ≤ 5 := by
  by_cases h : relP l = 0
  · omega
  · have := relP_pre l h; omega
theorem rho_zero (l : Bs) : rho l 0 = 0 := by unfold rho; have := relP_range l; rw [if_neg (by omega)]
theorem rho_one (l : Bs) : rho l 1 = 0 := by
  unfold rho
  have := relP_range l
  by_cases h : relP l < (1 : Nat)
  · rw [if_pos h]; omega
  · rw [if_neg h]
theorem rho_hit {l : Bs} {k : Nat} (h : relP l = k) : rho l (k + 1) = k := by unfold rho; rw [if_pos (by omega), h]
theorem rho_miss {l : Bs} {k : Nat} (h : relP l ≠ k) : rho l (k + 1) = rho l k := by
  unfold rho
  by_cases h1 : relP l < k
  · rw [if_pos h1, if_pos (by omega)]
  · rw [if_neg h1, if_neg (by omega)]
theorem rho_end (l : Bs) : rho l 6 = relP l := by unfold rho; have := relP_range l; rw [if_pos (by omega)]
theorem hd_size {l t : Bs} {c : UInt8} (h : l = c :: t) : (1 : Int) ≤ (S l).size ∧ (S l).extract 1 (S l).size = S t := by
  subst h
  refine ⟨by rw [S_size, List.length_cons]; omega, S_of (by rw [Ver.li_ext_end, S_li]; rfl)⟩
/-- What is behind a bracket. -/
def ytail (n l2 : Bs) : Option (At × Bs) :=
  if relP l2 = 0 ∨ isV ((yl3 l2).takeWhile yd) = false then none else
  match tk 41 (skip ((yl3 l2).dropWhile yd)) with
  | none => none
  | some l5 => some ((n, relP l2, (yl3 l2).takeWhile yd), l5)
set_option maxRecDepth 100000 in
set_option maxHeartbeats 8000000 in
theorem yreadAtom_any (p : Nat) (l : Bs) (w : World) (h : Yx w p l false) :
    Calls Tryz.prog 90 #[.pointer (some ⟨p, 0, none⟩)] w fun e w' => PostY w p (yatom (skip l)) e w' := by
  have cw := fun w h => word_any p l false w h
  have hpl : p < w.heap.size := h.1.lt
  have hll := h.2
  have hl0 := Nat.le_trans (skip_le l) hll
  unfold yatom
  generalize skip l = l0 at *
  have hnl : (l0.takeWhile yd).length ≤ 4611686018427387904 := tw_small yd hl0
  have hrl : (l0.dropWhile yd).length ≤ 4611686018427387904 := Nat.le_trans (List.dropWhile_sublist _).length_le hl0
  generalize l0.takeWhile yd = n at *
  generalize l0.dropWhile yd = r at *
  have cn := fun w => yname_any n w hnl
  have hB0 : Below w.heap.size w (w.alloc (.cells #[.string ⟨#[]⟩, .int .i64 0, .string ⟨#[]⟩] 82)) := (Below.refl _ _).alloc (Nat.le_refl _) _
  have hI0 := Blk.Is.new w 82 #[.string ⟨#[]⟩, .int .i64 0, .string ⟨#[]⟩]
  have hst : ∀ u, Yx u p r false → Blk.Chg (fun k => k = p) (w.alloc (.cells #[.string ⟨#[]⟩, .int .i64 0, .string ⟨#[]⟩] 82)) u → Sy w (u.alloc (.cells #[.string (S n), .int .i64 0, .string ⟨#[]⟩] 82)) p u.heap.size r false (.string (S n)) (.int .i64 0) (.string ⟨#[]⟩) := by
    intro u h1 h2
    have hs := h2.size
    have hs0 : w.heap.size < (w.alloc (.cells #[.string ⟨#[]⟩, .int .i64 0, .string ⟨#[]⟩] 82)).heap.size := hI0.lt
    have hb : Below u.heap.size u (u.alloc (.cells #[.string (S n), .int .i64 0, .string ⟨#[]⟩] 82)) := (Below.refl _ _).alloc (Nat.le_refl _) _
    exact ⟨hpl, by omega, h1.below hb, Blk.Is.new _ _ _, is_on (h2.is hI0 (by omega)) hb, ((Blk.Chg.ofBelow' hB0).trans h2).alloc _⟩
  have HST := Lib.hid hst
  have H0 := Lib.hid (h.below hB0)
  have hz : S [] = ⟨#[]⟩ := rfl
  have cp1 := fun w h => peek_any p r false w h
  have cp2 := fun w h => peek_any p r true w h
  have hl1l : (skip r).length ≤ 4611686018427387904 := Nat.le_trans (skip_le r) hrl
  have hss := skip_skip r
  generalize skip r = l1 at *
  clear hst h hB0 hI0 hl0 hll hnl hrl
  have SS := Lib.hid hss
  clear hss
  cases hnb : nmB n
  · rw [hnb] at cn
    unfold PostY
    simp only [Bool.false_eq_true, if_false]
    clear hnb
    by_cases h40 : hdN l1 = 40
    · have h40' : ((hdN l1 : Int) == 40) = true := by simp [h40]
      clear h40
      go_enter Tryz.func90, Tryz.ntmps90
      go_wp2_with fail
      generalize w.alloc (.cells #[.string ⟨#[]⟩, .int .i64 0, .string ⟨#[]⟩] 82) = W at *
      refine (cw _ H0.out).mono ?_
      rintro e w1 ⟨rfl, k1, k2⟩
      have S1 := Lib.hid (HST.out _ k1 k2)
      clear k1 k2 HST H0
      generalize hb : w1.heap.size = b at *
      go_wp2_with fail
      generalize w1.alloc (.cells #[.string (S n), .int .i64 0, .string ⟨#[]⟩] 82) = W1 at *
      obtain ⟨c0, c1, c2, f0, f1, f2⟩ := S1.out.cells
      obtain ⟨d0, d1, e0, e1⟩ := S1.out.rd.cells
      clear hb
      refine (cn _).mono ?_
      rintro e w2 ⟨rfl, rfl⟩
      go_wp2_with fail
      have S2 := Lib.hid (S1.out.flag true)
      clear S1 c0 c1 c2 f0 f1 f2 d0 d1 e0 e1
      generalize w2.setCell ⟨p, 1, none⟩ (.bool true) = W2 at *
      refine (cp2 _ S2.out.rd).mono ?_
      rintro e w3 ⟨rfl, k1, k2⟩
      have S3 := Lib.hid (S2.out.call k1 k2)
      clear k1 k2 S2
      obtain ⟨c0, c1, c2, f0, f1, f2⟩ := S3.out.cells
      obtain ⟨d0, d1, e0, e1⟩ := S3.out.rd.cells
      obtain ⟨r0, r1, r2, g0, g1, g2⟩ := S3.out.rcells
      have E := S3.out.fin (.string (S n)) (.int .i64 0) (.string ⟨#[]⟩)
      go_wp2_with fail
      generalize ((w3.setCell ⟨w.heap.size, 0, none⟩ (.string (S n))).setCell ⟨w.heap.size, 1, none⟩ (.int .i64 0)).setCell ⟨w.heap.size, 2, none⟩ (.string ⟨#[]⟩) = V at *
      obtain ⟨j0, j1, j2, hrd, hch⟩ := E
      clear r0 r1 r2 g0 g1 g2
      refine bodyPost_ret (by simp [results, Tryz.results90, go_sem, j0, j1, j2]; try rfl) rfl ?_
      exact ⟨hch, (n, 0, []), _, rfl, hrd⟩
    · have h40' : ((hdN l1 : Int) == 40) = false := by simp; omega
      clear h40
      go_enter Tryz.func90, Tryz.ntmps90
      go_wp2_with fail
      generalize w.alloc (.cells #[.string ⟨#[]⟩, .int .i64 0, .string ⟨#[]⟩] 82) = W at *
      refine (cw _ H0.out).mono ?_
      rintro e w1 ⟨rfl, k1, k2⟩
      have S1 := Lib.hid (HST.out _ k1 k2)
      clear k1 k2 HST H0
      generalize hb : w1.heap.size = b at *
      go_wp2_with fail
      generalize w1.alloc (.cells #[.string (S n), .int .i64 0, .string ⟨#[]⟩] 82) = W1 at *
      obtain ⟨c0, c1, c2, f0, f1, f2⟩ := S1.out.cells
      obtain ⟨d0, d1, e0, e1⟩ := S1.out.rd.cells
      clear hb
      refine (cn _).mono ?_
      rintro e w2 ⟨rfl, rfl⟩
      go_wp2_with fail
      have S2 := Lib.hid (S1.out.flag true)
      clear S1 c0 c1 c2 f0 f1 f2 d0 d1 e0 e1
      generalize w2.setCell ⟨p, 1, none⟩ (.bool true) = W2 at *
      refine (cp2 _ S2.out.rd).mono ?_
      rintro e w3 ⟨rfl, k1, k2⟩
      have S3 := Lib.hid (S2.out.call k1 k2)
      clear k1 k2 S2
      obtain ⟨c0, c1, c2, f0, f1, f2⟩ := S3.out.cells
      obtain ⟨d0, d1, e0, e1⟩ := S3.out.rd.cells
      obtain ⟨r0, r1, r2, g0, g1, g2⟩ := S3.out.rcells
      have E := S3.out.fin (.string (S n)) (.int .i64 0) (.string ⟨#[]⟩)
      go_wp2_with fail
      generalize ((w3.setCell ⟨w.heap.size, 0, none⟩ (.string (S n))).setCell ⟨w.heap.size, 1, none⟩ (.int .i64 0)).setCell ⟨w.heap.size, 2, none⟩ (.string ⟨#[]⟩) = V at *
      obtain ⟨j0, j1, j2, hrd, hch⟩ := E
      clear r0 r1 r2 g0 g1 g2
      refine bodyPost_ret (by simp [results, Tryz.results90, go_sem, j0, j1, j2]; try rfl) rfl ?_
      exact ⟨hch, (n, 0, []), _, rfl, hrd⟩
  · rw [hnb] at cn
    simp only [if_true]
    clear hnb cp2
    rcases tk_hd l1 40 (by decide) with ⟨h1, h2⟩ | ⟨t, h1, h2⟩
    · rw [h1]
      unfold PostY
      simp only
      have h40' : ((hdN l1 : Int) == 40) = false := by
        have : hdN l1 ≠ 40 := h2
        simp; omega
      clear h1 h2
      go_enter Tryz.func90, Tryz.ntmps90
      go_wp2_with fail
      generalize w.alloc (.cells #[.string ⟨#[]⟩, .int .i64 0, .string ⟨#[]⟩] 82) = W at *
      refine (cw _ H0.out).mono ?_
      rintro e w1 ⟨rfl, k1, k2⟩
      have S1 := Lib.hid (HST.out _ k1 k2)
      clear k1 k2 HST H0
      generalize hb : w1.heap.size = b at *
      go_wp2_with fail
      generalize w1.alloc (.cells #[.string (S n), .int .i64 0, .string ⟨#[]⟩] 82) = W1 at *
      obtain ⟨c0, c1, c2, f0, f1, f2⟩ := S1.out.cells
      obtain ⟨d0, d1, e0, e1⟩ := S1.out.rd.cells
      clear hb
      refine (cn _).mono ?_
      rintro e w2 ⟨rfl, rfl⟩
      go_wp2_with fail
      clear c0 c1 c2 f0 f1 f2 d0 d1 e0 e1
      refine (cp1 _ S1.out.rd).mono ?_
      rintro e w3 ⟨rfl, k1, k2⟩
      have S3 := Lib.hid (S1.out.call k1 k2)
      clear k1 k2 S1
      obtain ⟨c0, c1, c2, f0, f1, f2⟩ := S3.out.cells
      obtain ⟨d0, d1, e0, e1⟩ := S3.out.rd.cells
      obtain ⟨r0, r1, r2, g0, g1, g2⟩ := S3.out.rcells
      have E := S3.out.fin (.string (S n)) (.int .i64 0) (.string ⟨#[]⟩)
      go_wp2_with fail
      generalize ((w3.setCell ⟨w.heap.size, 0, none⟩ (.string (S n))).setCell ⟨w.heap.size, 1, none⟩ (.int .i64 0)).setCell ⟨w.heap.size, 2, none⟩ (.string ⟨#[]⟩) = V at *
      obtain ⟨j0, j1, j2, hrd, hch⟩ := E
      clear r0 r1 r2 g0 g1 g2
      refine bodyPost_ret (by simp [results, Tryz.results90, go_sem, j0, j1, j2]; try rfl) rfl ?_
      exact ⟨hch, rfl, _, hrd, SS.out⟩
    · have h40' : ((hdN l1 : Int) == 40) = true := by
        have : hdN l1 = 40 := h2
        simp [this]
      have htk : tk 40 l1 = some (skip t) := by rw [h1]; exact tk_cons 40 t
      rw [htk]
      simp only
      obtain ⟨hs1, hs2⟩ := hd_size h1
      have htl : t.length ≤ 4611686018427387904 := by rw [h1, List.length_cons] at hl1l; omega
      have hl2l : (skip t).length ≤ 4611686018427387904 := Nat.le_trans (skip_le t) htl
      have cpt := fun w h => peek_any p t false w h
      generalize skip t = l2 at *
      have hrr := relP_range l2
      clear htk h1 h2 hl1l
      have HTL := Lib.hid htl
      clear htl
      change Calls _ _ _ _ fun e w' => PostY w p (ytail n l2) e w'
      obtain ⟨o, hO⟩ : ∃ o, ytail n l2 = o := ⟨_, rfl⟩
      rw [hO]
      have HO := Lib.hid hO
      clear hO
      go_enter Tryz.func90, Tryz.ntmps90
      go_wp2_with fail
      generalize w.alloc (.cells #[.string ⟨#[]⟩, .int .i64 0, .string ⟨#[]⟩] 82) = W at *
      refine (cw _ H0.out).mono ?_
      rintro e w1 ⟨rfl, k1, k2⟩
      have S1 := Lib.hid (HST.out _ k1 k2)
      clear k1 k2 HST H0
      generalize hb : w1.heap.size = b at *
      go_wp2_with fail
      generalize w1.alloc (.cells #[.string (S n), .int .i64 0, .string ⟨#[]⟩] 82) = W1 at *
      obtain ⟨c0, c1, c2, f0, f1, f2⟩ := S1.out.cells
      obtain ⟨d0, d1, e0, e1⟩ := S1.out.rd.cells
      clear hb
      refine (cn _).mono ?_
      rintro e w2 ⟨rfl, rfl⟩
      go_wp2_with fail
      clear c0 c1 c2 f0 f1 f2 d0 d1 e0 e1
      refine (cp1 _ S1.out.rd).mono ?_
      rintro e w3 ⟨rfl, k1, k2⟩
      have S3 := Lib.hid (S1.out.call k1 k2)
      clear k1 k2 S1
      obtain ⟨c0, c1, c2, f0, f1, f2⟩ := S3.out.cells
      obtain ⟨d0, d1, e0, e1⟩ := S3.out.rd.cells
      go_wp2_with fail
      have S4 := Lib.hid (S3.out.move t HTL.out)
      clear c0 c1 c2 f0 f1 f2 d0 d1 e0 e1 S3
      generalize w3.setCell ⟨p, 0, none⟩ (.string (S t)) = W4 at *
      refine (cpt _ S4.out.rd).mono ?_
      rintro e w5 ⟨rfl, k1, k2⟩
      have S5 := Lib.hid (S4.out.call k1 k2)
      clear k1 k2 S4
      have hlim2 := S5.out.rd.2
      have hS2 : (S l2).size = l2.length := S_size l2
      have HS2 := Lib.hid hS2
      clear hS2
      go_wp2_with fail
      go_loopg [36] 6 (fun gf s36 wx => ∃ k : Nat, s36 = .int .i64 k ∧ Hid (Sy w wx p b l2 false (.string (S n)) (.int .i64 (rho l2 k)) (.string ⟨#[]⟩)) ∧ k ≤ 6 ∧ 6 ≤ k + gf)
      case atStart => exact ⟨0, rfl, (by rw [rho_zero]; exact S5.out), by omega, by omega⟩
      case round =>
        obtain ⟨k, rfl, SK, hk6, hfu⟩ := hrel
        have cg := fun w => ysign_any (k : Int) w
        obtain ⟨c0, c1, c2, f0, f1, f2⟩ := SK.out.cells
        obtain ⟨d0, d1, e0, e1⟩ := SK.out.rd.cells
        clear S5
        by_cases hlt : k < 6
        · obtain ⟨g', rfl⟩ : ∃ g', gk = g' + 1 := ⟨gk - 1, by omega⟩
          have hlt' : (k : Int) < 6 := by omega
          by_cases hk0 : k = 0
          · subst hk0
            have he : (S (sgnN ((0 : Nat) : Int))).toList.isEmpty = true := by rw [sgn_empty]; rfl
            generalize S (sgnN ((0 : Nat) : Int)) = x at *
            have SK2 := Lib.hid SK.out
            rw [rho_zero, ← rho_one l2] at SK2
            clear SK
            go_wp2_with fail
            refine (cg _).mono ?_
            rintro e w6 ⟨rfl, rfl⟩
            go_wp2_with fail
            go_roundg g'
            case measure => omega
            case rel => exact ⟨1, by go_num, SK2, by omega, by omega⟩
          · have hk5 : 1 ≤ (k : Int) ∧ (k : Int) ≤ 5 := by omega
            have he : (S (sgnN (k : Int))).toList.isEmpty = false := by rw [sgn_empty, decide_eq_true hk5]; rfl
            have hxs : (S (sgnN (k : Int))).size = (sgnN (k : Int)).length := S_size _
            have hiff := relP_iff l2 k hk5
            by_cases hlen : (sgnN (k : Int)).length ≤ l2.length
            · have hge : ((S (sgnN (k : Int))).size : Int) ≤ ((S l2).size : Int) := by rw [hxs, HS2.out]; omega
              have hnn : (0 : Int) ≤ ((S (sgnN (k : Int))).size : Int) := by omega
              have hwr : IntKind.i64.wrap ((S (sgnN (k : Int))).size : Int) = ((S (sgnN (k : Int))).size : Int) := IntWalk.i64_in _ (by rw [hxs]; have := sgn_len (k : Int); omega)
              have hext : (S l2).extract 0 (S (sgnN (k : Int))).size = S (l2.take (sgnN (k : Int)).length) := S_of (by rw [Ver.li_ext_zero _ _ (by rw [hxs, HS2.out]; exact hlen), S_li, hxs])
              have hbeq : (((S l2).extract 0 (S (sgnN (k : Int))).size).toList == (S (sgnN (k : Int))).toList) = decide (relP l2 = k) := by
                rw [hext, Lib.toList_data, Lib.toList_data]
                show (li (S _) == li (S _)) = _
                rw [S_li, S_li, Bool.eq_iff_iff, beq_iff_eq, decide_eq_true_eq]
                exact hiff
              clear hext hxs hiff
              by_cases hrel2 : relP l2 = k
              · rw [decide_eq_true hrel2] at hbeq
                have SK2 := Lib.hid (SK.out.write 1 (.int .i64 k) rfl)
                rw [← rho_hit hrel2] at SK2
                have hhit := rho_hit hrel2
                have HHIT := Lib.hid hhit
                clear SK hrel2 hhit hlen
                generalize S (sgnN (k : Int)) = x at *
                generalize hs2 : S l2 = s2 at *
                clear hs2
                go_wp2_with fail
                refine (cg _).mono ?_
                rintro e w6 ⟨rfl, rfl⟩
                go_wp2_with fail
                go_roundg g'
                case measure => omega
                case rel =>
                  rw [HHIT.out] at SK2
                  exact ⟨k + 1, by go_num, by rw [HHIT.out]; exact SK2, by omega, by omega⟩
              · rw [decide_eq_false hrel2] at hbeq
                have SK2 := Lib.hid SK.out
                rw [← rho_miss hrel2] at SK2
                clear SK hrel2 hlen
                generalize S (sgnN (k : Int)) = x at *
                generalize hs2 : S l2 = s2 at *
                clear hs2
                go_wp2_with fail
                refine (cg _).mono ?_
                rintro e w6 ⟨rfl, rfl⟩
                go_wp2_with fail
                go_roundg g'
                case measure => omega
                case rel => exact ⟨k + 1, by go_num, SK2, by omega, by omega⟩
            · have hge : ¬ ((S (sgnN (k : Int))).size : Int) ≤ ((S l2).size : Int) := by rw [hxs, HS2.out]; omega
              have hrel2 : relP l2 ≠ k := fun h => by
                have h2 := congrArg List.length (hiff.2 h)
                rw [List.length_take] at h2
                omega
              have SK2 := Lib.hid SK.out
              rw [← rho_miss hrel2] at SK2
              clear SK hrel2 hlen hxs hiff
              generalize S (sgnN (k : Int)) = x at *
              generalize hs2 : S l2 = s2 at *
              clear hs2
              go_wp2_with fail
              refine (cg _).mono ?_
              rintro e w6 ⟨rfl, rfl⟩
              go_wp2_with fail
              go_roundg g'
              case measure => omega
              case rel => exact ⟨k + 1, by go_num, SK2, by omega, by omega⟩
        · obtain rfl : k = 6 := by omega
          rw [rho_end] at SK c1
          clear cg hlt
          have cg := fun w => ysign_any (relP l2) w
          have hpre : (sgnN (relP l2)).length ≤ l2.length := by
            by_cases h0 : relP l2 = 0
            · rw [h0]; simp [sgnN]
            · have := congrArg List.length (relP_pre l2 h0).1
              rw [List.length_append] at this
              omega
          have hxs : (S (sgnN (relP l2))).size = (sgnN (relP l2)).length := S_size _
          have hge : ((S (sgnN (relP l2))).size : Int) ≤ ((S l2).size : Int) := by rw [hxs, HS2.out]; omega
          have hnn : (0 : Int) ≤ ((S (sgnN (relP l2))).size : Int) := by omega
          have hwr : IntKind.i64.wrap ((S (sgnN (relP l2))).size : Int) = ((S (sgnN (relP l2))).size : Int) := IntWalk.i64_in _ (by rw [hxs]; have := sgn_len (relP l2); omega)
          have hmin : min ((S l2).size : Int) ((S (sgnN (relP l2))).size : Int) = ((S (sgnN (relP l2))).size : Int) := by omega
          have hext : (S l2).extract (S (sgnN (relP l2))).size (S l2).size = S (l2.drop (sgnN (relP l2)).length) := S_of (by rw [Ver.li_ext_end, S_li, hxs])
          have hl3 : (l2.drop (sgnN (relP l2)).length).length ≤ 4611686018427387904 := by rw [List.length_drop]; omega
          have cw3 := fun w h => word_any p (l2.drop (sgnN (relP l2)).length) false w h
          have HO2 : Hid (ytail n l2 = o) := HO
          have HEX := Lib.hid hext
          have HL3 := Lib.hid hl3
          clear hext hl3 hpre hxs HO
          generalize hx : S (sgnN (relP l2)) = x at *
          clear hx
          generalize hs2 : S l2 = s2 at *
          clear hs2
          generalize hR : relP l2 = R at *
          have HR := Lib.hid hR
          clear hR
          have CG := Lib.hid cg
          clear cg
          go_wp2_with fail
          refine Reg.From.start (by kernel_rfl) ?_
          refine Reg.From.quiet 18 (by kernel_rfl) (fun u => ∃ n, u = wr.drewN n) ⟨1, rfl⟩ ?_
          simp only [List.drop_zero, Nat.sub_zero, List.take_succ_cons, List.take_zero]
          repeat (go_big_quiet_step ((go_at_call 119; exact Calls.quiet_of_same (CG.out _))))
          refine wpQuiet_nil ?_
          intro u0 hu0
          have hb0 : Below wr.heap.size wr u0 := by obtain ⟨n, rfl⟩ := hu0; exact below_drewN wr n
          have S6 := Lib.hid (SK.out.below hb0)
          clear hu0 hb0 SK c0 c1 c2 f0 f1 f2 d0 d1 e0 e1
          obtain ⟨d0, d1, e0, e1⟩ := S6.out.rd.cells
          have S7 := Lib.hid (S6.out.move (l2.drop (sgnN R).length) HL3.out)
          rw [← HEX.out] at S7
          refine Reg.From.op 18 (by kernel_rfl) ?_
          simp only [List.drop_succ_cons, List.drop_zero, List.take_succ_cons, List.take_zero]
          go_wp2_with fail
          change Reg.From _ _ _ 19 _ _
          refine Reg.From.done (by kernel_rfl) ?_
          generalize u0.setCell ⟨p, 0, none⟩ (.string (s2.extract x.size s2.size)) = W7 at *
          clear S6 d0 d1 e0 e1
          have hyt : ytail n l2 = if R = 0 ∨ isV ((skip (l2.drop (sgnN R).length)).takeWhile yd) = false then none else match tk 41 (skip ((skip (l2.drop (sgnN R).length)).dropWhile yd)) with
              | none => none
              | some l5 => some ((n, R, (skip (l2.drop (sgnN R).length)).takeWhile yd), l5) := by unfold ytail yl3; rw [HR.out]
          have hsl := Nat.le_trans (skip_le (l2.drop (sgnN R).length)) HL3.out
          clear HEX HL3 CG hge hmin hwr hnn HS2 cpt cp1 cn hs1 hs2
          generalize l2.drop (sgnN R).length = l3 at *
          have hvl := tw_small yd hsl
          have hrl : ((skip l3).dropWhile yd).length ≤ 4611686018427387904 := Nat.le_trans (List.dropWhile_sublist _).length_le hsl
          generalize (skip l3).takeWhile yd = v at *
          generalize (skip l3).dropWhile yd = rest at *
          rw [HO2.out] at hyt
          have cis := fun w => yis_any v w hvl
          have cpr := fun w h => peek_any p rest false w h
          have hsrl := Nat.le_trans (skip_le rest) hrl
          clear HO2 HR hvl hsl hrl
          go_wp2_with fail
          refine (cw3 _ S7.out.rd).mono ?_
          rintro e w8 ⟨rfl, k1, k2⟩
          have S8 := Lib.hid (S7.out.call k1 k2)
          clear k1 k2 S7
          obtain ⟨c0, c1, c2, f0, f1, f2⟩ := S8.out.cells
          have S9 := Lib.hid (S8.out.write 2 (.string (S v)) rfl)
          obtain ⟨d0, d1, e0, e1⟩ := S9.out.rd.cells
          obtain ⟨_, a1, _, _, _, _⟩ := S9.out.cells
          by_cases hR0 : R = 0
          · have ho : o = none := by rw [hyt, if_pos (.inl hR0)]
            subst ho
            subst hR0
            clear hyt
            have SA := Lib.hid (S9.out.flag true)
            clear S8 S9
            obtain ⟨x0, x1, x2, _, _, _⟩ := SA.out.cells
            obtain ⟨r0, r1, r2, g0, g1, g2⟩ := SA.out.rcells
            have E := SA.out.fin (.string (S n)) (.int .i64 0) (.string (S v))
            go_wp2_with fail
            generalize ((((w8.setCell ⟨b, 2, none⟩ (.string (S v))).setCell ⟨p, 1, none⟩ (.bool true)).setCell ⟨w.heap.size, 0, none⟩ (.string (S n))).setCell ⟨w.heap.size, 1, none⟩ (.int .i64 0)).setCell ⟨w.heap.size, 2, none⟩ (.string (S v)) = V at *
            obtain ⟨j0, j1, j2, hrd, hch⟩ := E
            clear r0 r1 r2 g0 g1 g2
            refine bodyPost_ret (by simp [results, Tryz.results90, go_sem, j0, j1, j2]; try rfl) rfl ?_
            exact ⟨hch, (n, 0, v), _, rfl, hrd⟩
          · have hR1 : (R == 0) = false := by simpa using hR0
            cases hvv : isV v
            · have ho : o = none := by rw [hyt, if_pos (.inr hvv)]
              subst ho
              rw [hvv] at cis
              clear hyt
              go_wp2_with fail
              clear c0 c1 c2 f0 f1 f2 d0 d1 e0 e1 a1
              generalize w8.setCell ⟨b, 2, none⟩ (.string (S v)) = W9 at *
              refine (cis _).mono ?_
              rintro e w10 ⟨rfl, k1⟩
              have SB := Lib.hid (S9.out.below k1)
              obtain ⟨d0, d1, e0, e1⟩ := SB.out.rd.cells
              have SA := Lib.hid (SB.out.flag true)
              clear S8 S9 SB
              obtain ⟨x0, x1, x2, _, _, _⟩ := SA.out.cells
              obtain ⟨r0, r1, r2, g0, g1, g2⟩ := SA.out.rcells
              have E := SA.out.fin (.string (S n)) (.int .i64 R) (.string (S v))
              go_wp2_with fail
              generalize (((w10.setCell ⟨p, 1, none⟩ (.bool true)).setCell ⟨w.heap.size, 0, none⟩ (.string (S n))).setCell ⟨w.heap.size, 1, none⟩ (.int .i64 R)).setCell ⟨w.heap.size, 2, none⟩ (.string (S v)) = V at *
              obtain ⟨j0, j1, j2, hrd, hch⟩ := E
              clear r0 r1 r2 g0 g1 g2
              refine bodyPost_ret (by simp [results, Tryz.results90, go_sem, j0, j1, j2]; try rfl) rfl ?_
              exact ⟨hch, (n, R, v), _, rfl, hrd⟩
            · rw [if_neg (by rintro (h | h); exact hR0 h; rw [hvv] at h; cases h)] at hyt
              rw [hvv] at cis
              clear hR0
              go_wp2_with fail
              clear c0 c1 c2 f0 f1 f2 d0 d1 e0 e1 a1
              generalize w8.setCell ⟨b, 2, none⟩ (.string (S v)) = W9 at *
              refine (cis _).mono ?_
              rintro e w10 ⟨rfl, k1⟩
              have SB := Lib.hid (S9.out.below k1)
              clear S8 S9 k1
              go_wp2_with fail
              refine (cpr _ SB.out.rd).mono ?_
              rintro e w11 ⟨rfl, k1, k2⟩
              have SC := Lib.hid (SB.out.call k1 k2)
              clear k1 k2 SB
              obtain ⟨d0, d1, e0, e1⟩ := SC.out.rd.cells
              rcases tk_hd (skip rest) 41 (by decide) with ⟨h1, h2⟩ | ⟨t5, h1, h2⟩
              · rw [h1] at hyt
                subst hyt
                have h41 : ((hdN (skip rest) : Int) != 41) = true := by
                  have : hdN (skip rest) ≠ 41 := h2
                  simp; omega
                clear h1 h2
                have SA := Lib.hid (SC.out.flag true)
                clear SC
                obtain ⟨x0, x1, x2, _, _, _⟩ := SA.out.cells
                obtain ⟨r0, r1, r2, g0, g1, g2⟩ := SA.out.rcells
                have E := SA.out.fin (.string (S n)) (.int .i64 R) (.string (S v))
                go_wp2_with fail
                generalize (((w11.setCell ⟨p, 1, none⟩ (.bool true)).setCell ⟨w.heap.size, 0, none⟩ (.string (S n))).setCell ⟨w.heap.size, 1, none⟩ (.int .i64 R)).setCell ⟨w.heap.size, 2, none⟩ (.string (S v)) = V at *
                obtain ⟨j0, j1, j2, hrd, hch⟩ := E
                clear r0 r1 r2 g0 g1 g2
                refine bodyPost_ret (by simp [results, Tryz.results90, go_sem, j0, j1, j2]; try rfl) rfl ?_
                exact ⟨hch, (n, R, v), _, rfl, hrd⟩
              · have htk : tk 41 (skip rest) = some (skip t5) := by rw [h1]; exact tk_cons 41 t5
                rw [htk] at hyt
                subst hyt
                have h41 : ((hdN (skip rest) : Int) != 41) = false := by
                  have : hdN (skip rest) = 41 := h2
                  simp [this]
                obtain ⟨hs3, hs4⟩ := hd_size h1
                have ht5 : t5.length ≤ 4611686018427387904 := by rw [h1, List.length_cons] at hsrl; omega
                have SA := Lib.hid (SC.out.move t5 ht5)
                clear SC h1 h2 htk hsrl ht5
                obtain ⟨x0, x1, x2, _, _, _⟩ := SA.out.cells
                obtain ⟨r0, r1, r2, g0, g1, g2⟩ := SA.out.rcells
                have E := SA.out.fin (.string (S n)) (.int .i64 R) (.string (S v))
                go_wp2_with fail
                generalize (((w11.setCell ⟨p, 0, none⟩ (.string (S t5))).setCell ⟨w.heap.size, 0, none⟩ (.string (S n))).setCell ⟨w.heap.size, 1, none⟩ (.int .i64 R)).setCell ⟨w.heap.size, 2, none⟩ (.string (S v)) = V at *
                obtain ⟨j0, j1, j2, hrd, hch⟩ := E
                clear r0 r1 r2 g0 g1 g2
                refine bodyPost_ret (by simp [results, Tryz.results90, go_sem, j0, j1, j2]; try rfl) rfl ?_
                exact ⟨hch, rfl, _, hrd, rfl⟩
end Rl
end Go.Proofs.YtapmpdljapbpeaaGreatDoor

/-
The walk of the law RelationWhite (made by gen/relwhite.py).
-/
import Derived.Test.YtddfjndclgapcaaDoorRelBits
import Derived.Test.YtddfjndclgapcaaDoorRelWriteP
import Derived.Test.YtddfjndclgapcaaDoorRelLight
import Derived.Test.YtddfjndclgapcaaDoorRow
import Derived.Laws.Concat
namespace Go.Proofs.YtddfjndclgapcaaDoor
open Go.RowKit
set_option linter.unusedSimpArgs false
set_option linter.unusedVariables false
namespace Rl
open Ver (Bs li li_len li_drop li_ext S S_self S_of S_size S_li below_drewN empty_is empty_no MaxLen Signs)
open Txt (b b_eq b_lt)
theorem white_gap (q : Nat) (hq : q < 4) : ∃ G : ByteArray, (#[.string ⟨#[]⟩, .string ⟨#[32]⟩, .string ⟨#[9]⟩, .string ⟨#[32, 32]⟩] : Array Value)[q]? = some (.string G) ∧ G.size ≤ 2 ∧ white (li G) := by
  rcases (by omega : q = 0 ∨ q = 1 ∨ q = 2 ∨ q = 3) with rfl | rfl | rfl | rfl
  · exact ⟨⟨#[]⟩, rfl, by decide, rfl⟩
  · exact ⟨⟨#[32]⟩, rfl, by decide, rfl⟩
  · exact ⟨⟨#[9]⟩, rfl, by decide, rfl⟩
  · exact ⟨⟨#[32, 32]⟩, rfl, by decide, rfl⟩
theorem wid_snoc {a l : Bs} {c : UInt8} {p : Bs} (h : Wid a l) (hp : Piece c p) : Wid (a ++ [c]) (l ++ p) := by
  have := wid_app h (Wid.cons hp Wid.nil)
  rwa [List.append_nil] at this
theorem take_snoc {l : Bs} {i : Nat} {c : UInt8} {r : Bs} (h : l.drop i = c :: r) : l.take (i + 1) = l.take i ++ [c] := by
  have hi : i < l.length := by
    apply Decidable.byContradiction
    intro hn
    rw [List.drop_eq_nil_of_le (by omega)] at h
    cases h
  rw [List.drop_eq_getElem_cons hi] at h
  rw [List.take_succ_eq_append_getElem hi]
  cases h
  rfl
theorem u8_eq {c : UInt8} {n : Nat} (h : c.toNat = n) (hn : n < 256) : c = UInt8.ofNat n := by
  subst h
  simp
theorem wParse (l : List (List At)) (x : ByteArray) (w : World) (h1 : text l ≠ []) (hw : Wid (text l) (li x)) (hx : x.size ≤ 50000) (hv : Vars w) : Calls Tryd.prog 9 #[.string (⟨#[32]⟩ ++ x ++ ⟨#[9]⟩)] w fun e w' => Below w.heap.size w w' ∧ ∃ v, e = .returned (.tuple #[v, .int .i64 0]) ∧ Clss w' v l := by
  have z1 : (⟨#[32]⟩ : ByteArray).size = 1 := rfl
  have z2 : (⟨#[9]⟩ : ByteArray).size = 1 := rfl
  have := uParse (⟨#[32]⟩ ++ x ++ ⟨#[9]⟩) w (by simp only [ByteArray.size_append, z1, z2]; omega) hv
  unfold UC at this
  rw [li_app, li_app, List.append_assoc, text_back h1 hw (show white (li ⟨#[32]⟩) from rfl) (show white (li ⟨#[9]⟩) from rfl)] at this
  exact this
set_option maxRecDepth 100000 in
set_option maxHeartbeats 16000000 in
theorem white_walk (v0 : Value) (ga : Option Addr) (K gc : Nat) (zs : List Int) (l : List (List At)) (w : World) (hl : Clss w v0 l) (hg : Row w ga K zs) (kl : LimC l) (hv : Vars w) :
    Calls Tryd.prog 7 #[v0, .slice ga K gc] w fun e w' => e = .returned (.bool true) ∧ Below w.heap.size w w' := by
  obtain ⟨a0, b0, rfl⟩ := hl.shape
  have c0 := light_any _ l w hl
  have HM := Lib.hid hl
  have HL := Lib.hid kl
  have HG := Lib.hid hg
  have hgs := hg.short
  have HV := Lib.hid hv
  have HK := Lib.hid (Below.refl w.heap.size w)
  clear hl kl hv hg
  obtain ⟨L, eL⟩ : ∃ L, l.length = L := ⟨_, rfl⟩
  have EL := Lib.hid eL
  rw [eL] at c0
  rw [eL]
  clear eL
  obtain ⟨G, hG⟩ : ∃ G, lightB l = G := ⟨_, rfl⟩
  rw [hG] at c0
  clear hG
  obtain ⟨w0, hw0⟩ : ∃ w0, w = w0 := ⟨_, rfl⟩
  have HW := Lib.hid hw0
  clear hw0
  go_enter Tryd.func7, Tryd.ntmps7
  go_wp2_with fail
  refine c0.mono ?_
  rintro e w1 ⟨rfl, hw1⟩
  subst hw1
  clear c0
  cases G with
  | false =>
    go_wp2_with fail
    refine (awake_any _ HV.out).mono ?_
    rintro e w4 ⟨rfl, k4⟩
    have K4 := tr HK.out k4
    go_wp2_with fail
    go_ret
    exact ⟨rfl, K4⟩
  | true =>
  have c2 := Text_any _ l _ HM.out HL.out HV.out
  rw [EL.out] at c2
  go_wp2_with fail
  refine c2.mono ?_
  rintro e w2 ⟨rfl, k2⟩
  have HM2 := Lib.hid (HM.out.below k2)
  have HV2 := Lib.hid (HV.out.on k2)
  have HG2 := Lib.hid (HG.out.below k2)
  have HK2 := Lib.hid (tr HK.out k2)
  clear c2 HM HV HK HG k2
  by_cases hx : text l = []
  · have he := S_none hx
    generalize S (text l) = X at *
    go_wp2_with fail
    refine (awake_any _ HV2.out).mono ?_
    rintro e w4 ⟨rfl, k4⟩
    have K4 := tr HK2.out k4
    go_wp2_with fail
    go_ret
    exact ⟨rfl, K4⟩
  have he := S_some hx
  have hz := text_sz l
  have HX := Lib.hid (⟨hx, S_li (text l)⟩ : _ ∧ _)
  generalize hXX : S (text l) = X at *
  clear hx hXX
  go_wp2_with fail
  clear he
  go_loopg [6, 22] X.size (fun gf s6 s22 wx => ∃ (i : Nat) (x : ByteArray), s6 = .string x ∧ s22 = .int .i64 i ∧ Hid (Below w2.heap.size w2 wx) ∧ Hid (Wid ((li X).take i) (li x)) ∧ x.size ≤ 5 * i ∧ X.size ≤ i + gf ∧ i ≤ X.size)
  case atStart => exact ⟨0, _, rfl, rfl, Lib.hid (Below.refl _ _), Lib.hid Wid.nil, Nat.le_refl 0, by omega, by omega⟩
  case round =>
    obtain ⟨i, x, rfl, rfl, HB, HI, hxs, hfu, his⟩ := hrel
    by_cases hlt : i < X.size
    · obtain ⟨g', rfl⟩ : ∃ g', gk = g' + 1 := ⟨gk - 1, by omega⟩
      obtain ⟨k, hk⟩ : ∃ k, i + 1 = k := ⟨_, rfl⟩
      have hsum : (i : Int) + 1 = (k : Int) := by omega
      have hwr : IntKind.i64.wrap (k : Int) = (k : Int) := IntWalk.i64_in _ (by omega)
      have hlt' : (i : Int) < (X.size : Int) := by omega
      have j1 : (i : Int) ≤ (k : Int) := by omega
      have j2 : (k : Int) ≤ (X.size : Int) := by omega
      have hbc := b_eq X i hlt
      have hbl := b_lt X i
      obtain ⟨c', hc', hcb⟩ := li_drop X i hlt
      have hes : (X.extract i k).size = 1 := by simp [ByteArray.size_extract]; omega
      have hle : li (X.extract i k) = [c'] := by
        rw [li_ext X i k (by omega), hc', show k - i = 1 by omega]; rfl
      have hts := take_snoc hc'
      obtain ⟨c, hcc⟩ : ∃ c, b X i = c := ⟨_, rfl⟩
      rw [hcc] at hbc hbl hcb
      have HE := Lib.hid (⟨hle, hts, hcb, hk⟩ : _ ∧ _ ∧ _ ∧ _)
      have HES := Lib.hid hes
      clear hcc hle hts hcb hc'
      obtain ⟨E, hE⟩ : ∃ E, X.extract i k = E := ⟨_, rfl⟩
      rw [hE] at hes
      have HEE := Lib.hid hE
      by_cases hg : i < K
      · obtain ⟨gb, goff, rfl, hgl, hgc⟩ := (HG2.out.below HB.out).cells (by omega)
        have x0 := hgc i hg
        have hby := (HG2.out.byt).getD i
        have hg' : (i : Int) < (K : Int) := by omega
        clear hgc
        generalize zs.getD i 0 = z at *
        have hzw : IntKind.i64.wrap z = z := IntWalk.i64_in _ (by omega)
        obtain ⟨q, hq, hq4⟩ : ∃ q : Nat, z.tmod 4 = (q : Int) ∧ q < 4 := by
          obtain ⟨n, rfl⟩ := Int.eq_ofNat_of_zero_le hby.1
          exact ⟨n % 4, rfl, Nat.mod_lt _ (by omega)⟩
        have hq4' : (q : Int) < 4 := by omega
        obtain ⟨G, hG, hG2, hGW⟩ := white_gap q hq4
        have bW : Below wr.heap.size wr (wr.alloc (.cells #[.string ⟨#[]⟩, .string ⟨#[32]⟩, .string ⟨#[9]⟩, .string ⟨#[32, 32]⟩] 9)) := (Below.refl _ _).alloc (Nat.le_refl _) _
        have y0 := (Blk.Is.new wr 9 #[.string ⟨#[]⟩, .string ⟨#[32]⟩, .string ⟨#[9]⟩, .string ⟨#[32, 32]⟩]).at hG
        have x1 := cell_on x0 bW
        have HBW := Lib.hid (HB.out.trans (bW.mono HB.out.size))
        have HGW := Lib.hid hGW
        have HGS := Lib.hid hG2
        clear x0 bW HB hG hGW hby
        by_cases hc32 : c = 32
        · subst hc32
          have e1 := fun w => run_string_add_sum (P := Tryd.prog) w x G (by first | omega | (simp only [maxLen]; omega))
          have hfin : Hid (Wid ((li X).take (i + 1)) (li (x ++ G))) := by
            rw [HE.out.2.1, li_app]
            refine wid_snoc HI.out (.inl ⟨?_, HGW.out⟩)
            rw [u8_eq HE.out.2.2.1 (by omega)]; rfl
          have hsz : Hid ((x ++ G).size ≤ 5 * (i + 1)) := by
            refine Lib.hid ?_
            rw [ByteArray.size_append]
            have := HGS.out
            omega
          clear HI HES HE HEE HGW
          go_wp2_with fail
          go_roundg g'
          case measure => omega
          case rel => exact ⟨i + 1, _, rfl, (by rw [show ((i + 1 : Nat) : Int) = (k : Int) by omega]), HBW, hfin, hsz.out, by omega, by omega⟩
        by_cases hc44 : c = 44
        · subst hc44
          have e1 := fun w => run_string_add_sum (P := Tryd.prog) w G E (by first | omega | (simp only [maxLen]; omega))
          have e2 := fun w => run_string_add_sum (P := Tryd.prog) w (G ++ E) G (by simp only [ByteArray.size_append, maxLen]; omega)
          have e3 := fun w => run_string_add_sum (P := Tryd.prog) w x (G ++ E ++ G) (by simp only [ByteArray.size_append, maxLen]; omega)
          have hfin : Hid (Wid ((li X).take (i + 1)) (li (x ++ (G ++ E ++ G)))) := by
            rw [HE.out.2.1, li_app, li_app, li_app, ← HEE.out, HE.out.1]
            refine wid_snoc HI.out (.inr (.inl ⟨?_, _, _, ?_, HGW.out, HGW.out⟩))
            · rw [u8_eq HE.out.2.2.1 (by omega)]; rfl
            · simp
          have hsz : Hid ((x ++ (G ++ E ++ G)).size ≤ 5 * (i + 1)) := by
            refine Lib.hid ?_
            rw [ByteArray.size_append, ByteArray.size_append, ByteArray.size_append]
            have := HGS.out
            omega
          clear HI HES HE HEE HGW
          go_wp2_with fail
          go_roundg g'
          case measure => omega
          case rel => exact ⟨i + 1, _, rfl, (by rw [show ((i + 1 : Nat) : Int) = (k : Int) by omega]), HBW, hfin, hsz.out, by omega, by omega⟩
        by_cases hc124 : c = 124
        · subst hc124
          have e1 := fun w => run_string_add_sum (P := Tryd.prog) w G E (by first | omega | (simp only [maxLen]; omega))
          have e2 := fun w => run_string_add_sum (P := Tryd.prog) w (G ++ E) G (by simp only [ByteArray.size_append, maxLen]; omega)
          have e3 := fun w => run_string_add_sum (P := Tryd.prog) w x (G ++ E ++ G) (by simp only [ByteArray.size_append, maxLen]; omega)
          have hfin : Hid (Wid ((li X).take (i + 1)) (li (x ++ (G ++ E ++ G)))) := by
            rw [HE.out.2.1, li_app, li_app, li_app, ← HEE.out, HE.out.1]
            refine wid_snoc HI.out (.inr (.inl ⟨?_, _, _, ?_, HGW.out, HGW.out⟩))
            · rw [u8_eq HE.out.2.2.1 (by omega)]; rfl
            · simp
          have hsz : Hid ((x ++ (G ++ E ++ G)).size ≤ 5 * (i + 1)) := by
            refine Lib.hid ?_
            rw [ByteArray.size_append, ByteArray.size_append, ByteArray.size_append]
            have := HGS.out
            omega
          clear HI HES HE HEE HGW
          go_wp2_with fail
          go_roundg g'
          case measure => omega
          case rel => exact ⟨i + 1, _, rfl, (by rw [show ((i + 1 : Nat) : Int) = (k : Int) by omega]), HBW, hfin, hsz.out, by omega, by omega⟩
        by_cases hc40 : c = 40
        · subst hc40
          have e1 := fun w => run_string_add_sum (P := Tryd.prog) w G E (by first | omega | (simp only [maxLen]; omega))
          have e2 := fun w => run_string_add_sum (P := Tryd.prog) w (G ++ E) G (by simp only [ByteArray.size_append, maxLen]; omega)
          have e3 := fun w => run_string_add_sum (P := Tryd.prog) w x (G ++ E ++ G) (by simp only [ByteArray.size_append, maxLen]; omega)
          have hfin : Hid (Wid ((li X).take (i + 1)) (li (x ++ (G ++ E ++ G)))) := by
            rw [HE.out.2.1, li_app, li_app, li_app, ← HEE.out, HE.out.1]
            refine wid_snoc HI.out (.inr (.inl ⟨?_, _, _, ?_, HGW.out, HGW.out⟩))
            · rw [u8_eq HE.out.2.2.1 (by omega)]; rfl
            · simp
          have hsz : Hid ((x ++ (G ++ E ++ G)).size ≤ 5 * (i + 1)) := by
            refine Lib.hid ?_
            rw [ByteArray.size_append, ByteArray.size_append, ByteArray.size_append]
            have := HGS.out
            omega
          clear HI HES HE HEE HGW
          go_wp2_with fail
          go_roundg g'
          case measure => omega
          case rel => exact ⟨i + 1, _, rfl, (by rw [show ((i + 1 : Nat) : Int) = (k : Int) by omega]), HBW, hfin, hsz.out, by omega, by omega⟩
        by_cases hc41 : c = 41
        · subst hc41
          have e1 := fun w => run_string_add_sum (P := Tryd.prog) w G E (by first | omega | (simp only [maxLen]; omega))
          have e2 := fun w => run_string_add_sum (P := Tryd.prog) w (G ++ E) G (by simp only [ByteArray.size_append, maxLen]; omega)
          have e3 := fun w => run_string_add_sum (P := Tryd.prog) w x (G ++ E ++ G) (by simp only [ByteArray.size_append, maxLen]; omega)
          have hfin : Hid (Wid ((li X).take (i + 1)) (li (x ++ (G ++ E ++ G)))) := by
            rw [HE.out.2.1, li_app, li_app, li_app, ← HEE.out, HE.out.1]
            refine wid_snoc HI.out (.inr (.inl ⟨?_, _, _, ?_, HGW.out, HGW.out⟩))
            · rw [u8_eq HE.out.2.2.1 (by omega)]; rfl
            · simp
          have hsz : Hid ((x ++ (G ++ E ++ G)).size ≤ 5 * (i + 1)) := by
            refine Lib.hid ?_
            rw [ByteArray.size_append, ByteArray.size_append, ByteArray.size_append]
            have := HGS.out
            omega
          clear HI HES HE HEE HGW
          go_wp2_with fail
          go_roundg g'
          case measure => omega
          case rel => exact ⟨i + 1, _, rfl, (by rw [show ((i + 1 : Nat) : Int) = (k : Int) by omega]), HBW, hfin, hsz.out, by omega, by omega⟩
        have e1 := fun w => run_string_add_sum (P := Tryd.prog) w x E (by first | omega | (simp only [maxLen]; omega))
        have hfin : Hid (Wid ((li X).take (i + 1)) (li (x ++ E))) := by
          rw [HE.out.2.1, li_app, ← HEE.out, HE.out.1]
          have hcn : c'.toNat ≠ 32 ∧ c'.toNat ≠ 44 ∧ c'.toNat ≠ 124 ∧ c'.toNat ≠ 40 ∧ c'.toNat ≠ 41 := by rw [HE.out.2.2.1]; exact ⟨hc32, hc44, hc124, hc40, hc41⟩
          refine wid_snoc HI.out (.inr (.inr ⟨?_, ?_, rfl⟩))
          · rintro rfl; exact hcn.1 rfl
          · have h1 : c' ≠ 44 := by rintro rfl; exact hcn.2.1 rfl
            have h2 : c' ≠ 124 := by rintro rfl; exact hcn.2.2.1 rfl
            have h3 : c' ≠ 40 := by rintro rfl; exact hcn.2.2.2.1 rfl
            have h4 : c' ≠ 41 := by rintro rfl; exact hcn.2.2.2.2 rfl
            unfold mk
            rw [decide_eq_false h1, decide_eq_false h2, decide_eq_false h3, decide_eq_false h4]
            rfl
        have hsz : Hid ((x ++ E).size ≤ 5 * (i + 1)) := by
          refine Lib.hid ?_
          rw [ByteArray.size_append]
          omega
        have i32 : ¬ (c : Int) = 32 := by omega
        have i44 : ¬ (c : Int) = 44 := by omega
        have i124 : ¬ (c : Int) = 124 := by omega
        have i40 : ¬ (c : Int) = 40 := by omega
        have i41 : ¬ (c : Int) = 41 := by omega
        clear HI HES HE HEE HGW
        go_wp2_with fail
        go_roundg g'
        case measure => omega
        case rel => exact ⟨i + 1, _, rfl, (by rw [show ((i + 1 : Nat) : Int) = (k : Int) by omega]), HBW, hfin, hsz.out, by omega, by omega⟩
      · have hg' : ¬ (i : Int) < (K : Int) := by omega
        have HGW : Hid (white (li ⟨#[]⟩)) := Lib.hid rfl
        have HGS : Hid ((⟨#[]⟩ : ByteArray).size ≤ 2) := Lib.hid (by decide)
        have hG2 : (⟨#[]⟩ : ByteArray).size = 0 := rfl
        by_cases hc32 : c = 32
        · subst hc32
          have e1 := fun w => run_string_add_sum (P := Tryd.prog) w x ⟨#[]⟩ (by first | omega | (simp only [maxLen]; omega))
          have hfin : Hid (Wid ((li X).take (i + 1)) (li (x ++ ⟨#[]⟩))) := by
            rw [HE.out.2.1, li_app]
            refine wid_snoc HI.out (.inl ⟨?_, HGW.out⟩)
            rw [u8_eq HE.out.2.2.1 (by omega)]; rfl
          have hsz : Hid ((x ++ ⟨#[]⟩).size ≤ 5 * (i + 1)) := by
            refine Lib.hid ?_
            rw [ByteArray.size_append]
            have := HGS.out
            omega
          clear HI HES HE HEE HGW
          go_wp2_with fail
          go_roundg g'
          case measure => omega
          case rel => exact ⟨i + 1, _, rfl, (by rw [show ((i + 1 : Nat) : Int) = (k : Int) by omega]), HB, hfin, hsz.out, by omega, by omega⟩
        by_cases hc44 : c = 44
        · subst hc44
          have e1 := fun w => run_string_add_sum (P := Tryd.prog) w ⟨#[]⟩ E (by first | omega | (simp only [maxLen]; omega))
          have e2 := fun w => run_string_add_sum (P := Tryd.prog) w (⟨#[]⟩ ++ E) ⟨#[]⟩ (by simp only [ByteArray.size_append, maxLen]; omega)
          have e3 := fun w => run_string_add_sum (P := Tryd.prog) w x (⟨#[]⟩ ++ E ++ ⟨#[]⟩) (by simp only [ByteArray.size_append, maxLen]; omega)
          have hfin : Hid (Wid ((li X).take (i + 1)) (li (x ++ (⟨#[]⟩ ++ E ++ ⟨#[]⟩)))) := by
            rw [HE.out.2.1, li_app, li_app, li_app, ← HEE.out, HE.out.1]
            refine wid_snoc HI.out (.inr (.inl ⟨?_, _, _, ?_, HGW.out, HGW.out⟩))
            · rw [u8_eq HE.out.2.2.1 (by omega)]; rfl
            · simp
          have hsz : Hid ((x ++ (⟨#[]⟩ ++ E ++ ⟨#[]⟩)).size ≤ 5 * (i + 1)) := by
            refine Lib.hid ?_
            rw [ByteArray.size_append, ByteArray.size_append, ByteArray.size_append]
            have := HGS.out
            omega
          clear HI HES HE HEE HGW
          go_wp2_with fail
          go_roundg g'
          case measure => omega
          case rel => exact ⟨i + 1, _, rfl, (by rw [show ((i + 1 : Nat) : Int) = (k : Int) by omega]), HB, hfin, hsz.out, by omega, by omega⟩
        by_cases hc124 : c = 124
        · subst hc124
          have e1 := fun w => run_string_add_sum (P := Tryd.prog) w ⟨#[]⟩ E (by first | omega | (simp only [maxLen]; omega))
          have e2 := fun w => run_string_add_sum (P := Tryd.prog) w (⟨#[]⟩ ++ E) ⟨#[]⟩ (by simp only [ByteArray.size_append, maxLen]; omega)
          have e3 := fun w => run_string_add_sum (P := Tryd.prog) w x (⟨#[]⟩ ++ E ++ ⟨#[]⟩) (by simp only [ByteArray.size_append, maxLen]; omega)
          have hfin : Hid (Wid ((li X).take (i + 1)) (li (x ++ (⟨#[]⟩ ++ E ++ ⟨#[]⟩)))) := by
            rw [HE.out.2.1, li_app, li_app, li_app, ← HEE.out, HE.out.1]
            refine wid_snoc HI.out (.inr (.inl ⟨?_, _, _, ?_, HGW.out, HGW.out⟩))
            · rw [u8_eq HE.out.2.2.1 (by omega)]; rfl
            · simp
          have hsz : Hid ((x ++ (⟨#[]⟩ ++ E ++ ⟨#[]⟩)).size ≤ 5 * (i + 1)) := by
            refine Lib.hid ?_
            rw [ByteArray.size_append, ByteArray.size_append, ByteArray.size_append]
            have := HGS.out
            omega
          clear HI HES HE HEE HGW
          go_wp2_with fail
          go_roundg g'
          case measure => omega
          case rel => exact ⟨i + 1, _, rfl, (by rw [show ((i + 1 : Nat) : Int) = (k : Int) by omega]), HB, hfin, hsz.out, by omega, by omega⟩
        by_cases hc40 : c = 40
        · subst hc40
          have e1 := fun w => run_string_add_sum (P := Tryd.prog) w ⟨#[]⟩ E (by first | omega | (simp only [maxLen]; omega))
          have e2 := fun w => run_string_add_sum (P := Tryd.prog) w (⟨#[]⟩ ++ E) ⟨#[]⟩ (by simp only [ByteArray.size_append, maxLen]; omega)
          have e3 := fun w => run_string_add_sum (P := Tryd.prog) w x (⟨#[]⟩ ++ E ++ ⟨#[]⟩) (by simp only [ByteArray.size_append, maxLen]; omega)
          have hfin : Hid (Wid ((li X).take (i + 1)) (li (x ++ (⟨#[]⟩ ++ E ++ ⟨#[]⟩)))) := by
            rw [HE.out.2.1, li_app, li_app, li_app, ← HEE.out, HE.out.1]
            refine wid_snoc HI.out (.inr (.inl ⟨?_, _, _, ?_, HGW.out, HGW.out⟩))
            · rw [u8_eq HE.out.2.2.1 (by omega)]; rfl
            · simp
          have hsz : Hid ((x ++ (⟨#[]⟩ ++ E ++ ⟨#[]⟩)).size ≤ 5 * (i + 1)) := by
            refine Lib.hid ?_
            rw [ByteArray.size_append, ByteArray.size_append, ByteArray.size_append]
            have := HGS.out
            omega
          clear HI HES HE HEE HGW
          go_wp2_with fail
          go_roundg g'
          case measure => omega
          case rel => exact ⟨i + 1, _, rfl, (by rw [show ((i + 1 : Nat) : Int) = (k : Int) by omega]), HB, hfin, hsz.out, by omega, by omega⟩
        by_cases hc41 : c = 41
        · subst hc41
          have e1 := fun w => run_string_add_sum (P := Tryd.prog) w ⟨#[]⟩ E (by first | omega | (simp only [maxLen]; omega))
          have e2 := fun w => run_string_add_sum (P := Tryd.prog) w (⟨#[]⟩ ++ E) ⟨#[]⟩ (by simp only [ByteArray.size_append, maxLen]; omega)
          have e3 := fun w => run_string_add_sum (P := Tryd.prog) w x (⟨#[]⟩ ++ E ++ ⟨#[]⟩) (by simp only [ByteArray.size_append, maxLen]; omega)
          have hfin : Hid (Wid ((li X).take (i + 1)) (li (x ++ (⟨#[]⟩ ++ E ++ ⟨#[]⟩)))) := by
            rw [HE.out.2.1, li_app, li_app, li_app, ← HEE.out, HE.out.1]
            refine wid_snoc HI.out (.inr (.inl ⟨?_, _, _, ?_, HGW.out, HGW.out⟩))
            · rw [u8_eq HE.out.2.2.1 (by omega)]; rfl
            · simp
          have hsz : Hid ((x ++ (⟨#[]⟩ ++ E ++ ⟨#[]⟩)).size ≤ 5 * (i + 1)) := by
            refine Lib.hid ?_
            rw [ByteArray.size_append, ByteArray.size_append, ByteArray.size_append]
            have := HGS.out
            omega
          clear HI HES HE HEE HGW
          go_wp2_with fail
          go_roundg g'
          case measure => omega
          case rel => exact ⟨i + 1, _, rfl, (by rw [show ((i + 1 : Nat) : Int) = (k : Int) by omega]), HB, hfin, hsz.out, by omega, by omega⟩
        have e1 := fun w => run_string_add_sum (P := Tryd.prog) w x E (by first | omega | (simp only [maxLen]; omega))
        have hfin : Hid (Wid ((li X).take (i + 1)) (li (x ++ E))) := by
          rw [HE.out.2.1, li_app, ← HEE.out, HE.out.1]
          have hcn : c'.toNat ≠ 32 ∧ c'.toNat ≠ 44 ∧ c'.toNat ≠ 124 ∧ c'.toNat ≠ 40 ∧ c'.toNat ≠ 41 := by rw [HE.out.2.2.1]; exact ⟨hc32, hc44, hc124, hc40, hc41⟩
          refine wid_snoc HI.out (.inr (.inr ⟨?_, ?_, rfl⟩))
          · rintro rfl; exact hcn.1 rfl
          · have h1 : c' ≠ 44 := by rintro rfl; exact hcn.2.1 rfl
            have h2 : c' ≠ 124 := by rintro rfl; exact hcn.2.2.1 rfl
            have h3 : c' ≠ 40 := by rintro rfl; exact hcn.2.2.2.1 rfl
            have h4 : c' ≠ 41 := by rintro rfl; exact hcn.2.2.2.2 rfl
            unfold mk
            rw [decide_eq_false h1, decide_eq_false h2, decide_eq_false h3, decide_eq_false h4]
            rfl
        have hsz : Hid ((x ++ E).size ≤ 5 * (i + 1)) := by
          refine Lib.hid ?_
          rw [ByteArray.size_append]
          omega
        have i32 : ¬ (c : Int) = 32 := by omega
        have i44 : ¬ (c : Int) = 44 := by omega
        have i124 : ¬ (c : Int) = 124 := by omega
        have i40 : ¬ (c : Int) = 40 := by omega
        have i41 : ¬ (c : Int) = 41 := by omega
        clear HI HES HE HEE HGW
        go_wp2_with fail
        go_roundg g'
        case measure => omega
        case rel => exact ⟨i + 1, _, rfl, (by rw [show ((i + 1 : Nat) : Int) = (k : Int) by omega]), HB, hfin, hsz.out, by omega, by omega⟩
    · obtain rfl : i = X.size := by omega
      have hi : (li X).take X.size = text l := by rw [← li_len, List.take_length, HX.out.2]
      have hw := HI.out
      rw [hi] at hw
      have hx5 : x.size ≤ 50000 := by omega
      have HV3 := Lib.hid (HV2.out.on HB.out)
      have HK3 := Lib.hid (tr HK2.out HB.out)
      have HM3 := Lib.hid (HM2.out.below HB.out)
      have cp := wParse l x wr HX.out.1 hw hx5 HV3.out
      have z1 : (⟨#[32]⟩ : ByteArray).size = 1 := rfl
      have z2 : (⟨#[9]⟩ : ByteArray).size = 1 := rfl
      have e1 := fun w => run_string_add_sum (P := Tryd.prog) w ⟨#[32]⟩ x (by simp only [z1, maxLen]; omega)
      have e2 := fun w => run_string_add_sum (P := Tryd.prog) w (⟨#[32]⟩ ++ x) ⟨#[9]⟩ (by simp only [ByteArray.size_append, z1, z2, maxLen]; omega)
      have hnl : ¬ (X.size : Int) < (X.size : Int) := by omega
      clear hi hw HI HB HX hfu his hlt hx5 hxs z1 z2 HV2 HK2 HM2 HG2 hz
      go_wp2_with fail
      refine cp.mono ?_
      rintro e w5 ⟨k5, v5, rfl, m5⟩
      have HV4 := Lib.hid (HV3.out.on k5)
      have HK4 := Lib.hid (tr HK3.out k5)
      have cs := sameClauses_any _ v5 _ _ w5 (HM3.out.below k5) m5
      rw [decide_eq_true rfl, EL.out] at cs
      obtain ⟨a5, b5, e5⟩ := m5.shape
      rw [EL.out] at e5
      subst e5
      clear cp k5 m5 HV3 HK3 HM3 e1 e2
      go_wp2_with fail
      refine cs.mono ?_
      rintro e w6 ⟨rfl, hd6⟩
      have k6 := drewn_below hd6
      have HV5 := Lib.hid (HV4.out.on k6)
      have HK5 := Lib.hid (tr HK4.out k6)
      clear cs hd6 k6 HV4 HK4
      go_wp2_with fail
      refine (awake_any _ HV5.out).mono ?_
      rintro e w4 ⟨rfl, k4⟩
      have K4 := tr HK5.out k4
      go_wp2_with fail
      go_ret
      exact ⟨rfl, K4⟩
end Rl
end Go.Proofs.YtddfjndclgapcaaDoor

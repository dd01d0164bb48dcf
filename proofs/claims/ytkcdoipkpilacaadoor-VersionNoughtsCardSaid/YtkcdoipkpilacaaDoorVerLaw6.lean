/-
Noughts ahead of digits: the walk of the law VersionNoughts.
-/
import Derived.Test.YtkcdoipkpilacaaDoorVerAwake
namespace Go.Proofs.YtkcdoipkpilacaaDoor
open Go.RowKit
set_option linter.unusedSimpArgs false
set_option linter.unusedVariables false
namespace Ver
open Txt (b b_eq b_lt)
/-- Noughts ahead of each row of digits; the first word: does a digit stand ahead? -/
def nough (z : Bs) : Bool → Bs → Bs
  | _, [] => []
  | p, c :: r => if dig c = true ∧ p = false then z ++ c :: nough z true r else c :: nough z (dig c) r
theorem key_zeros (y : Bs) : ∀ m : Nat, key (some 0) (List.replicate m 48 ++ y) = key (some 0) y
  | 0 => rfl
  | m + 1 => by
    rw [List.replicate_succ, List.cons_append, key, if_pos (by decide)]
    show key (some (10 * 0 + dv 48)) _ = _
    rw [show 10 * 0 + dv 48 = 0 by decide]
    exact key_zeros y m
theorem key_nough (n : Nat) : ∀ l : Bs, key none (nough (List.replicate n 48) false l) = key none l ∧ ∀ v, key (some v) (nough (List.replicate n 48) true l) = key (some v) l
  | [] => ⟨rfl, fun _ => rfl⟩
  | c :: r => by
    obtain ⟨h1, h2⟩ := key_nough n r
    constructor
    · unfold nough
      cases hc : dig c
      · rw [if_neg (by simp), key, key, hc, if_neg (by simp), if_neg (by simp), h1]
      · rw [if_pos ⟨rfl, rfl⟩]
        cases n with
        | zero =>
          show key none (c :: nough [] true r) = _
          rw [key, key, hc, if_pos rfl, if_pos rfl]
          exact congrArg _ (h2 _)
        | succ m =>
          rw [List.replicate_succ, List.cons_append, key, if_pos (by decide)]
          show 0 :: key (some (dv 48)) _ = _
          rw [show dv 48 = 0 by decide, key_zeros, key, hc, if_pos rfl, key, hc, if_pos rfl, Nat.mul_zero, Nat.zero_add]
          rw [← List.replicate_succ]
          exact congrArg _ (h2 _)
    · intro v
      unfold nough
      rw [if_neg (by simp)]
      cases hc : dig c
      · rw [key, key, hc, if_neg (by simp), if_neg (by simp), h1]
      · rw [key, key, hc, if_pos rfl, if_pos rfl, h2]
theorem part_nough (n : Nat) (l r : Bs) : part l (nough (List.replicate n 48) false l) = 0 ∧ part (nough (List.replicate n 48) false l) r = part l r := by
  unfold part
  rw [(key_nough n l).1]
  exact ⟨lex_self _, rfl⟩
theorem li_app6 (x y : ByteArray) : li (x ++ y) = li x ++ li y := by
  show (x ++ y).data.toList = _
  rw [ByteArray.data_append, Array.toList_append]
theorem modU (n : Int) (m : Nat) (h0 : 0 < m) : ∃ N : Nat, (IntKind.u64.wrap n).tmod m = (N : Int) ∧ N < m := by
  have h1 : 0 ≤ IntKind.u64.wrap n := by rw [IntKind.wrap_u64]; omega
  obtain ⟨k, hk⟩ := Int.eq_ofNat_of_zero_le h1
  rw [hk]
  exact ⟨k % m, rfl, Nat.mod_lt _ h0⟩
/-- Does a digit stand ahead of the place i? -/
def prevD (s : ByteArray) (i : Nat) : Bool := !decide (i = 0) && digN (b s (i - 1))
set_option maxRecDepth 100000 in
set_option maxHeartbeats 8000000 in
theorem noughts_walk (s0 s1 : ByteArray) (a2 : Int) (w : World) (w0 : s0.size ≤ 140737488351232) (w1 : s1.size ≤ 140737488351232) (hm : MaxLen w) :
    Calls Tryd.prog 10 #[.string s0, .string s1, .int .i64 a2] w fun e w' => e = .returned (.bool true) ∧ Below w.heap.size w w' := by
  obtain ⟨n, hn, hn30⟩ := modU a2 30 (by omega)
  rw [show ((30 : Nat) : Int) = 30 from rfl] at hn
  have HM := Lib.hid hm
  clear hm
  go_enter Tryd.func10, Tryd.ntmps10
  go_wp2_with fail
  clear hn
  go_loopg [7, 14] n (fun gf s7 s14 wx => ∃ (pos : Nat) (z : ByteArray), s7 = .string z ∧ s14 = .int .u64 pos ∧ wx = w ∧ Hid (li z = List.replicate pos 48) ∧ z.size = pos ∧ n ≤ pos + gf ∧ pos ≤ n)
  case atStart => exact ⟨0, _, rfl, rfl, rfl, rfl, rfl, by omega, by omega⟩
  case round =>
    obtain ⟨pos, z, rfl, rfl, rfl, HZ, hzs, hfu, hps⟩ := hrel
    by_cases hlt : pos < n
    · obtain ⟨g', rfl⟩ : ∃ g', gk = g' + 1 := ⟨gk - 1, by omega⟩
      have hlt' : (pos : Int) < (n : Int) := by omega
      have hq : ¬ (z.size + 1 > 9223372036854775807) := by omega
      have HZ2 : Hid (li (z ++ (⟨#[48]⟩ : ByteArray)) = List.replicate (pos + 1) 48) := by
        rw [li_app6, HZ.out, List.replicate_succ']; rfl
      have HS2 : Hid ((z ++ (⟨#[48]⟩ : ByteArray)).size = pos + 1) := by
        rw [ByteArray.size_append, hzs]; rfl
      have hw1 : IntKind.u64.wrap ((pos : Int) + 1) = (pos : Int) + 1 := by rw [IntKind.wrap_u64]; omega
      clear HZ hzs
      go_wp2_with fail
      go_roundg g'
      case measure => omega
      case rel => exact ⟨pos + 1, _, rfl, by go_num, rfl, HZ2, HS2.out, by omega, by omega⟩
    · have hge : ¬ (pos : Int) < (n : Int) := by omega
      obtain rfl : pos = n := by omega
      obtain ⟨Z, hZ⟩ : ∃ Z, li z = Z := ⟨_, rfl⟩
      have HZR : Hid (Z = List.replicate pos 48) := by rw [← hZ]; exact HZ
      have HZL := Lib.hid hZ
      clear HZ hZ
      obtain ⟨R, hR⟩ : ∃ R, nough Z false (li s0) = R := ⟨_, rfl⟩
      have HR := Lib.hid hR
      clear hR
      go_wp2_with fail
      go_loopg [8, 21] s0.size (fun gf s8 s21 wx => ∃ (i : Nat) (x : ByteArray), s8 = .string x ∧ s21 = .int .i64 i ∧ wx = wr ∧ Hid (li x ++ nough Z (prevD s0 i) ((li s0).drop i) = R) ∧ x.size ≤ 40 * i ∧ s0.size ≤ i + gf ∧ i ≤ s0.size)
      case atStart => exact ⟨0, _, rfl, rfl, rfl, (by rw [List.drop_zero]; exact HR.out), Nat.le_refl 0, by omega, by omega⟩
      case round =>
        obtain ⟨i, x, rfl, rfl, rfl, HI, hxs, hfu2, his⟩ := hrel
        by_cases hlt2 : i < s0.size
        · obtain ⟨g', rfl⟩ : ∃ g', gk = g' + 1 := ⟨gk - 1, by omega⟩
          obtain ⟨k, hk⟩ : ∃ k, i + 1 = k := ⟨_, rfl⟩
          have hsum : (i : Int) + 1 = (k : Int) := by omega
          have hwr : IntKind.i64.wrap (k : Int) = (k : Int) := IntWalk.i64_in _ (by omega)
          have hlt2' : (i : Int) < (s0.size : Int) := by omega
          have j1 : (i : Int) ≤ (k : Int) := by omega
          have j2 : (k : Int) ≤ (s0.size : Int) := by omega
          have hes : (s0.extract i k).size = 1 := by simp [ByteArray.size_extract]; omega
          have hbc := b_eq s0 i hlt2
          have hbl := b_lt s0 i
          have hprev : prevD s0 k = digN (b s0 i) := by
            unfold prevD
            rw [← hk]
            simp
          obtain ⟨c', hc', hcb⟩ := li_drop s0 i hlt2
          have hle : li (s0.extract i k) = [c'] := by
            rw [li_ext s0 i k (by omega), hc', show k - i = 1 by omega]; rfl
          have hI := HI.out
          rw [hc', hk] at hI
          unfold nough at hI
          rw [dig_n, hcb] at hI
          obtain ⟨c, hcc⟩ : ∃ c, b s0 i = c := ⟨_, rfl⟩
          rw [hcc] at hbc hbl hprev hI
          have hsA : ¬ (x.size + z.size > 9223372036854775807) := by omega
          have hsB : ¬ (x.size + z.size + 1 > 9223372036854775807) := by omega
          have hsC : ¬ (x.size + 1 > 9223372036854775807) := by omega
          have HZX : Hid ((x ++ z ++ s0.extract i k).size ≤ 40 * (i + 1)) := by
            rw [ByteArray.size_append, ByteArray.size_append, hes]
            show x.size + z.size + 1 ≤ 40 * (i + 1)
            omega
          have HZX2 : Hid ((x ++ s0.extract i k).size ≤ 40 * (i + 1)) := by
            rw [ByteArray.size_append, hes]
            show x.size + 1 ≤ 40 * (i + 1)
            omega
          have HL3 : Hid (li (x ++ z ++ s0.extract i k) = li x ++ (Z ++ [c'])) := by
            rw [li_app6, li_app6, hle, HZL.out, List.append_assoc]
            exact rfl
          have HL2 : Hid (li (x ++ s0.extract i k) = li x ++ [c']) := by
            rw [li_app6, hle]
            exact rfl
          have HI2 := Lib.hid hI
          have HPV : Hid (prevD s0 (i + 1) = digN c) := by rw [hk]; exact hprev
          have HDK : Hid ((li s0).drop (i + 1) = (li s0).drop k) := by rw [hk]; exact rfl
          clear hc' hcb hle hI hprev HI hcc
          by_cases hd : digN c = true
          · have hd1 : 48 ≤ c ∧ c ≤ 57 := by unfold digN at hd; simp at hd; omega
            have hd1' : (48 : Int) ≤ (c : Int) := by omega
            have hd2' : (c : Int) ≤ 57 := by omega
            by_cases hp : prevD s0 i = true
            · have hI3 := HI2.out
              rw [hp, if_neg (by simp)] at hI3
              have HM2 : Hid (li (x ++ s0.extract i k) ++ nough Z (prevD s0 (i + 1)) ((li s0).drop (i + 1)) = R) := by
                rw [HL2.out, HPV.out, HDK.out, hd, List.append_assoc]
                rw [hd] at hI3
                exact hI3
              have hi0 : ¬ i = 0 := fun e => by subst e; unfold prevD at hp; simp at hp
              have hi0' : ¬ (i : Int) = 0 := by omega
              obtain ⟨q, hq⟩ : ∃ q, i = q + 1 := ⟨i - 1, by omega⟩
              have hpq : digN (b s0 q) = true := by
                unfold prevD at hp
                rw [show i - 1 = q by omega] at hp
                simp at hp; exact hp.2
              have hsub : (i : Int) - 1 = (q : Int) := by omega
              have hqs : q < s0.size := by omega
              have hqs' : (q : Int) < (s0.size : Int) := by omega
              have hqw : IntKind.i64.wrap (q : Int) = (q : Int) := IntWalk.i64_in _ (by omega)
              have hqc := b_eq s0 q hqs
              have hql := b_lt s0 q
              obtain ⟨d, hdd⟩ : ∃ d, b s0 q = d := ⟨_, rfl⟩
              rw [hdd] at hqc hql hpq
              have hq1 : ¬ (d : Int) < 48 := by unfold digN at hpq; simp at hpq; omega
              have hq2 : ¬ 57 < (d : Int) := by unfold digN at hpq; simp at hpq; omega
              have HSZ := HZX2
              clear hI3 HI2 HL3 HL2 HPV HDK hp hpq hdd hq hd hk HZX HZX2
              go_wp2_with fail
              go_roundg g'
              case measure => omega
              case rel => exact ⟨i + 1, _, rfl, by go_num, rfl, HM2, HSZ.out, by omega, by omega⟩
            · have hpf : prevD s0 i = false := Bool.eq_false_iff.2 hp
              have hI3 := HI2.out
              rw [hpf, if_pos ⟨hd, rfl⟩] at hI3
              have HM2 : Hid (li (x ++ z ++ s0.extract i k) ++ nough Z (prevD s0 (i + 1)) ((li s0).drop (i + 1)) = R) := by
                rw [HL3.out, HPV.out, HDK.out, hd, List.append_assoc, List.append_assoc]
                exact hI3
              have HSZ := HZX
              by_cases hi0 : (i : Int) = 0
              · have hi00 : i = 0 := by omega
                have hk1 : k = 1 := by omega
                clear hI3 HI2 HL3 HL2 HPV HDK hp hpf hd hk HZX HZX2
                subst hi00
                subst hk1
                have j3 : (1 : Int) ≤ (s0.size : Int) := by omega
                clear hsum hwr j1 j2 hi0
                go_wp2_with fail
                go_roundg g'
                case measure => omega
                case rel => exact ⟨0 + 1, _, rfl, by first | rfl | go_num, rfl, HM2, HSZ.out, by omega, by omega⟩
              · obtain ⟨q, hq⟩ : ∃ q, i = q + 1 := ⟨i - 1, by omega⟩
                have hpq : digN (b s0 q) = false := by
                  unfold prevD at hpf
                  rw [show i - 1 = q by omega] at hpf
                  simp at hpf
                  exact hpf (by omega)
                have hsub : (i : Int) - 1 = (q : Int) := by omega
                have hqs : q < s0.size := by omega
                have hqs' : (q : Int) < (s0.size : Int) := by omega
                have hqw : IntKind.i64.wrap (q : Int) = (q : Int) := IntWalk.i64_in _ (by omega)
                have hqc := b_eq s0 q hqs
                have hql := b_lt s0 q
                obtain ⟨d, hdd⟩ : ∃ d, b s0 q = d := ⟨_, rfl⟩
                rw [hdd] at hqc hql hpq
                have hq1 : (d : Int) < 48 ∨ (¬ (d : Int) < 48 ∧ 57 < (d : Int)) := by unfold digN at hpq; simp at hpq; omega
                clear hI3 HI2 HL3 HL2 HPV HDK hp hpf hpq hdd hq hd hk HZX HZX2
                rcases hq1 with hq1 | ⟨hq1, hq2⟩
                all_goals
                  go_wp2_with fail
                  go_roundg g'
                  case measure => omega
                  case rel => exact ⟨i + 1, _, rfl, by go_num, rfl, HM2, HSZ.out, by omega, by omega⟩
          · have hdf : digN c = false := Bool.eq_false_iff.2 hd
            have hI3 := HI2.out
            rw [if_neg (by simp [hdf])] at hI3
            have HM2 : Hid (li (x ++ s0.extract i k) ++ nough Z (prevD s0 (i + 1)) ((li s0).drop (i + 1)) = R) := by
              rw [HL2.out, HPV.out, HDK.out, List.append_assoc]
              exact hI3
            have HSZ := HZX2
            have hq1 : (c : Int) < 48 ∨ (¬ (c : Int) < 48 ∧ ¬ (c : Int) ≤ 57) := by unfold digN at hdf; simp at hdf; omega
            clear hI3 HI2 HL3 HL2 HPV HDK hd hdf hk HZX HZX2
            rcases hq1 with hq1 | ⟨hq1, hq2⟩
            all_goals
              go_wp2_with fail
              go_roundg g'
              case measure => omega
              case rel => exact ⟨i + 1, _, rfl, by go_num, rfl, HM2, HSZ.out, by omega, by omega⟩
        · have hge2 : ¬ (i : Int) < (s0.size : Int) := by omega
          have hI := HI.out
          rw [List.drop_eq_nil_of_le (by rw [li_len]; omega)] at hI
          have hx : li x = nough (List.replicate pos 48) false (li s0) := by
            rw [← HZR.out, HR.out]
            rw [show nough Z (prevD s0 i) [] = [] by cases prevD s0 i <;> rfl, List.append_nil] at hI
            exact hI
          have c1 := part_any s0 x wr (by omega) (by omega)
          have c2 := fun w => part_any x s1 w (by omega) (by omega)
          have c3 := fun w => part_any s0 s1 w (by omega) (by omega)
          rw [hx, (part_nough pos (li s0) []).1] at c1
          rw [hx, (part_nough pos (li s0) (li s1)).2] at c2
          generalize part (li s0) (li s1) = m at *
          clear hI hx HI
          go_wp2_with fail
          refine c1.mono ?_
          rintro e u1 ⟨rfl, k1⟩
          go_wp2_with fail
          refine (c2 _).mono ?_
          rintro e u2 ⟨rfl, k⟩
          have k2 := k1.trans (k.mono k1.size)
          clear k k1
          go_wp2_with fail
          refine (c3 _).mono ?_
          rintro e u3 ⟨rfl, k⟩
          have k3 := k2.trans (k.mono k2.size)
          have aw := awake_any u3 (HM.out.on k3)
          clear k k2 c1 c2 c3
          go_wp2_with fail
          refine aw.mono ?_
          rintro e u4 ⟨rfl, k⟩
          go_wp2_with fail
          go_ret
          exact ⟨rfl, k3.trans (k.mono k3.size)⟩
end Ver
end Go.Proofs.YtkcdoipkpilacaaDoor

/-
The walk of the law StanzaMany.
-/
import Derived.Test.YtgolnfgkoolpoaaDoorStzMany
import Derived.Test.YtgolnfgkoolpoaaDoorStzRef
import Derived.Test.YtgolnfgkoolpoaaDoorStzSameK
import Derived.Deep.AppendSrc
namespace Go.Proofs.YtgolnfgkoolpoaaDoor
open Go.RowKit
set_option linter.unusedSimpArgs false
set_option linter.unusedVariables false
namespace Stz
open Txt (tabs_below tabs_lt MaxLen)
theorem modU (n : Int) (m : Nat) (h0 : 0 < m) : ∃ N : Nat, (IntKind.u64.wrap n).tmod m = (N : Int) ∧ N < m := by
  have h1 : 0 ≤ IntKind.u64.wrap n := by rw [IntKind.wrap_u64]; omega
  obtain ⟨k, hk⟩ := Int.eq_ofNat_of_zero_le h1
  rw [hk]
  exact ⟨k % m, rfl, Nat.mod_lt _ h0⟩
/-- append(row of mine, string...) -/
theorem append_str {w : World} {ops : Array Oper} {rest : List Oper} {o : Oper} {a : Act} {Q : Exit → Act → World → Prop} (hgd : o.guard = none) (s x : Operand)
    (ho : o.op = .call { callee := .builtin .append, args := #[s, x], argTypes := #[22, 9] })
    (base : Nat) (v : Value) (xs : List Int) (hv : a.eval s = v) (hm : Mine w base v xs) (t : ByteArray) (hx : a.eval x = .string t) (zs : List Int) (hz : byteCells t = bcells zs) (hb : Byte zs)
    (hlen : xs.length + zs.length ≤ 140737488355328) (hbase : base ≤ w.heap.size)
    (h : ∀ v' w', Mine w' base v' (xs ++ zs) → w.grownBy w' v.ownBlock → wpList Tryd.prog ops Q rest (a.put o.dst v') w') : wpList Tryd.prog ops Q (o :: rest) a w := by
  obtain ⟨i0, hi, hz0, hz1, hz2⟩ := info_parts infoU8
  have hl : t.size = zs.length := by
    have := congrArg List.length hz
    simpa [byteCells] using this
  refine Own.wpList_append_src hgd s x 22 9 ho base 5 i0 _ 1 1 Tryd.underlying22 hi hz0 hz1 hz2 rfl v xs.length _ hv hm.1 _ t.size _ hx (Src.ofString w Tryd.underlying9 t) (by simp only [maxLen]; omega) (by omega) hbase fun v' w' h1 h2 => ?_
  refine h v' w' ⟨?_, hm.2.append hb⟩ h2
  rw [List.length_append, ← hl]
  simpa [bcells, hz] using h1
set_option maxRecDepth 100000 in
set_option maxHeartbeats 4000000 in
theorem stanzaMany_walk (n : Int) (fields : Bool) (w : World) (hT : Lib.Utf8Tabs 1 2 w) (hm : MaxLen w) :
    Calls Tryd.prog 6 #[.int .i64 n, .bool fields] w fun e w' => e = .returned (.bool true) ∧ Below w.heap.size w w' := by
  have hl := tabs_lt hT
  have hml := Lib.hid hm.lt
  have HT := Lib.hid hT
  have HMM := Lib.hid hm
  obtain ⟨M, hM, hM4⟩ := modU n 4 (by omega)
  rw [show ((4 : Nat) : Int) = 4 from rfl] at hM
  clear hT hm
  go_enter Tryd.func6, Tryd.ntmps6
  cases fields with
  | true =>
    have HMANY : Hid (∀ l er nn, PR (strOfNums (fieldNums (38 + M))) l er nn → decide (er = 12) = decide (2 < M)) := Lib.hid (fun l er nn h => by
      obtain ⟨l', e', n', h', he⟩ := fieldNums_many M hM4
      obtain ⟨rfl, rfl, rfl⟩ := h.uniq h'
      exact he)
    go_wp2_with fail
    clear hM
    go_loopg [5, 18] (38 + M) (fun gf s5 s18 wx => ∃ (k : Nat), s18 = .int .i64 k ∧ k ≤ 38 + M ∧ 38 + M ≤ k + gf ∧ Hid (Mine wx w.heap.size s5 (fieldNums k)) ∧ Hid (Below w.heap.size w wx))
    case atStart => exact ⟨0, rfl, by omega, by omega, Lib.hid (mine_none _ _), Lib.hid (Below.refl _ _)⟩
    case round =>
      obtain ⟨k, rfl, hk1, hk2, HM, HB⟩ := hrel
      have hsz : w.heap.size ≤ wr.heap.size := HB.out.size
      by_cases hk : k < 38 + M
      · have hk' : (k : Int) < 38 + (M : Int) := by omega
        have hln := fieldNums_len k
        have q1 : (k : Int).tmod 26 = ((k % 26 : Nat) : Int) := rfl
        have q2 : (k : Int).tdiv 26 = ((k / 26 : Nat) : Int) := rfl
        have q3 : k % 26 < 26 := Nat.mod_lt _ (by omega)
        have q4 : k / 26 < 2 := by omega
        have q5 : fieldNums (k + 1) = fieldNums k ++ [102, 97 + ((k % 26 : Nat) : Int), 97 + ((k / 26 : Nat) : Int), 58, 10] := rfl
        have Q5 := Lib.hid q5
        clear q5
        obtain ⟨x, hx⟩ : ∃ x, k % 26 = x := ⟨_, rfl⟩
        obtain ⟨y, hy⟩ : ∃ y, k / 26 = y := ⟨_, rfl⟩
        rw [hx] at q1 q3 Q5
        rw [hy] at q2 q4 Q5
        clear hx hy
        have bA : Below wr.heap.size wr (wr.alloc (.cells #[.int .u8 102, .int .u8 (97 + (x : Int)), .int .u8 (97 + (y : Int)), .int .u8 58, .int .u8 10] 5)) := (Below.refl _ _).alloc (Nat.le_refl _) _
        have iA := Blk.Is.new wr 5 #[.int .u8 102, .int .u8 (97 + (x : Int)), .int .u8 (97 + (y : Int)), .int .u8 58, .int .u8 10]
        have rA : Row (wr.alloc (.cells #[.int .u8 102, .int .u8 (97 + (x : Int)), .int .u8 (97 + (y : Int)), .int .u8 58, .int .u8 10] 5)) (some ⟨wr.heap.size, 0, none⟩) 5 [102, 97 + (x : Int), 97 + (y : Int), 58, 10] := Row.ofIs iA 0 5 _ rfl (by decide) (fun z hz => by
          simp only [List.mem_cons, List.not_mem_nil, or_false] at hz
          omega) (fun j hj => by
          rcases j with _ | _ | _ | _ | _ | j <;> first | rfl | omega)
        have RA := Lib.hid rA
        have HM2 := Lib.hid (HM.out.below bA)
        have HB2 := Lib.hid (HB.out.trans (bA.mono hsz))
        have sA := bA.size
        clear bA iA rA HM HB
        go_wp2_with (at_builtin; refine append_bytes rfl (.tmp 21) (.tmp 30) rfl w.heap.size _ _ rfl HM2.out (some ⟨wr.heap.size, 0, none⟩) 5 5 rfl _ RA.out (by intro h; cases h) ?_ ?_ ?_)
        · show (fieldNums k).length + 5 ≤ _; omega
        · exact Nat.le_trans hsz sA
        intro v4 w4 hm4 hg4
        have HM4 := Lib.hid (show Mine w4 w.heap.size v4 (fieldNums (k + 1)) by rw [Q5.out]; exact hm4)
        have HB4 := Lib.hid (Own.below_grown HB2.out HM2.out.1 hg4 (Nat.le_trans hsz sA))
        clear hm4 hg4 HM2 HB2 RA sA Q5
        go_wp2_with fail
        go_roundg (gk - 1)
        case measure => omega
        case rel => exact ⟨k + 1, by go_num, by omega, by omega, HM4, HB4⟩
      · obtain rfl : k = 38 + M := by omega
        clear hk hk1 hk2
        obtain ⟨nB, aB, cB, rfl, hcB, hlB, rB⟩ := HM.out.rows
        have c1 := parse_any aB nB cB _ wr rB (tabs_below HT.out HB.out hl) (HMM.out.below HB.out hml.out)
        have HR := Lib.hid rB
        have HCB := Lib.hid hcB
        clear HM rB hcB hlB
        go_wp2_with fail
        refine c1.mono ?_
        rintro e w1 ⟨v1, l, er, nn, rfl, h1, _, t1, b1⟩
        have HMN := Lib.hid (HMANY.out l er nn h1)
        have H1 := Lib.hid h1
        have T1 := Lib.hid t1
        have B1 := Lib.hid (HB.out.trans (b1.mono hsz))
        have B1' := Lib.hid b1
        clear h1 t1 b1 c1 HB hsz HMANY
        go_wp2_with fail
        have b0 : Below w1.heap.size w1 (w1.alloc (.cells #[.int .i64 er, .int .i64 nn] 26)) := (Below.refl _ _).alloc (Nat.le_refl _) _
        have bA : Below w.heap.size w (w1.alloc (.cells #[.int .i64 er, .int .i64 nn] 26)) := B1.out.trans (b0.mono B1.out.size)
        have iA := Blk.Is.new w1 26 #[.int .i64 er, .int .i64 nn]
        have T2 := Lib.hid (T1.out.below b0)
        have R2 := Lib.hid ((HR.out.below B1'.out).below b0)
        have sA : w1.heap.size < (w1.alloc (.cells #[.int .i64 er, .int .i64 nn] 26)).heap.size := by simp
        obtain ⟨W, hW⟩ : ∃ W, w1.alloc (.cells #[.int .i64 er, .int .i64 nn] 26) = W := ⟨_, rfl⟩
        rw [hW] at bA iA sA T2 R2 ⊢
        refine (ystanzas_any aB nB cB _ W R2.out HCB.out).mono ?_
        rintro e w2 ⟨v2, l', er', n', rfl, h2, _, t2, b2⟩
        obtain ⟨rfl, rfl, rfl⟩ := H1.out.uniq h2
        have T3 := Lib.hid (T2.out.below b2)
        have T4 := Lib.hid t2
        have I2 := Lib.hid (show Blk.Is w2 w1.heap.size 26 #[.int .i64 er, .int .i64 nn] from (b2.block _ sA).trans iA)
        have B2 := Lib.hid (bA.trans (b2.mono bA.size))
        have s2 : w1.heap.size < w2.heap.size := Nat.lt_of_lt_of_le sA b2.size
        clear h2 t2 b2 bA iA T2 T1 R2 hW sA H1 b0 HR HCB B1 B1'
        go_wp2_with fail
        have nA : Below w2.heap.size w2 (w2.alloc (.cells #[.int .i64 er, .int .i64 nn] 26)) := (Below.refl _ _).alloc (Nat.le_refl _) _
        refine (sameStanzas_yes v1 v2 l l true _ (T3.out.below nA) (T4.out.below nA) (Like.refl l) (fun _ => rfl)).mono ?_
        rintro e w3 ⟨rfl, b3⟩
        have iB := Blk.Is.new w2 26 #[.int .i64 er, .int .i64 nn]
        have I3 : Blk.Is w3 w1.heap.size 26 #[.int .i64 er, .int .i64 nn] := (b3.block _ (by simp; omega)).trans (I2.out.alloc _)
        have I4 : Blk.Is w3 w2.heap.size 26 #[.int .i64 er, .int .i64 nn] := (b3.block _ (by simp)).trans iB
        have B3 := Lib.hid ((B2.out.trans (nA.mono B2.out.size)).trans (b3.mono (Nat.le_trans B2.out.size nA.size)))
        have i0 : w3.cell? ⟨w1.heap.size, 0, none⟩ = some (.int .i64 er) := I3.at rfl
        have i1 : w3.cell? ⟨w1.heap.size, 1, none⟩ = some (.int .i64 nn) := I3.at rfl
        have j0 : w3.cell? ⟨w2.heap.size, 0, none⟩ = some (.int .i64 er) := I4.at rfl
        have j1 : w3.cell? ⟨w2.heap.size, 1, none⟩ = some (.int .i64 nn) := I4.at rfl
        clear nA b3 iB I3 I4 T3 T4 B2
        by_cases hmy : 2 < M
        · have he : er = 12 := by have := HMN.out; rw [decide_eq_true hmy] at this; exact of_decide_eq_true this
          subst he
          clear HMN
          go_wp2_with fail
          refine (awake_any w3 (tabs_below HT.out B3.out hl) (HMM.out.below B3.out hml.out)).mono ?_
          rintro e w4 ⟨rfl, b4⟩
          have B4 := Lib.hid (B3.out.trans (b4.mono B3.out.size))
          clear b4 B3
          go_wp2_with fail
          go_ret
          exact ⟨rfl, B4.out⟩
        · have he : er ≠ 12 := by have := HMN.out; rw [decide_eq_false hmy] at this; exact of_decide_eq_false this
          have he1 : ¬ (er : Int) = 12 := by omega
          have hmy' : ¬ (2 : Int) < (M : Int) := by omega
          have he2 : ((er : Int) == 12) = false := by simpa using he1
          have hmd : decide ((2 : Int) < (M : Int)) = false := decide_eq_false hmy'
          clear HMN he
          go_wp2_with fail
          refine (awake_any w3 (tabs_below HT.out B3.out hl) (HMM.out.below B3.out hml.out)).mono ?_
          rintro e w4 ⟨rfl, b4⟩
          have B4 := Lib.hid (B3.out.trans (b4.mono B3.out.size))
          clear b4 B3
          go_wp2_with fail
          go_ret
          exact ⟨rfl, B4.out⟩
  | false =>
    have HMANY : Hid (∀ l er nn, PR (strOfNums (szNums (198 + M))) l er nn → decide (er = 12) = decide (2 < M)) := Lib.hid (fun l er nn h => by
      obtain ⟨l', e', n', h', he⟩ := szNums_many M hM4
      obtain ⟨rfl, rfl, rfl⟩ := h.uniq h'
      exact he)
    go_wp2_with fail
    clear hM
    go_loopg [5, 35] (198 + M) (fun gf s5 s35 wx => ∃ (k : Nat), s35 = .int .i64 k ∧ k ≤ 198 + M ∧ 198 + M ≤ k + gf ∧ Hid (Mine wx w.heap.size s5 (szNums k)) ∧ Hid (Below w.heap.size w wx))
    case atStart => exact ⟨0, rfl, by omega, by omega, Lib.hid (mine_none _ _), Lib.hid (Below.refl _ _)⟩
    case round =>
      obtain ⟨k, rfl, hk1, hk2, HM, HB⟩ := hrel
      have hsz : w.heap.size ≤ wr.heap.size := HB.out.size
      by_cases hk : k < 198 + M
      · have hk' : (k : Int) < 198 + (M : Int) := by omega
        have hln := szNums_len k
        go_wp2_with (at_builtin; refine append_str rfl (.tmp 37) (.const (.string ⟨#[120, 58, 32, 49, 10, 10]⟩)) rfl w.heap.size _ _ rfl HM.out _ rfl [120, 58, 32, 49, 10, 10] rfl (by unfold Byte; decide) ?_ ?_ ?_)
        · show (szNums k).length + 6 ≤ _; omega
        · exact hsz
        intro v4 w4 hm4 hg4
        have HM4 := Lib.hid (show Mine w4 w.heap.size v4 (szNums (k + 1)) from hm4)
        have HB4 := Lib.hid (Own.below_grown HB.out HM.out.1 hg4 hsz)
        clear hm4 hg4 HM HB
        go_wp2_with fail
        go_roundg (gk - 1)
        case measure => omega
        case rel => exact ⟨k + 1, by go_num, by omega, by omega, HM4, HB4⟩
      · obtain rfl : k = 198 + M := by omega
        clear hk hk1 hk2
        obtain ⟨nB, aB, cB, rfl, hcB, hlB, rB⟩ := HM.out.rows
        have c1 := parse_any aB nB cB _ wr rB (tabs_below HT.out HB.out hl) (HMM.out.below HB.out hml.out)
        have HR := Lib.hid rB
        have HCB := Lib.hid hcB
        clear HM rB hcB hlB
        go_wp2_with fail
        refine c1.mono ?_
        rintro e w1 ⟨v1, l, er, nn, rfl, h1, _, t1, b1⟩
        have HMN := Lib.hid (HMANY.out l er nn h1)
        have H1 := Lib.hid h1
        have T1 := Lib.hid t1
        have B1 := Lib.hid (HB.out.trans (b1.mono hsz))
        have B1' := Lib.hid b1
        clear h1 t1 b1 c1 HB hsz HMANY
        go_wp2_with fail
        have b0 : Below w1.heap.size w1 (w1.alloc (.cells #[.int .i64 er, .int .i64 nn] 26)) := (Below.refl _ _).alloc (Nat.le_refl _) _
        have bA : Below w.heap.size w (w1.alloc (.cells #[.int .i64 er, .int .i64 nn] 26)) := B1.out.trans (b0.mono B1.out.size)
        have iA := Blk.Is.new w1 26 #[.int .i64 er, .int .i64 nn]
        have T2 := Lib.hid (T1.out.below b0)
        have R2 := Lib.hid ((HR.out.below B1'.out).below b0)
        have sA : w1.heap.size < (w1.alloc (.cells #[.int .i64 er, .int .i64 nn] 26)).heap.size := by simp
        obtain ⟨W, hW⟩ : ∃ W, w1.alloc (.cells #[.int .i64 er, .int .i64 nn] 26) = W := ⟨_, rfl⟩
        rw [hW] at bA iA sA T2 R2 ⊢
        refine (ystanzas_any aB nB cB _ W R2.out HCB.out).mono ?_
        rintro e w2 ⟨v2, l', er', n', rfl, h2, _, t2, b2⟩
        obtain ⟨rfl, rfl, rfl⟩ := H1.out.uniq h2
        have T3 := Lib.hid (T2.out.below b2)
        have T4 := Lib.hid t2
        have I2 := Lib.hid (show Blk.Is w2 w1.heap.size 26 #[.int .i64 er, .int .i64 nn] from (b2.block _ sA).trans iA)
        have B2 := Lib.hid (bA.trans (b2.mono bA.size))
        have s2 : w1.heap.size < w2.heap.size := Nat.lt_of_lt_of_le sA b2.size
        clear h2 t2 b2 bA iA T2 T1 R2 hW sA H1 b0 HR HCB B1 B1'
        go_wp2_with fail
        have nA : Below w2.heap.size w2 (w2.alloc (.cells #[.int .i64 er, .int .i64 nn] 26)) := (Below.refl _ _).alloc (Nat.le_refl _) _
        refine (sameStanzas_yes v1 v2 l l true _ (T3.out.below nA) (T4.out.below nA) (Like.refl l) (fun _ => rfl)).mono ?_
        rintro e w3 ⟨rfl, b3⟩
        have iB := Blk.Is.new w2 26 #[.int .i64 er, .int .i64 nn]
        have I3 : Blk.Is w3 w1.heap.size 26 #[.int .i64 er, .int .i64 nn] := (b3.block _ (by simp; omega)).trans (I2.out.alloc _)
        have I4 : Blk.Is w3 w2.heap.size 26 #[.int .i64 er, .int .i64 nn] := (b3.block _ (by simp)).trans iB
        have B3 := Lib.hid ((B2.out.trans (nA.mono B2.out.size)).trans (b3.mono (Nat.le_trans B2.out.size nA.size)))
        have i0 : w3.cell? ⟨w1.heap.size, 0, none⟩ = some (.int .i64 er) := I3.at rfl
        have i1 : w3.cell? ⟨w1.heap.size, 1, none⟩ = some (.int .i64 nn) := I3.at rfl
        have j0 : w3.cell? ⟨w2.heap.size, 0, none⟩ = some (.int .i64 er) := I4.at rfl
        have j1 : w3.cell? ⟨w2.heap.size, 1, none⟩ = some (.int .i64 nn) := I4.at rfl
        clear nA b3 iB I3 I4 T3 T4 B2
        by_cases hmy : 2 < M
        · have he : er = 12 := by have := HMN.out; rw [decide_eq_true hmy] at this; exact of_decide_eq_true this
          subst he
          clear HMN
          go_wp2_with fail
          refine (awake_any w3 (tabs_below HT.out B3.out hl) (HMM.out.below B3.out hml.out)).mono ?_
          rintro e w4 ⟨rfl, b4⟩
          have B4 := Lib.hid (B3.out.trans (b4.mono B3.out.size))
          clear b4 B3
          go_wp2_with fail
          go_ret
          exact ⟨rfl, B4.out⟩
        · have he : er ≠ 12 := by have := HMN.out; rw [decide_eq_false hmy] at this; exact of_decide_eq_false this
          have he1 : ¬ (er : Int) = 12 := by omega
          have hmy' : ¬ (2 : Int) < (M : Int) := by omega
          have he2 : ((er : Int) == 12) = false := by simpa using he1
          have hmd : decide ((2 : Int) < (M : Int)) = false := decide_eq_false hmy'
          clear HMN he
          go_wp2_with fail
          refine (awake_any w3 (tabs_below HT.out B3.out hl) (HMM.out.below B3.out hml.out)).mono ?_
          rintro e w4 ⟨rfl, b4⟩
          have B4 := Lib.hid (B3.out.trans (b4.mono B3.out.size))
          clear b4 B3
          go_wp2_with fail
          go_ret
          exact ⟨rfl, B4.out⟩
end Stz
end Go.Proofs.YtgolnfgkoolpoaaDoor

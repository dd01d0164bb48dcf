/-
Epochs: the walk of the law VersionEpochs.
-/
import Derived.Test.YtkcdoipkpilacaaDoorVerAwake
import Derived.BigRegion
import Derived.Test.YtkcdoipkpilacaaDoorRow
namespace Go.Proofs.YtkcdoipkpilacaaDoor
open Go.RowKit
set_option linter.unusedSimpArgs false
set_option linter.unusedVariables false
namespace Ver
open Txt (b b_eq b_lt)
theorem parse_split7 {l : Bs} {p : Bs × Bs × Bs} (h : parse l = some p) : (epF l).2.2 = true ∧ (rvF (epF l).2.1).2.2 = true ∧ upOK (rvF (epF l).2.1).1 = true ∧ p = ((epF l).1, (rvF (epF l).2.1).1, (rvF (epF l).2.1).2.1) := by
  by_cases hl : 1 ≤ l.length ∧ l.length ≤ 48
  · cases he : (epF l).2.2
    · rw [parse_ep he] at h; cases h
    · cases hr : (rvF (epF l).2.1).2.2
      · rw [parse_rv he hr] at h; cases h
      · rw [parse_up hl he hr] at h
        cases hu : upOK (rvF (epF l).2.1).1
        · rw [hu] at h; simp at h
        · rw [hu, if_pos rfl] at h
          cases h
          exact ⟨rfl, rfl, rfl, rfl⟩
  · rw [parse_size hl] at h; cases h
theorem parse_front {l : Bs} {p : Bs × Bs × Bs} {d : UInt8} (hd : dig d = true) (hl : l.length ≤ 40) (h58 : (58 : UInt8) ∉ l) (h : parse l = some p) : parse (d :: 58 :: l) = some ([d], p.2.1, p.2.2) := by
  obtain ⟨h1, h2, h3, rfl⟩ := parse_split7 h
  have e1 : epF l = ([48], l, true) := by unfold epF; rw [cut1_no 58 l h58]
  have hd58 : d ≠ 58 := fun e => by subst e; exact absurd hd (by decide)
  have e2 : epF (d :: 58 :: l) = ([d], l, true) := by
    unfold epF
    rw [cut1, if_neg hd58, cut1, if_pos rfl]
    show ([d], l, decide (1 ≤ 1 ∧ 1 ≤ 9 ∧ [d].all dig = true)) = _
    rw [show [d].all dig = true by simp [hd]]
    rfl
  rw [e1] at h2 h3
  rw [parse_up (by simp; omega) (by rw [e2]) (by rw [e2]; exact h2), e2, e1]
  rw [if_pos h3]
theorem part_one {d e : UInt8} (hd : dig d = true) (he : dig e = true) : part [d] [e] = sgn (dv d) (dv e) := by
  rw [part_digits (by simp [hd]) (by simp [he]), val_first, val_first, val_nil, val_nil]
theorem cmp_front {k l : Bs} {d e : UInt8} (hd : dig d = true) (he : dig e = true) (hk : k.length ≤ 40) (hl : l.length ≤ 40) (k58 : (58 : UInt8) ∉ k) (l58 : (58 : UInt8) ∉ l)
    (h1 : (parse k).isSome = true) (h2 : (parse l).isSome = true) : cmpV (d :: 58 :: k) (e :: 58 :: l) = orr (sgn (dv d) (dv e)) (cmpV k l) := by
  unfold cmpV
  cases hp : parse k with
  | none => rw [hp] at h1; cases h1
  | some p =>
    cases hq : parse l with
    | none => rw [hq] at h2; cases h2
    | some q =>
      rw [parse_front hd hk k58 hp, parse_front he hl l58 hq]
      show cmpP ([d], p.2.1, p.2.2) ([e], q.2.1, q.2.2) = orr _ (cmpP p q)
      have e1 : ∀ {m : Bs} {r : Bs × Bs × Bs}, (58 : UInt8) ∉ m → parse m = some r → r.1 = [48] := fun hm hr => by
        obtain ⟨_, _, _, rfl⟩ := parse_split7 hr
        show (epF _).1 = _
        unfold epF; rw [cut1_no 58 _ hm]
      unfold cmpP
      rw [e1 k58 hp, e1 l58 hq, show part [48] [48] = 0 from lex_self _, orr_zero, part_one hd he]
theorem same_front {k : Bs} (hk : k.length ≤ 40) (k58 : (58 : UInt8) ∉ k) (h1 : (parse k).isSome = true) : sameV (48 :: 58 :: k) k = true := by
  unfold sameV cmpV
  cases hp : parse k with
  | none => rw [hp] at h1; cases h1
  | some p =>
    rw [parse_front (by decide) hk k58 hp]
    have e1 : p.1 = [48] := by
      obtain ⟨_, _, _, rfl⟩ := parse_split7 hp
      show (epF _).1 = _
      unfold epF; rw [cut1_no 58 _ k58]
    show (true && true && decide (cmpP ([48], p.2.1, p.2.2) p = 0)) = true
    unfold cmpP
    rw [e1, show part [48] [48] = 0 from lex_self _, show part p.2.1 p.2.1 = 0 from lex_self _, show part p.2.2 p.2.2 = 0 from lex_self _]
    rfl
/-- Where it answers that there is none, there is none. -/
def HasAt (s : ByteArray) (g : Bool) : Prop := g = false → (58 : UInt8) ∉ li s
set_option maxRecDepth 100000 in
theorem has_any (s : ByteArray) (w : World) (hs : s.size ≤ 4611686018427387904) :
    Calls Tryd.prog 29 #[.string s] w fun e w' => ∃ g, e = .returned (.bool g) ∧ HasAt s g ∧ w' = w := by
  go_enter Tryd.func29, Tryd.ntmps29
  go_wp2
  go_loopg [6] s.size (fun gf s6 wx => ∃ pos : Nat, s6 = .int .i64 pos ∧ wx = w ∧ Hid (∀ j, j < pos → b s j ≠ 58) ∧ s.size ≤ pos + gf ∧ pos ≤ s.size)
  case atStart => exact ⟨0, rfl, rfl, fun j hj => by omega, by omega, by omega⟩
  case round =>
    obtain ⟨pos, rfl, rfl, HN, hfu, hps⟩ := hrel
    by_cases hlt : pos < s.size
    · obtain ⟨g', rfl⟩ : ∃ g', gk = g' + 1 := ⟨gk - 1, by omega⟩
      have hlt' : (pos : Int) < (s.size : Int) := by omega
      have hbc := b_eq s pos hlt
      have hbl := b_lt s pos
      by_cases hc : b s pos = 58
      · rw [hc] at hbc hbl
        clear HN hc
        go_wp2_with fail
        go_ret
        first | exact ⟨true, rfl, (fun h => by cases h), rfl⟩ | exact .inr ⟨rfl, (fun h => by cases h), rfl⟩
      · have HM : Hid (∀ j, j < pos + 1 → b s j ≠ 58) := fun j hj => by
          by_cases e : j = pos
          · subst e; exact hc
          · exact HN.out j (by omega)
        obtain ⟨c, hcc⟩ : ∃ c, b s pos = c := ⟨_, rfl⟩
        rw [hcc] at hbc hbl hc
        have hne : ((c : Int) == 58) = false := by rw [beq_eq_false_iff_ne]; omega
        clear hcc HN
        go_wp2_with fail
        go_roundg g'
        case measure => omega
        case rel => exact ⟨pos + 1, by go_num, rfl, HM, by omega, by omega⟩
    · have hge : ¬ (pos : Int) < (s.size : Int) := by omega
      have HK : Hid ((58 : UInt8) ∉ li s) := by
        have h1 := no_mem (s := s) (x := 58) (i := 0) (j := s.size) fun k _ hk _ => HN.out k (by omega)
        rw [List.drop_zero, Nat.sub_zero, List.take_of_length_le (by rw [li_len]; exact Nat.le_refl _)] at h1
        exact h1
      clear HN
      go_wp2_with fail
      go_ret
      exact .inl ⟨rfl, fun _ => HK.out, rfl⟩
theorem told_epoch (s : ByteArray) : ∃ x y z : ByteArray, ∃ n : Int, toldV (parse (li s)) = .tuple #[.string x, .string y, .string z, .int .i64 n] ∧ (n = 0 ∨ n = 3) ∧ (n = 0 → (parse (li s)).isSome = true) := by
  cases parse (li s) with
  | none => exact ⟨_, _, _, 3, rfl, .inr rfl, fun h => by omega⟩
  | some p => exact ⟨_, _, _, 0, rfl, .inl rfl, fun _ => rfl⟩
theorem list_ne7 {s : ByteArray} {l : List UInt8} (h : s ≠ ⟨l.toArray⟩) : (s.toList == l) = false ∧ (l == s.toList) = false := by
  have : s.data.toList ≠ l := fun e => h (by apply ByteArray.ext; rw [← e])
  rw [Lib.toList_data]
  exact ⟨beq_eq_false_iff_ne.2 this, beq_eq_false_iff_ne.2 (Ne.symm this)⟩
theorem modU7 (n : Int) (m : Nat) (h0 : 0 < m) : ∃ N : Nat, (IntKind.u64.wrap n).tmod m = (N : Int) ∧ N < m := by
  have h1 : 0 ≤ IntKind.u64.wrap n := by rw [IntKind.wrap_u64]; omega
  obtain ⟨k, hk⟩ := Int.eq_ofNat_of_zero_le h1
  rw [hk]
  exact ⟨k % m, rfl, Nat.mod_lt _ h0⟩
theorem conv_two {u : World} {k : Nat} {c d : Int} (h : Blk.Is u k 5 #[.int .u8 c, .int .u8 d]) (hc : 0 ≤ c ∧ c < 256) (hd : 0 ≤ d ∧ d < 256) :
    (convert 40 9 (.slice (some ⟨k, 0, none⟩) 2 2)).run Tryd.prog u = .ok (.string (strOfNums [c, d])) u :=
  (Row.ofIs h 0 2 [c, d] rfl (by omega) (fun z hz => by
    simp at hz
    rcases hz with rfl | rfl
    · exact hc
    · exact hd) (fun j hj => by
    rcases (by omega : j = 0 ∨ j = 1) with rfl | rfl <;> rfl)).conv 2
theorem digit_of (m : Nat) (h : m < 10) : dig (UInt8.ofNat (48 + m)) = true ∧ dv (UInt8.ofNat (48 + m)) = m := by
  have e : (UInt8.ofNat (48 + m)).toNat = 48 + m := by rw [UInt8.toNat_ofNat']; omega
  rw [dig_n, e]
  constructor
  · unfold digN; simp; omega
  · unfold dv; rw [e]; omega
set_option maxRecDepth 100000 in
set_option maxHeartbeats 16000000 in
theorem epochs_walk (s0 s1 : ByteArray) (a2 a3 : Int) (w : World) (w0 : s0.size ≤ 140737488351232) (w1 : s1.size ≤ 140737488351232) (hm : MaxLen w) :
    Calls Tryd.prog 11 #[.string s0, .string s1, .int .i64 a2, .int .i64 a3] w fun e w' => e = .returned (.bool true) ∧ Below w.heap.size w w' := by
  have z0 : s0.size ≤ 4611686018427387904 := by omega
  have z1 : s1.size ≤ 4611686018427387904 := by omega
  have ca := parse_any s0 w z0 hm
  have cb := fun w hm => parse_any s1 w z1 hm
  obtain ⟨x1, x2, x3, na, ea, ja, ia⟩ := told_epoch s0
  obtain ⟨y1, y2, y3, nb, eb, jb, ib⟩ := told_epoch s1
  rw [ea] at ca
  rw [eb] at cb
  have HM := Lib.hid hm
  have HIA := Lib.hid ia
  have HIB := Lib.hid ib
  clear ea eb ia ib hm
  go_enter Tryd.func11, Tryd.ntmps11
  go_wp2_with fail
  refine ca.mono ?_
  rintro e u1 ⟨rfl, k1⟩
  clear ca
  go_wp2_with fail
  refine (cb _ (HM.out.on k1)).mono ?_
  rintro e u2 ⟨rfl, k⟩
  have k2 := k1.trans (k.mono k1.size)
  have aw := awake_any u2 (HM.out.on k2)
  clear k k1 cb
  rcases ja with rfl | rfl
  rotate_left
  · go_wp2_with fail
    refine aw.mono ?_
    rintro e u3 ⟨rfl, k⟩
    go_wp2_with fail
    go_ret
    exact ⟨rfl, k2.trans (k.mono k2.size)⟩
  rcases jb with rfl | rfl
  rotate_left
  · go_wp2_with fail
    refine aw.mono ?_
    rintro e u3 ⟨rfl, k⟩
    go_wp2_with fail
    go_ret
    exact ⟨rfl, k2.trans (k.mono k2.size)⟩
  by_cases hx : x1 = ⟨#[48]⟩
  rotate_left
  · obtain ⟨q1, q2⟩ := list_ne7 (l := [48]) hx
    clear hx
    go_wp2_with fail
    refine aw.mono ?_
    rintro e u3 ⟨rfl, k⟩
    go_wp2_with fail
    go_ret
    exact ⟨rfl, k2.trans (k.mono k2.size)⟩
  by_cases hy : y1 = ⟨#[48]⟩
  rotate_left
  · obtain ⟨q1, q2⟩ := list_ne7 (l := [48]) hy
    subst hx
    clear hy
    go_wp2_with fail
    refine aw.mono ?_
    rintro e u3 ⟨rfl, k⟩
    go_wp2_with fail
    go_ret
    exact ⟨rfl, k2.trans (k.mono k2.size)⟩
  subst hx
  subst hy
  by_cases h40 : 40 < s0.size
  · have h40' : 40 < (s0.size : Int) := by omega
    go_wp2_with fail
    refine aw.mono ?_
    rintro e u3 ⟨rfl, k⟩
    go_wp2_with fail
    go_ret
    exact ⟨rfl, k2.trans (k.mono k2.size)⟩
  have h40' : ¬ 40 < (s0.size : Int) := by omega
  by_cases h41 : 40 < s1.size
  · have h41' : 40 < (s1.size : Int) := by omega
    go_wp2_with fail
    refine aw.mono ?_
    rintro e u3 ⟨rfl, k⟩
    go_wp2_with fail
    go_ret
    exact ⟨rfl, k2.trans (k.mono k2.size)⟩
  have h41' : ¬ 40 < (s1.size : Int) := by omega
  have ch := fun w => has_any s0 w z0
  have ci := fun w => has_any s1 w z1
  go_wp2_with fail
  refine (ch _).mono ?_
  rintro e u3 ⟨g1, rfl, hg1, rfl⟩
  clear ch
  cases g1
  rotate_left
  · go_wp2_with fail
    refine aw.mono ?_
    rintro e u4 ⟨rfl, k⟩
    go_wp2_with fail
    go_ret
    exact ⟨rfl, k2.trans (k.mono k2.size)⟩
  go_wp2_with fail
  refine (ci _).mono ?_
  rintro e u4 ⟨g2, rfl, hg2, rfl⟩
  clear ci
  cases g2
  rotate_left
  · go_wp2_with fail
    refine aw.mono ?_
    rintro e u5 ⟨rfl, k⟩
    go_wp2_with fail
    go_ret
    exact ⟨rfl, k2.trans (k.mono k2.size)⟩
  obtain ⟨m, hmm, hm9⟩ := modU7 a2 9 (by omega)
  obtain ⟨n, hnn, hn9⟩ := modU7 a3 9 (by omega)
  rw [show ((9 : Nat) : Int) = 9 from rfl] at hmm hnn
  have H1 := Lib.hid (hg1 rfl)
  have H2 := Lib.hid (hg2 rfl)
  clear hg1 hg2 aw
  go_wp2_with fail
  clear hmm hnn
  have b1 : (0 : Int) ≤ 48 + (m : Int) ∧ 48 + (m : Int) < 256 := by omega
  have b2 : (0 : Int) ≤ 48 + (n : Int) ∧ 48 + (n : Int) < 256 := by omega
  have b3 : (0 : Int) ≤ 58 ∧ (58 : Int) < 256 := by omega
  have eA := conv_two (Blk.Is.new u4 5 #[.int .u8 (48 + (m : Int)), .int .u8 58]).drew b1 b3
  have eB := conv_two (Blk.Is.new u4 5 #[.int .u8 (48 + (n : Int)), .int .u8 58]).drew b2 b3
  have eAB1 := conv_two ((Blk.Is.new u4 5 #[.int .u8 (48 + (m : Int)), .int .u8 58]).alloc (.cells #[.int .u8 (48 + (n : Int)), .int .u8 58] 5)).drew b1 b3
  have eAB2 := conv_two (Blk.Is.new (u4.alloc (.cells #[.int .u8 (48 + (m : Int)), .int .u8 58] 5)) 5 #[.int .u8 (48 + (n : Int)), .int .u8 58]).drew b2 b3
  have eBA1 := conv_two ((Blk.Is.new u4 5 #[.int .u8 (48 + (n : Int)), .int .u8 58]).alloc (.cells #[.int .u8 (48 + (m : Int)), .int .u8 58] 5)).drew b2 b3
  have eBA2 := conv_two (Blk.Is.new (u4.alloc (.cells #[.int .u8 (48 + (n : Int)), .int .u8 58] 5)) 5 #[.int .u8 (48 + (m : Int)), .int .u8 58]).drew b1 b3
  have p1 : (strOfNums [48 + (m : Int), 58]).size = 2 := by rw [strOfNums_size]; rfl
  have p2 : (strOfNums [48 + (n : Int), 58]).size = 2 := by rw [strOfNums_size]; rfl
  have p3 : ¬ ((strOfNums [48 + (m : Int), 58]).size + s0.size > 9223372036854775807) := by omega
  have p4 : ¬ ((strOfNums [48 + (n : Int), 58]).size + s1.size > 9223372036854775807) := by omega
  rw [show (u4.alloc (.cells #[.int .u8 (48 + (m : Int)), .int .u8 58] 5)).heap.size = u4.heap.size + 1 by simp] at eAB2
  rw [show (u4.alloc (.cells #[.int .u8 (48 + (n : Int)), .int .u8 58] 5)).heap.size = u4.heap.size + 1 by simp] at eBA2
  have kAB : Below w.heap.size w (((u4.alloc (.cells #[.int .u8 (48 + (m : Int)), .int .u8 58] 5)).alloc (.cells #[.int .u8 (48 + (n : Int)), .int .u8 58] 5)).drew) := ((k2.alloc k2.size _).alloc (Nat.le_trans k2.size (by simp)) _).drew
  have kBA : Below w.heap.size w (((u4.alloc (.cells #[.int .u8 (48 + (n : Int)), .int .u8 58] 5)).alloc (.cells #[.int .u8 (48 + (m : Int)), .int .u8 58] 5)).drew) := ((k2.alloc k2.size _).alloc (Nat.le_trans k2.size (by simp)) _).drew
  have lx : li (strOfNums [48 + (m : Int), 58] ++ s0) = UInt8.ofNat (48 + m) :: 58 :: li s0 := by
    show (strOfNums [48 + (m : Int), 58] ++ s0).data.toList = _
    rw [ByteArray.data_append, Array.toList_append]
    show UInt8.ofNat (48 + (m : Int)).toNat :: UInt8.ofNat (58 : Int).toNat :: li s0 = _
    rw [show (48 + (m : Int)).toNat = 48 + m by omega]
    rfl
  have ly : li (strOfNums [48 + (n : Int), 58] ++ s1) = UInt8.ofNat (48 + n) :: 58 :: li s1 := by
    show (strOfNums [48 + (n : Int), 58] ++ s1).data.toList = _
    rw [ByteArray.data_append, Array.toList_append]
    show UInt8.ofNat (48 + (n : Int)).toNat :: UInt8.ofNat (58 : Int).toNat :: li s1 = _
    rw [show (48 + (n : Int)).toNat = 48 + n by omega]
    rfl
  have sx : (strOfNums [48 + (m : Int), 58] ++ s0).size = 2 + s0.size := by rw [ByteArray.size_append, p1]
  have sy : (strOfNums [48 + (n : Int), 58] ++ s1).size = 2 + s1.size := by rw [ByteArray.size_append, p2]
  have lz : li ((⟨#[48, 58]⟩ : ByteArray) ++ s0) = 48 :: 58 :: li s0 := by
    show ((⟨#[48, 58]⟩ : ByteArray) ++ s0).data.toList = _
    rw [ByteArray.data_append, Array.toList_append]
    rfl
  have sz : ((⟨#[48, 58]⟩ : ByteArray) ++ s0).size = 2 + s0.size := by rw [ByteArray.size_append]; rfl
  have p5 : ¬ (2 + s0.size > 9223372036854775807) := by omega
  obtain ⟨dm1, dm2⟩ := digit_of m (by omega)
  obtain ⟨dn1, dn2⟩ := digit_of n (by omega)
  have hcmp := cmp_front dm1 dn1 (by rw [li_len]; omega) (by rw [li_len]; omega) H1.out H2.out (HIA.out (by simp)) (HIB.out (by simp))
  rw [dm2, dn2, ← lx, ← ly] at hcmp
  have hsame := same_front (by rw [li_len]; omega) H1.out (HIA.out (by simp))
  rw [← lz] at hsame
  have q1 := fun w hm => compare_any s0 s1 w z0 z1 hm
  have q2 := fun w hm => compare_any (strOfNums [48 + (m : Int), 58] ++ s0) (strOfNums [48 + (n : Int), 58] ++ s1) w (by rw [sx]; omega) (by rw [sy]; omega) hm
  have q3 := fun w hm => same_any ((⟨#[48, 58]⟩ : ByteArray) ++ s0) s0 w (by rw [sz]; omega) z0 hm
  rw [hcmp] at q2
  rw [hsame] at q3
  have HIA2 := HIA
  clear HIA HIB HIA2 H1 H2 lx ly lz sx sy sz hcmp hsame dm1 dm2 dn1 dn2
  generalize cmpV (li s0) (li s1) = v at *
  go_region
  all_goals
    clear eA eB eAB1 eAB2 eBA1 eBA2 p3 p4 b1 b2 b3
    first
    | (obtain ⟨W, hW⟩ : ∃ W, (((u4.alloc (.cells #[.int .u8 (48 + (m : Int)), .int .u8 58] 5)).alloc (.cells #[.int .u8 (48 + (n : Int)), .int .u8 58] 5)).drew) = W := ⟨_, rfl⟩; rw [hW] at kAB ⊢; have kW := kAB; clear hW kAB kBA)
    | (obtain ⟨W, hW⟩ : ∃ W, (((u4.alloc (.cells #[.int .u8 (48 + (n : Int)), .int .u8 58] 5)).alloc (.cells #[.int .u8 (48 + (m : Int)), .int .u8 58] 5)).drew) = W := ⟨_, rfl⟩; rw [hW] at kBA ⊢; have kW := kBA; clear hW kAB kBA)
    generalize strOfNums [48 + (m : Int), 58] ++ s0 = x at *
    generalize strOfNums [48 + (n : Int), 58] ++ s1 = y at *
    go_wp2_with fail
    refine (q1 _ (HM.out.on kW)).mono ?_
    rintro e v1 ⟨rfl, k⟩
    have kv := kW.trans (k.mono kW.size)
    clear k kW q1
    have hmn : (m : Int) < (n : Int) ∨ (¬ (m : Int) < (n : Int) ∧ (n : Int) < (m : Int)) ∨ (m : Int) = (n : Int) := by omega
    rcases hmn with h1 | ⟨h1, h2⟩ | h1
    · rw [show orr (sgn (m : Int) n) v = -1 by unfold sgn; rw [if_pos h1]; rfl] at q2
      go_wp2_with fail
      refine (q2 _ (HM.out.on kv)).mono ?_
      rintro e v2 ⟨rfl, k⟩
      have kx := kv.trans (k.mono kv.size)
      clear k q2
      go_wp2_with fail
      refine (q3 _ (HM.out.on kx)).mono ?_
      rintro e v3 ⟨rfl, k⟩
      have ky := kx.trans (k.mono kx.size)
      have aw := awake_any v3 (HM.out.on ky)
      clear k q3
      go_wp2_with fail
      refine aw.mono ?_
      rintro e v4 ⟨rfl, k⟩
      go_wp2_with fail
      go_ret
      exact ⟨rfl, ky.trans (k.mono ky.size)⟩
    · rw [show orr (sgn (m : Int) n) v = 1 by unfold sgn; rw [if_neg h1, if_pos h2]; rfl] at q2
      go_wp2_with fail
      refine (q2 _ (HM.out.on kv)).mono ?_
      rintro e v2 ⟨rfl, k⟩
      have kx := kv.trans (k.mono kv.size)
      clear k q2
      go_wp2_with fail
      refine (q3 _ (HM.out.on kx)).mono ?_
      rintro e v3 ⟨rfl, k⟩
      have ky := kx.trans (k.mono kx.size)
      have aw := awake_any v3 (HM.out.on ky)
      clear k q3
      go_wp2_with fail
      refine aw.mono ?_
      rintro e v4 ⟨rfl, k⟩
      go_wp2_with fail
      go_ret
      exact ⟨rfl, ky.trans (k.mono ky.size)⟩
    · rw [show orr (sgn (m : Int) n) v = v by rw [h1, sgn_self, orr_zero]] at q2
      have hmm : ¬ (m : Int) < (n : Int) := by omega
      have hnn : ¬ (n : Int) < (m : Int) := by omega
      clear h1
      go_wp2_with fail
      refine (q2 _ (HM.out.on kv)).mono ?_
      rintro e v2 ⟨rfl, k⟩
      have kx := kv.trans (k.mono kv.size)
      clear k q2
      go_wp2_with fail
      refine (q3 _ (HM.out.on kx)).mono ?_
      rintro e v3 ⟨rfl, k⟩
      have ky := kx.trans (k.mono kx.size)
      have aw := awake_any v3 (HM.out.on ky)
      clear k q3
      go_wp2_with fail
      refine aw.mono ?_
      rintro e v4 ⟨rfl, k⟩
      go_wp2_with fail
      go_ret
      exact ⟨rfl, ky.trans (k.mono ky.size)⟩
end Ver
end Go.Proofs.YtkcdoipkpilacaaDoor

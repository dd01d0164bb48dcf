/-
Numbers of any length: the walk of the law VersionLong.
-/
import Derived.Test.YtkcdoipkpilacaaDoorVerAwake
import Derived.Test.YtkcdoipkpilacaaDoorRow
import Derived.BigRegion
namespace Go.Proofs.YtkcdoipkpilacaaDoor
open Go.RowKit
set_option linter.unusedSimpArgs false
set_option linter.unusedVariables false
namespace Ver
theorem li_app8 (x y : ByteArray) : li (x ++ y) = li x ++ li y := by
  show (x ++ y).data.toList = _
  rw [ByteArray.data_append, Array.toList_append]
theorem modU8 (n : Int) (m : Nat) (h0 : 0 < m) : ∃ N : Nat, (IntKind.u64.wrap n).tmod m = (N : Int) ∧ N < m := by
  have h1 : 0 ≤ IntKind.u64.wrap n := by rw [IntKind.wrap_u64]; omega
  obtain ⟨k, hk⟩ := Int.eq_ofNat_of_zero_le h1
  rw [hk]
  exact ⟨k % m, rfl, Nat.mod_lt _ h0⟩
theorem digit_of8 (m : Nat) (h : m < 10) : dig (UInt8.ofNat (48 + m)) = true ∧ dv (UInt8.ofNat (48 + m)) = m := by
  have e : (UInt8.ofNat (48 + m)).toNat = 48 + m := by rw [UInt8.toNat_ofNat']; omega
  rw [dig_n, e]
  constructor
  · unfold digN; simp; omega
  · unfold dv; rw [e]; omega
theorem u8_of {a : Int} (h : (Lit.int .u8 a).wf = true) : 0 ≤ a ∧ a < 256 := by
  simp only [Lit.wf, Bool.and_eq_true, decide_eq_true_eq] at h
  have h1 : IntKind.u8.min = 0 := by decide +kernel
  have h2 : IntKind.u8.max = 255 := by decide +kernel
  omega
theorem val_snoc : ∀ (l : Bs) (v : Nat) (d : UInt8), val v (l ++ [d]) = 10 * val v l + dv d
  | [], v, d => by rw [List.nil_append, val_cons, val_nil, val_nil]
  | c :: l, v, d => by rw [List.cons_append, val_cons, val_cons, val_snoc l]
/-- A 1, so many 7s, a digit. -/
def row (n m : Nat) : Bs := 49 :: List.replicate n 55 ++ [UInt8.ofNat (48 + m)]
theorem row_dig (n m : Nat) (h : m < 10) : ∀ c ∈ row n m, dig c = true := by
  intro c hc
  unfold row at hc
  rw [List.cons_append, List.mem_cons, List.mem_append, List.mem_singleton] at hc
  rcases hc with rfl | hc | rfl
  · decide
  · rw [List.eq_of_mem_replicate hc]; decide
  · exact (digit_of8 m h).1
theorem row_val (n m : Nat) (h : m < 10) : val 0 (row n m) = 10 * val 0 (49 :: List.replicate n 55) + m := by
  unfold row
  rw [val_snoc, (digit_of8 m h).2]
theorem row_pos (n : Nat) : 1 ≤ val 0 (49 :: List.replicate n 55) := by
  have h := val_up (List.replicate n 55) (dv 49)
  rw [val_first]
  have e : dv 49 = 1 := by decide
  rw [e] at h ⊢
  have : 1 ≤ 10 ^ (List.replicate n (55 : UInt8)).length := Nat.one_le_pow _ _ (by omega)
  omega
theorem row_part (n m k : Nat) (hm : m < 10) (hk : k < 10) : part (row n m) (row n k) = sgn m k := by
  rw [part_digits (row_dig n m hm) (row_dig n k hk), row_val n m hm, row_val n k hk]
  generalize val 0 (49 :: List.replicate n 55) = v
  unfold sgn
  (repeat' split) <;> omega
theorem row_less (n m : Nat) (hm : m < 10) : part (row n m) (row n m ++ [48]) = -1 := by
  rw [part_digits (row_dig n m hm) (fun c hc => by
    rcases List.mem_append.1 hc with h | h
    · exact row_dig n m hm c h
    · rw [List.mem_singleton.1 h]; decide), val_snoc, row_val n m hm, show dv 48 = 0 by decide]
  have := row_pos n
  unfold sgn
  rw [if_pos (by omega)]
theorem row_tilde (n m : Nat) : part (row n m ++ [126]) (row n m) = -1 := by
  rw [part_more _ [] 126 (by decide)]
  decide +kernel
theorem conv_one {u : World} {k : Nat} {c : Int} (h : Blk.Is u k 5 #[.int .u8 c]) (hc : 0 ≤ c ∧ c < 256) :
    (convert 40 9 (.slice (some ⟨k, 0, none⟩) 1 1)).run Tryd.prog u = .ok (.string (strOfNums [c])) u :=
  (Row.ofIs h 0 1 [c] rfl (by omega) (fun z hz => by simp at hz; rw [hz]; exact hc) (fun j hj => by
    obtain rfl : j = 0 := by omega
    rfl)).conv 1
set_option maxRecDepth 100000 in
set_option maxHeartbeats 16000000 in
theorem long_walk (a0 a1 a2 : Int) (w : World) (w1 : 0 ≤ a1 ∧ a1 < 256) (w2 : 0 ≤ a2 ∧ a2 < 256) (hm : MaxLen w) :
    Calls Tryd.prog 12 #[.int .i64 a0, .int .u8 a1, .int .u8 a2] w fun e w' => e = .returned (.bool true) ∧ Below w.heap.size w w' := by
  obtain ⟨n, hn, hn60⟩ := modU8 a0 60 (by omega)
  rw [show ((60 : Nat) : Int) = 60 from rfl] at hn
  obtain ⟨A, rfl⟩ : ∃ A : Nat, a1 = A := ⟨a1.toNat, by omega⟩
  obtain ⟨B, rfl⟩ : ∃ B : Nat, a2 = B := ⟨a2.toNat, by omega⟩
  have HM := Lib.hid hm
  clear hm
  go_enter Tryd.func12, Tryd.ntmps12
  go_wp2_with fail
  clear hn
  go_loopg [7, 16] n (fun gf s7 s16 wx => ∃ (pos : Nat) (z : ByteArray), s7 = .string z ∧ s16 = .int .i64 pos ∧ wx = w ∧ Hid (li z = List.replicate pos 55) ∧ z.size = pos ∧ n ≤ pos + gf ∧ pos ≤ n)
  case atStart => exact ⟨0, _, rfl, rfl, rfl, rfl, rfl, by omega, by omega⟩
  case round =>
    obtain ⟨pos, z, rfl, rfl, rfl, HZ, hzs, hfu, hps⟩ := hrel
    by_cases hlt : pos < n
    · obtain ⟨g', rfl⟩ : ∃ g', gk = g' + 1 := ⟨gk - 1, by omega⟩
      have hlt' : (pos : Int) < (n : Int) := by omega
      have hq : ¬ (z.size + 1 > 9223372036854775807) := by omega
      have HZ2 : Hid (li (z ++ (⟨#[55]⟩ : ByteArray)) = List.replicate (pos + 1) 55) := by
        rw [li_app8, HZ.out, List.replicate_succ']; rfl
      have HS2 : Hid ((z ++ (⟨#[55]⟩ : ByteArray)).size = pos + 1) := by
        rw [ByteArray.size_append, hzs]; rfl
      clear HZ hzs
      go_wp2_with fail
      go_roundg g'
      case measure => omega
      case rel => exact ⟨pos + 1, _, rfl, by go_num, rfl, HZ2, HS2.out, by omega, by omega⟩
    · have hge : ¬ (pos : Int) < (n : Int) := by omega
      obtain rfl : pos = n := by omega
      have b1 : (0 : Int) ≤ 48 + (A : Int) % 10 ∧ 48 + (A : Int) % 10 < 256 := by omega
      have b2 : (0 : Int) ≤ 48 + (B : Int) % 10 ∧ 48 + (B : Int) % 10 < 256 := by omega
      have eA := conv_one (Blk.Is.new wr 5 #[.int .u8 (48 + (A : Int) % 10)]).drew b1
      have eB := conv_one (Blk.Is.new wr 5 #[.int .u8 (48 + (B : Int) % 10)]).drew b2
      have eAB1 := conv_one ((Blk.Is.new wr 5 #[.int .u8 (48 + (A : Int) % 10)]).alloc (.cells #[.int .u8 (48 + (B : Int) % 10)] 5)).drew b1
      have eAB2 := conv_one (Blk.Is.new (wr.alloc (.cells #[.int .u8 (48 + (A : Int) % 10)] 5)) 5 #[.int .u8 (48 + (B : Int) % 10)]).drew b2
      have eBA1 := conv_one ((Blk.Is.new wr 5 #[.int .u8 (48 + (B : Int) % 10)]).alloc (.cells #[.int .u8 (48 + (A : Int) % 10)] 5)).drew b2
      have eBA2 := conv_one (Blk.Is.new (wr.alloc (.cells #[.int .u8 (48 + (B : Int) % 10)] 5)) 5 #[.int .u8 (48 + (A : Int) % 10)]).drew b1
      rw [show (wr.alloc (.cells #[.int .u8 (48 + (A : Int) % 10)] 5)).heap.size = wr.heap.size + 1 by simp] at eAB2
      rw [show (wr.alloc (.cells #[.int .u8 (48 + (B : Int) % 10)] 5)).heap.size = wr.heap.size + 1 by simp] at eBA2
      have p1 : (strOfNums [48 + (A : Int) % 10]).size = 1 := by rw [strOfNums_size]; rfl
      have p2 : (strOfNums [48 + (B : Int) % 10]).size = 1 := by rw [strOfNums_size]; rfl
      have p0 : ¬ (1 + z.size > 9223372036854775807) := by omega
      have p3 : ¬ (1 + z.size + (strOfNums [48 + (A : Int) % 10]).size > 9223372036854775807) := by omega
      have p4 : ¬ (1 + z.size + (strOfNums [48 + (B : Int) % 10]).size > 9223372036854775807) := by omega
      have kAB : Below wr.heap.size wr (((wr.alloc (.cells #[.int .u8 (48 + (A : Int) % 10)] 5)).alloc (.cells #[.int .u8 (48 + (B : Int) % 10)] 5)).drew) := (((Below.refl wr.heap.size wr).alloc (Nat.le_refl _) _).alloc (by simp) _).drew
      have kBA : Below wr.heap.size wr (((wr.alloc (.cells #[.int .u8 (48 + (B : Int) % 10)] 5)).alloc (.cells #[.int .u8 (48 + (A : Int) % 10)] 5)).drew) := (((Below.refl wr.heap.size wr).alloc (Nat.le_refl _) _).alloc (by simp) _).drew
      have lA : li ((⟨#[49]⟩ : ByteArray) ++ z ++ strOfNums [48 + (A : Int) % 10]) = row pos (A % 10) := by
        rw [li_app8, li_app8, HZ.out]
        show 49 :: List.replicate pos 55 ++ [UInt8.ofNat (48 + (A : Int) % 10).toNat] = _
        rw [show (48 + (A : Int) % 10).toNat = 48 + A % 10 by omega]
        rfl
      have lB : li ((⟨#[49]⟩ : ByteArray) ++ z ++ strOfNums [48 + (B : Int) % 10]) = row pos (B % 10) := by
        rw [li_app8, li_app8, HZ.out]
        show 49 :: List.replicate pos 55 ++ [UInt8.ofNat (48 + (B : Int) % 10).toNat] = _
        rw [show (48 + (B : Int) % 10).toNat = 48 + B % 10 by omega]
        rfl
      have sA : ((⟨#[49]⟩ : ByteArray) ++ z ++ strOfNums [48 + (A : Int) % 10]).size = 1 + z.size + 1 := by rw [ByteArray.size_append, ByteArray.size_append, p1]; rfl
      have sB : ((⟨#[49]⟩ : ByteArray) ++ z ++ strOfNums [48 + (B : Int) % 10]).size = 1 + z.size + 1 := by rw [ByteArray.size_append, ByteArray.size_append, p2]; rfl
      go_wp2_with fail
      go_region
      all_goals
        clear eA eB eAB1 eAB2 eBA1 eBA2 p0 p3 p4 b1 b2 p1 p2
        first
        | (obtain ⟨W, hW⟩ : ∃ W, (((wr.alloc (.cells #[.int .u8 (48 + (A : Int) % 10)] 5)).alloc (.cells #[.int .u8 (48 + (B : Int) % 10)] 5)).drew) = W := ⟨_, rfl⟩; rw [hW] at kAB ⊢; have kW := kAB; clear hW kAB kBA)
        | (obtain ⟨W, hW⟩ : ∃ W, (((wr.alloc (.cells #[.int .u8 (48 + (B : Int) % 10)] 5)).alloc (.cells #[.int .u8 (48 + (A : Int) % 10)] 5)).drew) = W := ⟨_, rfl⟩; rw [hW] at kBA ⊢; have kW := kBA; clear hW kAB kBA)
        generalize (⟨#[49]⟩ : ByteArray) ++ z ++ strOfNums [48 + (A : Int) % 10] = x at *
        generalize (⟨#[49]⟩ : ByteArray) ++ z ++ strOfNums [48 + (B : Int) % 10] = y at *
        have q1 := fun w => part_any x y w (by omega) (by omega)
        have s0 : (x ++ (⟨#[48]⟩ : ByteArray)).size = x.size + 1 := by rw [ByteArray.size_append]; rfl
        have s9 : (x ++ (⟨#[126]⟩ : ByteArray)).size = x.size + 1 := by rw [ByteArray.size_append]; rfl
        have q2 := fun w => part_any x (x ++ (⟨#[48]⟩ : ByteArray)) w (by omega) (by omega)
        have q3 := fun w => part_any (x ++ (⟨#[126]⟩ : ByteArray)) x w (by omega) (by omega)
        have l0 : li (x ++ (⟨#[48]⟩ : ByteArray)) = row pos (A % 10) ++ [48] := by rw [li_app8, lA]
        have l9 : li (x ++ (⟨#[126]⟩ : ByteArray)) = row pos (A % 10) ++ [126] := by rw [li_app8, lA]
        rw [lA, lB, row_part pos _ _ (by omega) (by omega)] at q1
        rw [lA, l0, row_less pos _ (by omega)] at q2
        rw [lA, l9, row_tilde] at q3
        have hx1 : ¬ (x.size + 1 > 9223372036854775807) := by omega
        have hab : (A : Int) % 10 < (B : Int) % 10 ∨ (¬ (A : Int) % 10 < (B : Int) % 10 ∧ (B : Int) % 10 < (A : Int) % 10) ∨ (¬ (A : Int) % 10 < (B : Int) % 10 ∧ ¬ (B : Int) % 10 < (A : Int) % 10) := by omega
        clear lA lB sA sB s0 s9 l0 l9 HZ
        rcases hab with h1 | ⟨h1, h2⟩ | ⟨h1, h2⟩
        · rw [show sgn ((A % 10 : Nat) : Int) ((B % 10 : Nat) : Int) = -1 by unfold sgn; rw [if_pos (by omega)]] at q1
          go_wp2_with fail
          refine (q1 _).mono ?_
          rintro e v1 ⟨rfl, k⟩
          have kv := kW.trans (k.mono kW.size)
          clear k q1
          go_wp2_with fail
          refine (q2 _).mono ?_
          rintro e v2 ⟨rfl, k⟩
          have kx := kv.trans (k.mono kv.size)
          clear k q2
          go_wp2_with fail
          refine (q3 _).mono ?_
          rintro e v3 ⟨rfl, k⟩
          have ky := kx.trans (k.mono kx.size)
          have aw := awake_any v3 (HM.out.on ky)
          clear k q3
          go_wp2_with fail
          refine aw.mono ?_
          rintro e v4 ⟨rfl, k⟩
          go_wp2_with fail
          go_ret
          exact ⟨rfl, ky.trans (k.mono ky.size)⟩
        · rw [show sgn ((A % 10 : Nat) : Int) ((B % 10 : Nat) : Int) = 1 by unfold sgn; rw [if_neg (by omega), if_pos (by omega)]] at q1
          go_wp2_with fail
          refine (q1 _).mono ?_
          rintro e v1 ⟨rfl, k⟩
          have kv := kW.trans (k.mono kW.size)
          clear k q1
          go_wp2_with fail
          refine (q2 _).mono ?_
          rintro e v2 ⟨rfl, k⟩
          have kx := kv.trans (k.mono kv.size)
          clear k q2
          go_wp2_with fail
          refine (q3 _).mono ?_
          rintro e v3 ⟨rfl, k⟩
          have ky := kx.trans (k.mono kx.size)
          have aw := awake_any v3 (HM.out.on ky)
          clear k q3
          go_wp2_with fail
          refine aw.mono ?_
          rintro e v4 ⟨rfl, k⟩
          go_wp2_with fail
          go_ret
          exact ⟨rfl, ky.trans (k.mono ky.size)⟩
        · rw [show sgn ((A % 10 : Nat) : Int) ((B % 10 : Nat) : Int) = 0 by unfold sgn; rw [if_neg (by omega), if_neg (by omega)]] at q1
          go_wp2_with fail
          refine (q1 _).mono ?_
          rintro e v1 ⟨rfl, k⟩
          have kv := kW.trans (k.mono kW.size)
          clear k q1
          go_wp2_with fail
          refine (q2 _).mono ?_
          rintro e v2 ⟨rfl, k⟩
          have kx := kv.trans (k.mono kv.size)
          clear k q2
          go_wp2_with fail
          refine (q3 _).mono ?_
          rintro e v3 ⟨rfl, k⟩
          have ky := kx.trans (k.mono kx.size)
          have aw := awake_any v3 (HM.out.on ky)
          clear k q3
          go_wp2_with fail
          refine aw.mono ?_
          rintro e v4 ⟨rfl, k⟩
          go_wp2_with fail
          go_ret
          exact ⟨rfl, ky.trans (k.mono ky.size)⟩
end Ver
end Go.Proofs.YtkcdoipkpilacaaDoor

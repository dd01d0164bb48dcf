/-
The contracts of More and Sum, the code's and the reference's: the state behind the bytes, all bits turned.
-/
import Derived.Test.YtjeidfknnophnaaCrcTable
import Derived.Test.YtjeidfknnophnaaRow
import Derived.IntWalk
namespace Go.Proofs.Ytjeidfknnophnaa
open Go.RowKit
set_option linter.unusedVariables false
namespace Crc

/-- m stands for the state behind k of the bytes. -/
def St (s : BitVec 32) (zs : List Int) (k : Nat) (m : Int) : Prop := m = num (fold (~~~ s) (zs.take k))
theorem St.bounds {s zs k m} (h : St s zs k m) : 0 ≤ m ∧ m < 4294967296 := by
  have g0 := num_nonneg (fold (~~~ s) (zs.take k)); have g1 := num_lt (fold (~~~ s) (zs.take k))
  unfold St at h; omega
theorem fold_snoc (c : BitVec 32) (zs : List Int) (z : Int) : fold c (zs ++ [z]) = upd (fold c zs) (bv z) := by simp [fold]
theorem take_snoc (zs : List Int) (k : Nat) (h : k < zs.length) : zs.take (k + 1) = zs.take k ++ [zs.getD k 0] := by
  rw [List.take_succ_eq_append_getElem h]; simp [h]
/-- Which of the table's entries. -/
def idx (s : BitVec 32) (zs : List Int) (k : Nat) : BitVec 32 := (fold (~~~ s) (zs.take k) ^^^ bv (zs.getD k 0)) &&& 255#32
theorem idx_lt (s zs k) : num (idx s zs k) < 256 := by
  unfold idx; rw [← num_low]; omega
theorem num_mod_xor (c : BitVec 32) (z : Int) (h0 : 0 ≤ z) (h1 : z < 256) : bits .xor .u8 (num c % 256) z = num ((c ^^^ bv z) &&& 255#32) := by
  obtain ⟨n, rfl⟩ := Int.eq_ofNat_of_zero_le h0
  have hn : n < 256 := by omega
  have e1 : num c % 256 = ((c.toNat % 256 : Nat) : Int) := by unfold num; omega
  rw [e1, u8_xor_nat _ _ (by omega) hn, ← num_low]
  unfold num bv
  rw [BitVec.toNat_xor, BitVec.ofInt_natCast, BitVec.toNat_ofNat, Nat.mod_eq_of_lt (show n < 2 ^ 32 by omega)]
  have : (c.toNat % 256) ^^^ n = (c.toNat ^^^ n) % 256 := by
    rw [show (256 : Nat) = 2 ^ 8 from rfl, Nat.xor_mod_two_pow, Nat.mod_eq_of_lt (show n < 2 ^ 8 by omega)]
  omega
theorem St.idx {s zs k m} (h : St s zs k m) (hk : k < zs.length) (hb : ∀ z ∈ zs, 0 ≤ z ∧ z < 256) : bits .xor .u8 (m % 256) (zs.getD k 0) = num (idx s zs k) := by
  have hz : zs.getD k 0 ∈ zs := by simp [hk]
  unfold St at h
  rw [h]
  exact num_mod_xor _ _ (hb _ hz).1 (hb _ hz).2
theorem St.next {s zs k m} (h : St s zs k m) (hk : k < zs.length) : St s zs (k + 1) (bits .xor .u32 (num (tab (Crc.idx s zs k))) (m / 256)) := by
  unfold St at *
  rw [h, num_shr8, num_xor, take_snoc zs k hk, fold_snoc]
  rfl
theorem St.zero (s zs) : St s zs 0 (bits .xor .u32 (num s) 4294967295) := by rw [num_not]; simp [St, fold]
theorem St.zero' (s zs) : St s zs 0 (bits .xor .u32 IntKind.u32.max (num s)) := by rw [show IntKind.u32.max = 4294967295 from rfl, num_not']; simp [St, fold]
theorem St.done {s zs m} (h : St s zs zs.length m) : bits .xor .u32 IntKind.u32.max m = num (more s zs) := by
  unfold St at h; rw [h, show IntKind.u32.max = 4294967295 from rfl, num_not', List.take_length]; rfl

set_option maxRecDepth 100000 in
theorem refMore_any (s : BitVec 32) (m : Int) (hm : m = num s) (a : Option Addr) (len cap : Nat) (zs : List Int) (w : World) (hr : Row w a len zs) :
    Calls Try.prog 52 #[.int .u32 m, .slice a len cap] w fun e w' => e = .returned (.int .u32 (num (more s zs))) ∧ w = w' := by
  have gb : 0 ≤ m ∧ m < 4294967296 := by have := num_nonneg s; have := num_lt s; omega
  have hsh := hr.short
  have HM := Lib.hid hm
  clear hm
  go_enter Try.func52, Try.ntmps52
  go_wp2
  go_loop [0, 6, 11] (fun x d i => ∃ k : Nat, ∃ m : Int, k ≤ len ∧ i = .int .i64 k ∧ x = .int .u32 m ∧ St s zs k m) (fun _ _ i => len - (intOf i).toNat)
  case atStart => exact ⟨0, _, by omega, rfl, rfl, by rw [HM.out]; exact St.zero' s zs⟩
  case round =>
    obtain ⟨k, y, hk, rfl, rfl, g⟩ := hrel
    obtain ⟨hm0, hm1⟩ := g.bounds
    by_cases hlt : k < len
    · obtain ⟨b, off, rfl, hb, hcells⟩ := hr.cells (by omega)
      have hcell := hcells k hlt
      have hx := g.idx (by rw [hr.count]; exact hlt) hr.byt
      obtain ⟨z, hz⟩ : ∃ z, zs.getD k 0 = z := ⟨_, rfl⟩
      rw [hz] at hcell hx
      have hz0 : 0 ≤ z ∧ z < 256 := by rw [← hz]; exact hr.byt _ (by simp [hr.count, hlt])
      have HR := Lib.hid hr
      have HG := Lib.hid g
      have HX := Lib.hid hx
      have HC := Lib.hid hcells
      clear hr g hx hcells hz
      go_wp2_with fail
      rw [HX.out]
      refine (refEntry_any _ _ rfl (idx_lt _ _ _) _).mono ?_
      rintro e w' ⟨rfl, rfl⟩
      have HN := Lib.hid (HG.out.next (by rw [HR.out.count]; exact hlt))
      generalize num (tab (idx s zs k)) = t at *
      go_wp2
      go_round
      case rel => exact ⟨k + 1, _, by omega, by go_num, rfl, HN.out⟩
      case measure => simp [intOf]; omega
    · obtain rfl : k = len := by omega
      go_wp2
      go_ret
      have hq := hr.count
      subst hq
      exact ⟨congrArg Ending.returned (u32_eq g.done), rfl⟩

theorem refSum_any (a : Option Addr) (len cap : Nat) (zs : List Int) (w : World) (hr : Row w a len zs) :
    Calls Try.prog 36 #[.slice a len cap] w fun e w' => e = .returned (.int .u32 (num (more 0#32 zs))) ∧ w = w' := by
  go_enter Try.func36, Try.ntmps36
  go_wp2_with fail
  refine (refMore_any 0#32 0 rfl a len cap zs _ hr).mono ?_
  rintro e w' ⟨rfl, rfl⟩
  go_wp2
  go_ret
  exact ⟨rfl, rfl⟩

def IsTable (c : Array Value) : Prop := c = table
theorem IsTable.cell {c} (h : IsTable c) (i : BitVec 32) (hi : num i < 256) : c[(num i).toNat]? = some (.int .u32 (num (tab i))) := by
  have : (num i).toNat = i.toNat := by unfold num; omega
  rw [h, this, table_cell _ (by unfold num at hi; omega), BitVec.ofNat_toNat, BitVec.setWidth_eq]
theorem IsTable.size {c} (h : IsTable c) : c.size = 256 := by rw [h]; exact part_size _
theorem IsTable.one {c} (h : IsTable c) : c.all (·.oneCell') = true := by rw [h]; exact part_one _

set_option maxRecDepth 100000 in
theorem more_any (s : BitVec 32) (m : Int) (hm : m = num s) (a : Option Addr) (len cap : Nat) (zs : List Int) (w : World) (hr : Row w a len zs) :
    Calls Try.prog 58 #[.int .u32 m, .slice a len cap] w fun e w' => e = .returned (.int .u32 (num (more s zs))) ∧ Below w.heap.size w w' := by
  obtain ⟨z, hz, hp⟩ : ∃ z, (∀ w, (zeroValue 88).run Try.prog w = .ok (.agg z) w) ∧ IsPart 0 z := ⟨zc, zeroTable.1, part_zero.symm⟩
  have gb : 0 ≤ m ∧ m < 4294967296 := by have := num_nonneg s; have := num_lt s; omega
  have hsh := hr.short
  have HM := Lib.hid hm
  have HR := Lib.hid hr
  clear hm hr
  go_enter Try.func58, Try.ntmps58
  go_wp2_with fail
  refine (table_any _).mono ?_
  rintro e w1 ⟨rfl, hb1⟩
  obtain ⟨c, hc⟩ : ∃ c, IsTable c := ⟨table, rfl⟩
  rw [← hc]
  have HC := Lib.hid hc
  have HP := Lib.hid hp
  clear hc hp
  go_wp2_with (first
        | (refine wpList_store_row rfl 88 _ _ rfl w1.heap.size c rfl rfl 88 z (heap_alloc_last w1 _) (by rw [zeroTable.2, HC.out.size]) (by rw [HP.out.size, HC.out.size]) (HC.out.one) ?_; rw [World.setRow_alloc_new]))
  go_loop [6, 8, 14] (fun x d i => ∃ k : Nat, ∃ m : Int, k ≤ len ∧ i = .int .i64 k ∧ x = .int .u32 m ∧ St s zs k m) (fun _ _ i => len - (intOf i).toNat)
  case atStart => exact ⟨0, _, by omega, rfl, rfl, by rw [HM.out]; exact St.zero' s zs⟩
  case round =>
    obtain ⟨k, y, hk, rfl, rfl, g⟩ := hrel
    obtain ⟨hm0, hm1⟩ := g.bounds
    by_cases hlt : k < len
    · have hr1 := HR.out.below (hb1.trans ((Below.refl _ _).alloc hb1.size (.cells c 88)))
      obtain ⟨b, off, rfl, hb, hcells⟩ := hr1.cells (by omega)
      have hcell := hcells k hlt
      have hx := g.idx (by rw [HR.out.count]; exact hlt) HR.out.byt
      obtain ⟨z, hz⟩ : ∃ z, zs.getD k 0 = z := ⟨_, rfl⟩
      rw [hz] at hcell hx
      have hz0 : 0 ≤ z ∧ z < 256 := by rw [← hz]; exact HR.out.byt _ (by simp [HR.out.count, hlt])
      obtain ⟨q, hq⟩ : ∃ q, num (idx s zs k) = q := ⟨_, rfl⟩
      have hq0 : 0 ≤ q ∧ q < 256 := by rw [← hq]; exact ⟨num_nonneg _, idx_lt _ _ _⟩
      have htab := HC.out.cell (idx s zs k) (idx_lt _ _ _)
      have hn := g.next (by rw [HR.out.count]; exact hlt)
      rw [hq] at htab hx
      generalize num (tab (idx s zs k)) = t at *
      have HN := Lib.hid hn
      clear hr1 g hcells hz hq hn
      go_wp2_with fail
      go_round
      case rel => exact ⟨k + 1, _, by omega, by go_num, rfl, HN.out⟩
      case measure => simp [intOf]; omega
    · obtain rfl : k = len := by omega
      go_wp2
      go_ret
      have hq := HR.out.count
      subst hq
      exact ⟨congrArg Ending.returned (u32_eq g.done), hb1.trans ((Below.refl _ _).alloc hb1.size _)⟩

theorem sum_any (a : Option Addr) (len cap : Nat) (zs : List Int) (w : World) (hr : Row w a len zs) :
    Calls Try.prog 59 #[.slice a len cap] w fun e w' => e = .returned (.int .u32 (num (more 0#32 zs))) ∧ Below w.heap.size w w' := by
  go_enter Try.func59, Try.ntmps59
  go_wp2_with fail
  refine (more_any 0#32 0 rfl a len cap zs _ hr).mono ?_
  rintro e w' ⟨rfl, hb⟩
  go_wp2
  go_ret
  exact ⟨rfl, hb⟩

end Crc
end Go.Proofs.Ytjeidfknnophnaa

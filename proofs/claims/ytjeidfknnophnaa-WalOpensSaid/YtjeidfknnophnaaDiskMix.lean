/-
The contract of mix: of two sectors' bits those that the picks say.
-/
import Derived.Test.YtjeidfknnophnaaDiskOps
import Derived.Deep.WholeRow
namespace Go.Proofs.Ytjeidfknnophnaa
open Go.RowKit
set_option linter.unusedVariables false
namespace Disk

theorem run_index_sec (zs : List Int) (k : Nat) (hz : zs.length = 64) (hk : k < 64) (w : World) :
    (Instr.index 81 (.agg (bcells zs).toArray) (.int .i64 k)).run Try.prog w = .ok (.int .u8 (zs.getD k 0)) w := by
  have h1 : ((k : Nat) : Int) < 64 := by omega
  have hi : (Try.prog.info? 5).map (fun i => (i.zero, i.size, i.bytes)) = _ := infoU8
  obtain ⟨i0, hi, hz0, hz1, hz2⟩ := info_parts infoU8
  have hb := bcells_at zs k (by omega)
  simp [Instr.index, asIntOf, run_underlying Try.underlying81, sizeOf, typeInfo, hi, hz1, part, hb]
  omega

theorem run_make_bytes (w : World) :
    (Instr.makeSlice 25 (.int .i64 64) (.int .i64 64)).run Try.prog w = .ok (.slice (some ⟨w.heap.size, 0, none⟩) 64 64) (w.alloc (.cells (bcells zero).toArray 5)) := by
  obtain ⟨i0, hi, hz0, hz1, hz2⟩ := info_parts infoU8
  have := run_make (P := Try.prog) w 25 5 i0 _ Try.underlying25 hi hz0 .i64 .i64 64 64 (by omega) (by omega) (by rw [hz2]; omega) (by omega)
  rw [this, hz1]
  simp only [show (64 : Int).toNat = 64 from rfl]
  congr 3
  apply Array.ext'
  rw [show (Value.int .u8 0).cells = #[Value.int .u8 0] from rfl, toList_madeCells_one]
  simp [bcells, zero]
theorem zeroSector : ∀ w, (zeroValue 81).run Try.prog w = .ok zsec w := by
  intro w
  obtain ⟨i0, hi, hz0, _⟩ := info_parts infoSec
  simp [zeroValue, typeInfo, hi, hz0]
theorem mix_len (a b p : List Int) : (mix a b p).length = 64 := by simp [mix]
/-- The first k bytes are mixed. -/
def mixTo (a b p : List Int) (k : Nat) : List Int := (mix a b p).take k ++ a.drop k
theorem mixTo_len {a b p : List Int} (ha : a.length = 64) {k : Nat} (hk : k ≤ 64) : (mixTo a b p k).length = 64 := by
  simp [mixTo, mix_len, ha]; omega
theorem mixTo_zero (a b p : List Int) : mixTo a b p 0 = a := by simp [mixTo]
theorem mixTo_all {a b p : List Int} (ha : a.length = 64) : mixTo a b p 64 = mix a b p := by
  rw [mixTo, List.take_of_length_le (by rw [mix_len]; exact Nat.le_refl _), List.drop_eq_nil_of_le (by omega), List.append_nil]
theorem mixTo_at {a b p : List Int} (ha : a.length = 64) {k : Nat} (hk : k < 64) : (mixTo a b p k).getD k 0 = a.getD k 0 := by
  have : ((mix a b p).take k).length = k := by rw [List.length_take, mix_len]; omega
  simp [mixTo, List.getElem?_append_right, this]
theorem mixTo_succ {a b p : List Int} (ha : a.length = 64) {k : Nat} (hk : k < 64) : (mixTo a b p k).set k (mixb (a.getD k 0) (b.getD k 0) (p.getD k 0)) = mixTo a b p (k + 1) := by
  have hl : ((mix a b p).take k).length = k := by rw [List.length_take, mix_len]; omega
  have hm : (mix a b p).take (k + 1) = (mix a b p).take k ++ [mixb (a.getD k 0) (b.getD k 0) (p.getD k 0)] := by
    rw [List.take_succ_eq_append_getElem (by rw [mix_len]; exact hk)]
    simp [mix]
  rw [mixTo, mixTo, List.set_append_right _ _ (by omega), hl, Nat.sub_self, hm, List.append_assoc]
  congr 1
  rw [show a.drop k = a[k] :: a.drop (k + 1) from List.drop_eq_getElem_cons (by omega), List.set_cons_zero]
  rfl
theorem mixb_byte (a b p : Int) : 0 ≤ mixb a b p ∧ mixb a b p < 256 := by
  unfold mixb
  simp only [bits, IntKind.wrap_u8]
  omega
theorem or_comm8 (a b : Int) : bits .or .u8 a b = bits .or .u8 b a := by
  simp only [bits, BitVec.or_comm]
theorem mix_sec (a b p : List Int) : Sec (mix a b p) := ⟨mix_len a b p, fun z hz => by
  obtain ⟨i, _, rfl⟩ := List.mem_map.1 hz
  exact mixb_byte _ _ _⟩

set_option maxRecDepth 100000 in
theorem mix_any (x y p : List Int) (w : World) (hx : Sec x) (hy : Sec y) (hp : Sec p) :
    Calls Try.prog 49 #[.agg (bcells x).toArray, .agg (bcells y).toArray, .agg (bcells p).toArray] w fun e w' => e = .returned (.agg (bcells (mix x y p)).toArray) ∧ Below w.heap.size w w' := by
  obtain ⟨z, hz, hzs⟩ : ∃ z : Array Value, (∀ w, (zeroValue 81).run Try.prog w = .ok (.agg z) w) ∧ z.size = 64 := ⟨_, zeroSector, by simp⟩
  have hidx := fun k hk => run_index_sec p k hp.len hk
  obtain ⟨cx, hcx⟩ : ∃ c, c = (bcells x).toArray := ⟨_, rfl⟩
  obtain ⟨cy, hcy⟩ : ∃ c, c = (bcells y).toArray := ⟨_, rfl⟩
  obtain ⟨cp, hcp⟩ : ∃ c, c = (bcells p).toArray := ⟨_, rfl⟩
  rw [← hcx, ← hcy, ← hcp]
  simp only [← hcp] at hidx
  have X := Lib.hid hcx
  have Y := Lib.hid hcy
  have Z := Lib.hid hcp
  have IX := Lib.hid hidx
  clear hcx hcy hcp hidx
  have F0 : Blk.Is ((((w.alloc (.cells cx 81)).alloc (.cells cy 81)).alloc (.cells cp 81)).alloc (.cells z 81)) w.heap.size 81 cx := (((Blk.Is.new w 81 cx).alloc _).alloc _).alloc _
  have F1 : Blk.Is ((((w.alloc (.cells cx 81)).alloc (.cells cy 81)).alloc (.cells cp 81)).alloc (.cells z 81)) (w.heap.size + 1) 81 cy := by
    have := ((Blk.Is.new (w.alloc (.cells cx 81)) 81 cy).alloc (.cells cp 81)).alloc (.cells z 81)
    rwa [World.size_alloc] at this
  have F2 : Blk.Is ((((w.alloc (.cells cx 81)).alloc (.cells cy 81)).alloc (.cells cp 81)).alloc (.cells z 81)) (w.heap.size + 1 + 1) 81 cp := by
    have := (Blk.Is.new ((w.alloc (.cells cx 81)).alloc (.cells cy 81)) 81 cp).alloc (.cells z 81)
    rwa [World.size_alloc, World.size_alloc] at this
  have F3 : Blk.Is ((((w.alloc (.cells cx 81)).alloc (.cells cy 81)).alloc (.cells cp 81)).alloc (.cells z 81)) (w.heap.size + 1 + 1 + 1) 81 z := by
    have := Blk.Is.new (((w.alloc (.cells cx 81)).alloc (.cells cy 81)).alloc (.cells cp 81)) 81 z
    rwa [World.size_alloc, World.size_alloc, World.size_alloc] at this
  have FB : Below w.heap.size w ((((w.alloc (.cells cx 81)).alloc (.cells cy 81)).alloc (.cells cp 81)).alloc (.cells z 81)) := ((((Below.refl _ _).alloc (Nat.le_refl _) _).alloc (by simp) _).alloc (by simp; omega) _).alloc (by simp; omega) _
  have hcs : (Try.prog.info? 81).map (·.size) = some cp.size := by rw [sizeSector, Z.out]; simp [hp.len]
  have G0 := Lib.hid F0
  have G1 := Lib.hid F1
  have G2 := Lib.hid F2
  have G3 := Lib.hid F3
  have GC := Lib.hid hcs
  clear F0 F1 F2 F3 hcs
  go_enter Try.func49, Try.ntmps49
  go_wp2_with (refine wpList_load_row rfl 81 _ rfl (w.heap.size + 1 + 1) rfl 81 cp (0, 0) _ G2.out Try.underlying81 rfl GC.out ?_)
  go_loopw [10] (fun i wr => ∃ k : Nat, ∃ c : Array Value, k ≤ 64 ∧ i = .int .i64 k ∧ Below w.heap.size w wr ∧ Blk.Is wr w.heap.size 81 c ∧ Blk.Is wr (w.heap.size + 1) 81 cy ∧ Blk.Is wr (w.heap.size + 1 + 1 + 1) 81 z ∧ Hid (c = (bcells (mixTo x y p k)).toArray)) (fun i _ => 64 - (intOf i).toNat)
  case atStart =>
    exact ⟨0, cx, by omega, rfl, FB, G0.out, G1.out, G3.out, by rw [mixTo_zero]; exact X⟩
  case round =>
    obtain ⟨k, c, hk, rfl, hb, h1, h2, h3, hc⟩ := hrel
    by_cases hlt : k < 64
    · have hd := IX.out k hlt
      have hca : c[k]? = some (.int .u8 (x.getD k 0)) := by
        have := bcells_at (mixTo x y p k) k (by rw [mixTo_len hx.len (by omega)]; exact hlt)
        rw [mixTo_at hx.len hlt] at this
        rw [hc.out]; simpa using this
      have hcb : cy[k]? = some (.int .u8 (y.getD k 0)) := by
        have := bcells_at y k (by rw [hy.len]; exact hlt)
        rw [Y.out]; simpa using this
      have c1 := h1.at hca
      have c2 := h2.at hcb
      have f1 := h1.free k
      have hn : c.setIfInBounds k (.int .u8 (mixb (x.getD k 0) (y.getD k 0) (p.getD k 0))) = (bcells (mixTo x y p (k + 1))).toArray := by
        rw [hc.out, ← mixTo_succ hx.len hlt]
        apply Array.ext'
        simp [bcells, List.map_set]
      obtain ⟨a, ha⟩ : ∃ a, x.getD k 0 = a := ⟨_, rfl⟩
      obtain ⟨b, hb'⟩ : ∃ b, y.getD k 0 = b := ⟨_, rfl⟩
      obtain ⟨q, hq⟩ : ∃ q, p.getD k 0 = q := ⟨_, rfl⟩
      rw [ha] at c1 hn
      rw [hb'] at c2 hn
      rw [hq] at hd hn
      have HN := Lib.hid hn
      have H1 := Lib.hid h1
      have H2 := Lib.hid h2
      have H3 := Lib.hid h3
      have i0 : (0 : Int) ≤ k := by omega
      have i1 : (k : Int) < 64 := by omega
      clear ha hb' hq hn hca hcb h1 h2 h3 hc
      go_wp2_with fail
      go_region
      go_wp2
      go_roundw
      case rel =>
        refine ⟨k + 1, _, by omega, by go_num, ?_, (H1.out.set k _), H2.out.setOther _ (by show w.heap.size + 1 ≠ w.heap.size; omega), H3.out.setOther _ (by show w.heap.size + 1 + 1 + 1 ≠ w.heap.size; omega), HN.out⟩
        exact (Below.setCell hb (by show w.heap.size ≤ w.heap.size; omega) _).drew
      case measure => simp [intOf]; omega
    · obtain rfl : k = 64 := by omega
      rw [mixTo_all hx.len] at hc
      have hsz : (Try.prog.info? 81).map (·.size) = some c.size := by rw [sizeSector, hc.out]; simp [mix_len]
      have hone : c.all (·.oneCell') = true := by rw [hc.out]; exact all_oneCell_toArray (bcells_one _)
      have hzc : z.size = c.size := by rw [hzs, hc.out]; simp [mix_len]
      have HS := Lib.hid hsz
      have H1 := Lib.hid h1
      have H3 := Lib.hid h3
      have HO := Lib.hid hone
      have HZ := Lib.hid hzc
      clear hsz h1 h2 h3 hone hzc hzs
      go_wp2_with (first
        | (refine wpList_load_row rfl 81 _ rfl w.heap.size rfl 81 c (0, 0) _ H1.out Try.underlying81 rfl HS.out ?_)
        | (refine wpList_store_row rfl 81 _ _ rfl (w.heap.size + 1 + 1 + 1) c rfl rfl 81 z H3.out HS.out HZ.out HO.out ?_))
      refine bodyPost_ret (v := .agg c) (results_cell_row (p := 6) (ty := 81) (by kernel_rfl) _ _ (w.heap.size + 1 + 1 + 1) 81 c (0, 0) _ rfl (H3.out.row c) Try.underlying81 rfl HS.out) rfl ⟨by rw [hc.out], ?_⟩
      exact Blk.belowRow hb (by omega) c
end Disk
end Go.Proofs.Ytjeidfknnophnaa

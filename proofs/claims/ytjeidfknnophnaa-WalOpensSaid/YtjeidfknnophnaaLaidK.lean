/-
The contract of the statements' own laid: a disk of bytes.
-/
import Derived.Test.YtjeidfknnophnaaRecRef
import Derived.Test.YtjeidfknnophnaaWalArgs
import Derived.Test.YtjeidfknnophnaaWalAll
import Derived.Test.YtjeidfknnophnaaDiskAwake
import Derived.Test.YtjeidfknnophnaaDiskCrash
namespace Go.Proofs.Ytjeidfknnophnaa
open Go.RowKit
set_option linter.unusedVariables false
set_option linter.unusedSimpArgs false
namespace Wal
open Disk (Dk St Sec Secs fresh hasB)
/-- What laid hands back: the bytes are of no matter here. -/
def LaidAt (w : World) (n : Nat) (e : Ending) (w' : World) : Prop :=
  ∃ (d : Dk) (s : St), e = .returned d.ptr ∧ d.n = n ∧ d.From w.heap.size ∧ Disk.At w' d s ∧ s.off = false ∧ Below w.heap.size w w'
theorem write_calm {s : St} {k : Nat} (i : Int) (zs : List Int) (h1 : s.off = false) (h2 : s.fuse = 0) (h3 : s.calls ≤ k) : (s.write i zs).off = false ∧ (s.write i zs).fuse = 0 ∧ (s.write i zs).calls ≤ k + 1 := by
  unfold St.write
  split <;> simp [St.count, St.put, h1, h2, h3]
theorem flush_calm {s : St} (h1 : s.off = false) (h2 : s.fuse = 0) : s.flush.off = false := by
  unfold St.flush
  split <;> simp [St.count, St.flushed, h1, h2]
set_option maxRecDepth 100000 in
set_option maxHeartbeats 8000000 in
theorem laid_any (g off len cap : Nat) (zs : List Int) (w : World) (hr : Row w (some ⟨g, off, none⟩) len zs) (hc : len ≤ cap) (h1 : 64 ≤ len) (h2 : len ≤ 12000) :
    Calls Try.prog 17 #[.slice (some ⟨g, off, none⟩) len cap] w (LaidAt w ((len + 63) / 64)) := by
  have HR := Lib.hid hr
  clear hr
  obtain ⟨n, hn⟩ : ∃ n, (len + 63) / 64 = n := ⟨_, rfl⟩
  rw [hn]
  have hn1 : ((len : Int) + 64 - 1) / 64 = (n : Int) := by omega
  have hn2 : n ≤ 200 := by omega
  have hsz : Disk.sizeOf (n : Int) = n := by unfold Disk.sizeOf; omega
  obtain ⟨z, hmk, hz⟩ : ∃ z, (∀ w : World, (Instr.makeSlice 25 (.int .i64 64) (.int .i64 64)).run Try.prog w = .ok (.slice (some ⟨w.heap.size, 0, none⟩) 64 64) (w.alloc (.cells z 5))) ∧ z = (bcells Disk.zero).toArray := ⟨_, Disk.run_make_bytes, rfl⟩
  have HZ := Lib.hid hz
  clear hz
  have HMK := Lib.hid hmk
  clear hmk
  go_enter Try.func17, Try.ntmps17
  go_wp2_with fail
  try rw [hn1]
  have hnl : n * 64 < len + 64 := by omega
  refine (Disk.new_any _ _).mono ?_
  rintro e w1 ⟨d, rfl, hdn, hf, hd1, b1⟩
  rw [hsz] at hd1 hdn
  have HF := Lib.hid hf
  have HDN := Lib.hid hdn
  have HD1 := Lib.hid hd1
  have HB1 := Lib.hid b1
  clear hd1 b1 hf hdn hn hn1 hsz
  unfold Dk.ptr
  go_wp2_with fail
  go_loopw [15] (fun i u => ∃ (k : Nat) (s : St), k ≤ n ∧ i = .int .i64 k ∧ Disk.At u d s ∧ s.off = false ∧ s.fuse = 0 ∧ s.calls ≤ k ∧ Below w.heap.size w u) (fun i _ => n - (intOf i).toNat)
  case atStart => exact ⟨0, _, by omega, rfl, HD1.out, rfl, rfl, Nat.zero_le _, HB1.out⟩
  case round =>
    clear HD1 HB1
    obtain ⟨k, s, hk, rfl, hd, so, sf, sc, hb⟩ := hrel
    have HD := Lib.hid hd
    have HB := Lib.hid hb
    have hbs := hb.size
    have SO := Lib.hid so
    have SF := Lib.hid sf
    clear hd hb so sf
    by_cases hlt : k < n
    · have hlt' : (k : Int) < (n : Int) := by omega
      have hkl : k * 64 ≤ len := by omega
      have hmk := HMK.out wr
      have bA : Below wr.heap.size wr (wr.alloc (.cells z 5)) := (Below.refl _ _).alloc (Nat.le_refl _) (.cells z 5)
      have hK := Blk.Is.new wr 5 z
      have hsrc := Row.part ((HR.out.below HB.out).below bA) (k * 64) len hkl (Nat.le_refl _)
      have hrl := hsrc.count
      obtain ⟨z1, hz1⟩ : ∃ z1, (zs.drop (k * 64)).take (len - k * 64) = z1 := ⟨_, rfl⟩
      rw [hz1] at hsrc hrl
      have hrun := fun ty => Blk.run_copy_sz (P := Try.prog) (wr.alloc (.cells z 5)) 25 25 ty 5 1 wr.heap.size 0 64 64 (some ⟨g, off + k * 64, none⟩) (len - k * 64) (cap - k * 64) z 5 (bcells (z1.take 64)) Try.underlying25 sizeU8 hK
        (by rw [bcells_length, List.length_take, hrl, Nat.mul_one]; exact Nat.min_comm _ _) (hsrc.source 64)
        (by rw [bcells_length, List.length_take, HZ.out]; simp only [List.size_toArray, bcells_length, Disk.zero_sec.len]; omega) (bcells_one _)
      obtain ⟨v, hv⟩ : ∃ v, v = (wr.alloc (.cells z 5)).setRow wr.heap.size (Blk.over z.toList 0 (bcells (z1.take 64))).toArray := ⟨_, rfl⟩
      simp only [← hv] at hrun
      have hbv : Below wr.heap.size wr v := by rw [hv]; exact Blk.belowRow ((Below.refl _ _).alloc (Nat.le_refl _) _) (Nat.le_refl _) _
      have hkv : Blk.Is v wr.heap.size 5 (bcells (Disk.pick z1)).toArray := by
        rw [hv, Disk.over_pick HZ.out]; exact hK.row _
      have hpick := Disk.pick_sec hsrc.byt
      obtain ⟨pk, hpk⟩ : ∃ pk, Disk.pick z1 = pk := ⟨_, rfl⟩
      rw [hpk] at hkv hpick
      obtain ⟨bb, hbb⟩ : ∃ bb, wr.heap.size = bb := ⟨_, rfl⟩
      rw [hbb] at hrun hkv hmk
      have hrow2 : Row v (some ⟨bb, 0, none⟩) 64 pk := by
        refine Row.ofIs hkv 0 64 pk hpick.len (by omega) hpick.byt fun i hi => ?_
        have := bcells_at pk i (by rw [hpick.len]; exact hi)
        rw [Nat.zero_add]; simpa using this
      have hdv := HD.out.below hbv
      have hw := Disk.write_any d s (k : Int) (some ⟨bb, 0, none⟩) 64 64 pk v hdv (by omega) hrow2 (fun b off e => by cases e; exact hdv.notBytes hkv)
      unfold Dk.ptr at hw
      have HW := Lib.hid hw
      have HBV := Lib.hid (HB.out.trans (hbv.mono hbs))
      clear hv hbv hkv hpick hrow2 hdv hw hsrc hrl hK hz1 hpk hbb bA
      go_wp2_with (refine Blk.wpList_copy rfl (.tmp 19) (.tmp 23) 25 25 rfl rfl rfl (hrun _) ?_)
      refine HW.out.mono ?_
      rintro e w2 ⟨rfl, hd2, c2⟩
      have b2 := HBV.out.trans (c2.below (fun k hk => HF.out.has hk) HBV.out.size)
      have hcalm := write_calm (k : Int) pk SO.out SF.out sc
      have HD2 := Lib.hid hd2
      have HB2 := Lib.hid b2
      clear hd2 b2 c2 HW HD HB HBV hbs
      go_wp2_with fail
      refine ⟨⟨k + 1, _, by omega, by go_num, HD2.out, hcalm.1, hcalm.2.1, hcalm.2.2, HB2.out⟩, ?_⟩
      simp [intOf]; omega
    · obtain rfl : k = n := by omega
      have hlt' : ¬ (k : Int) < (k : Int) := by omega
      have hfl := Disk.flush_any d s wr HD.out (by omega)
      unfold Dk.ptr at hfl
      have HFL := Lib.hid hfl
      have HFS := Lib.hid (flush_calm SO.out SF.out)
      clear hfl
      go_wp2_with fail
      refine HFL.out.mono ?_
      rintro e w2 ⟨rfl, hd2, c2⟩
      have b2 := HB.out.trans (c2.below (fun k hk => HF.out.has hk) hbs)
      have HD2 := Lib.hid hd2
      have HB2 := Lib.hid b2
      clear hd2 b2 c2 HFL
      go_wp2_with fail
      go_ret
      exact ⟨d, _, rfl, HDN.out, HF.out, HD2.out, HFS.out, HB2.out⟩
end Wal
end Go.Proofs.Ytjeidfknnophnaa

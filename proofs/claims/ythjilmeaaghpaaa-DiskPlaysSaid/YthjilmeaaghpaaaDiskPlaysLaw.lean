/-
DiskPlays' walk.
-/
import Derived.Test.YthjilmeaaghpaaaDiskLike
import Derived.Test.YthjilmeaaghpaaaDiskScript
import Derived.Test.YthjilmeaaghpaaaRefNew
import Derived.Test.YthjilmeaaghpaaaReg
namespace Go.Proofs.Ythjilmeaaghpaaa
open Go.RowKit
set_option linter.unusedVariables false
namespace Pair
open Disk (Sec Secs St hasB Dk)
open Ref (Rk)

set_option maxRecDepth 100000 in
theorem diskPlays_walk (n : Int) (l : Value) (len : Nat) (cl : Nat → Cl) (w : World) (hw : (Lit.int .i64 n).wf = true) (hs : Script w l len cl) :
    Calls Try.prog 3 #[.int .i64 n, l] w fun e w' => e = .returned (.bool true) ∧ Below w.heap.size w w' := by
  obtain ⟨N, hN, hN12⟩ : ∃ N, min n 12 = N ∧ N ≤ 12 := ⟨_, rfl, by omega⟩
  obtain ⟨a, cap, rfl, hcells⟩ := hs.shape
  have hshort := hs.short
  have HCL := Lib.hid hcells
  clear hs hcells
  rcases (show n ≤ 12 ∧ n = N ∨ 12 < n ∧ 12 = N by omega) with ⟨h1, rfl⟩ | ⟨h1, rfl⟩
  all_goals
    clear hN
    go_enter Try.func3, Try.ntmps3
    go_wp2_with fail
    refine (Disk.new_any _ _).mono ?_
    rintro e w1 ⟨dk, rfl, hdn, hdf, hd1, b1⟩
    have HD1 := Lib.hid hd1
    clear hd1 hdn
    go_wp2_with fail
    refine (Ref.ref_new_any _ _ (by omega)).mono ?_
    rintro e w2 ⟨m, rfl, hmn, hmB, hr2, b2⟩
    have hat : At w.heap.size w2 dk m _ _ := ⟨HD1.out.below b2, hr2, like_fresh _, hdf, by rw [hmB]; exact b1.size⟩
    have hb2 := b1.trans (b2.mono b1.size)
    have HAT := Lib.hid hat
    have HB2 := Lib.hid hb2
    clear HD1 hmn hmB hr2 b1 b2 hat hb2 hdf
    unfold Dk.ptr Rk.ptr
    go_wp2_with fail
    go_loopw [7] (fun i u => ∃ k : Nat, ∃ sd sr : St, k ≤ len ∧ k ≤ 60 ∧ i = .int .i64 k ∧ At w.heap.size u dk m sd sr ∧ sd.calls ≤ k ∧ Below w.heap.size w u) (fun i _ => 60 - (intOf i).toNat)
    case atStart => exact ⟨0, _, _, by omega, by omega, rfl, HAT.out, Nat.le_refl 0, HB2.out⟩
    case round =>
      clear HAT HB2
      obtain ⟨k, sd, sr, hk, hk60, rfl, hat, hcal, hbel⟩ := hrel
      have HAT := Lib.hid hat
      have HBEL := Lib.hid hbel
      clear hat hbel
      by_cases hgo : k < len ∧ k < 60
      · obtain ⟨hkl, hk6⟩ := hgo
        obtain ⟨b, off, rfl, hof⟩ := HCL.out (by omega)
        obtain ⟨hok, hblt, hcell⟩ := hof k hkl
        have hc0 : wr.cell? ⟨b, off + k * 5 + 0, none⟩ = some (.int .i64 (cl k).d) := by rw [HBEL.out.cell (by exact hblt)]; exact hcell 0 _ rfl
        have hc1 : wr.cell? ⟨b, off + k * 5 + 1, none⟩ = some (.int .i64 (cl k).i) := by rw [HBEL.out.cell (by exact hblt)]; exact hcell 1 _ rfl
        have hc2 : wr.cell? ⟨b, off + k * 5 + 2, none⟩ = some (.int .u8 (cl k).b) := by rw [HBEL.out.cell (by exact hblt)]; exact hcell 2 _ rfl
        have hc3 : wr.cell? ⟨b, off + k * 5 + 3, none⟩ = some (.bool (cl k).sh) := by rw [HBEL.out.cell (by exact hblt)]; exact hcell 3 _ rfl
        have hc4 : wr.cell? ⟨b, off + k * 5 + 4, none⟩ = some (.slice (cl k).pa (cl k).pl (cl k).pc) := by rw [HBEL.out.cell (by exact hblt)]; exact hcell 4 _ rfl
        rw [Nat.add_zero] at hc0
        have HOK := Lib.hid hok
        have hd : decide ((k : Int) < (len : Int)) = true := by simpa using hkl
        clear hok hcell hof
        go_wp2_with fail
        have hdo : ∀ u, Below wr.heap.size wr u → Calls Try.prog 11 #[.pointer (some ⟨dk.p, 0, none⟩), .pointer (some ⟨m.p, 0, none⟩), .agg #[.int .i64 (cl k).d, .int .i64 (cl k).i, .int .u8 (cl k).b, .bool (cl k).sh, .slice (cl k).pa (cl k).pl (cl k).pc]] u fun e u' => Done w.heap.size u dk m sd e u' :=
          fun u hu => do_any w.heap.size dk m sd sr (cl k) u (HAT.out.below hu) (by omega) (HOK.out.below (HBEL.out.trans (hu.mono HBEL.out.size)))
        have HDO := Lib.hid hdo
        clear hdo
        go_wp2_with fail
        refine Reg.From.start (by kernel_rfl) ?_
        refine Reg.From.quiet 6 (by kernel_rfl) (fun u => ∃ n, u = wr.drewN n) ⟨1, rfl⟩ ?_
        simp only [List.drop_zero, Nat.sub_zero, List.take_succ_cons, List.take_zero]
        iterate 6 (go_big_quiet_step (fail))
        refine wpQuiet_nil ?_
        intro u0 hu0
        have hu0 : Below wr.heap.size wr u0 := by obtain ⟨n, rfl⟩ := hu0; exact below_drewN wr n
        refine Reg.From.op 6 (by kernel_rfl) ?_
        simp only [List.drop_succ_cons, List.drop_zero, List.take_succ_cons, List.take_zero]
        go_wp2_with fail
        refine (HDO.out _ hu0).mono ?_
        rintro e uD ⟨rfl, ⟨sd', sr', hat', hcal'⟩, hcg'⟩
        have q2 := hat'.r.flds.c2
        have q4 := hat'.r.flds.c4
        have hcl : ∀ n, Calls Try.prog 12 #[.pointer (some ⟨dk.p, 0, none⟩)] (uD.drewN n) fun e u' => e = .returned (.int .i64 sr'.calls) ∧ u' = uD.drewN n := fun n => by
          have := Disk.calls_any dk sd' _ (hat'.drewN n).d
          rw [hat'.like.calls] at this
          exact this.mono fun e w' hh => ⟨hh.1, hh.2.symm⟩
        have hdw : ∀ n, Calls Try.prog 13 #[.pointer (some ⟨dk.p, 0, none⟩)] (uD.drewN n) fun e u' => e = .returned (.bool sr'.off) ∧ u' = uD.drewN n := fun n => by
          have := Disk.down_any dk sd' _ (hat'.drewN n).d
          rw [hat'.like.off] at this
          exact this.mono fun e w' hh => ⟨hh.1, hh.2.symm⟩
        have hbs : (sr'.off != sr'.off) = false := by simp
        have hbD : Below w.heap.size w uD := (HBEL.out.trans (hu0.mono HBEL.out.size)).trans ((HAT.out.below hu0).chgBelow (by have := HBEL.out.size; have := hu0.size; omega) hcg')
        have HATD := Lib.hid hat'
        have HCA := Lib.hid hcl
        have HDW := Lib.hid hdw
        have HBD := Lib.hid hbD
        clear hat' hcl hdw hbD hcg' hc0 hc1 hc2 hc3 hc4
        go_wp2_with fail
        change Reg.From _ _ _ 7 _ _
        refine Reg.From.last (k := 7) (by kernel_rfl) (fun v => ∃ n, v = uD.drewN n) ⟨0, rfl⟩ ?_
        simp only [List.drop_succ_cons, List.drop_zero]
        repeat (go_big_quiet_step ((first | (go_at_call 12; exact Calls.quiet_of_same (HCA.out _)) | (go_at_call 13; exact Calls.quiet_of_same (HDW.out _)))))
        refine wpQuiet_nil ?_
        intro u3 hu3
        have hnext : ∃ sd sr : St, At w.heap.size u3 dk m sd sr ∧ sd.calls ≤ k + 1 ∧ Below w.heap.size w u3 := by
          obtain ⟨n3, rfl⟩ := hu3
          exact ⟨sd', sr', HATD.out.drewN n3, by omega, ⟨HBD.out.os, HBD.out.tape, HBD.out.output, HBD.out.size, HBD.out.block⟩⟩
        have HNX := Lib.hid hnext
        clear hnext hu3 HCA HDW HATD HBD q2 q4 hbs
        go_wp2
        go_roundw
        case rel =>
          obtain ⟨sd2, sr2, x1, x2, x3⟩ := HNX.out
          exact ⟨k + 1, sd2, sr2, by omega, by omega, by go_num, x1, x2, x3⟩
        case measure => simp [intOf]; omega
      · have hlk := fun u (hu : Below wr.heap.size wr u) => like_any w.heap.size dk m sd sr u (HAT.out.below hu)
        have hlk0 := hlk wr (Below.refl _ _)
        unfold Dk.ptr Rk.ptr at hlk0
        have HLK := Lib.hid hlk0
        clear hlk hlk0
        rcases (show k = len ∨ k < len ∧ k = 60 by omega) with rfl | ⟨hkl, rfl⟩
        · have hd : decide ((k : Int) < (k : Int)) = false := by simp
          go_wp2_with fail
          refine HLK.out.mono ?_
          rintro e wL ⟨rfl, bL⟩
          go_wp2_with fail
          refine (Disk.awake_any _).mono ?_
          rintro e wA ⟨rfl, bA⟩
          go_wp2
          go_ret
          exact ⟨rfl, HBEL.out.trans ((bL.trans (bA.mono bL.size)).mono HBEL.out.size)⟩
        · have hd : decide (((60 : Nat) : Int) < (len : Int)) = true := by simp; omega
          go_wp2_with fail
          refine HLK.out.mono ?_
          rintro e wL ⟨rfl, bL⟩
          go_wp2_with fail
          refine (Disk.awake_any _).mono ?_
          rintro e wA ⟨rfl, bA⟩
          go_wp2
          go_ret
          exact ⟨rfl, HBEL.out.trans ((bL.trans (bA.mono bL.size)).mono HBEL.out.size)⟩
end Pair
end Go.Proofs.Ythjilmeaaghpaaa

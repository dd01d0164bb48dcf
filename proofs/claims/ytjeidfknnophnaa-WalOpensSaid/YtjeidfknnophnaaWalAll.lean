/-
The contracts of the statements' own helper all, and of the reference's Area over a whole disk.
-/
import Derived.Test.YtjeidfknnophnaaWalArgs
import Derived.Test.YtjeidfknnophnaaRefNew
namespace Go.Proofs.Ytjeidfknnophnaa
open Go.RowKit
set_option linter.unusedVariables false
namespace Wal
open Disk (Dk St Sec Secs)

set_option maxRecDepth 100000 in
theorem all_any (d : Dk) (s : St) (w : World) (h : Disk.At w d s) (ho : s.off = false) : Calls Try.prog 21 #[d.ptr] w (Own1 w (bytes s.now 0 d.n)) := by
  have hs := h.now.secs
  have hf := h.now.few
  have hlen := Disk.len_any d s w h
  have hrd := fun (i : Int) u (hu : Below w.heap.size w u) => Disk.read_any d s i u (h.below hu)
  have hnn : ∀ k : Nat, k < d.n → s.read (k : Int) = (s.now.getD k [], 0) := fun k hk => by
    unfold St.read
    rw [if_neg (by rw [ho]; decide)]
    simp [Disk.hasB, hs.count, hk]
  have HS := Lib.hid hs
  have HRD := Lib.hid hrd
  have HNN := Lib.hid hnn
  have HL := Lib.hid hlen
  obtain ⟨n, hn⟩ : ∃ n, d.n = n := ⟨_, rfl⟩
  rw [hn] at HS HNN HL hf
  rw [hn]
  clear h ho hs hrd hnn hlen hn
  unfold Dk.ptr at *
  go_enter Try.func21, Try.ntmps21
  go_wp2_with fail
  refine HL.out.mono ?_
  rintro e w' ⟨rfl, rfl⟩
  go_wp2_with fail
  go_loopw [3, 9] (fun v i u => ∃ k : Nat, k ≤ n ∧ i = .int .i64 k ∧ Mine u w.heap.size v (bytes s.now 0 k) ∧ Below w.heap.size w u) (fun _ i _ => n - (intOf i).toNat)
  case atStart => exact ⟨0, by omega, rfl, by rw [bytes_self]; exact mine_none _ _, Below.refl _ _⟩
  case round =>
    clear HL
    obtain ⟨k, hk, rfl, hm, hb⟩ := hrel
    obtain ⟨n2, a2, c2, rfl, hc2, hl2, _⟩ := hm.rows
    have hbl := bytes_len HS.out 0 k hk
    have hsu := fun h : k < n => (bytes_succ HS.out 0 k (Nat.zero_le _) h).symm
    rw [hbl] at hl2
    have HSU := Lib.hid hsu
    clear hsu
    have HM := Lib.hid hm
    have HB := Lib.hid hb
    have hBS := hb.size
    clear hm
    by_cases hlt : k < n
    · have hlt' : (k : Int) < (n : Int) := by omega
      have hr := HRD.out k _ hb
      have hsu := HSU.out hlt
      have h64 := (HS.out.at hlt).len
      rw [HNN.out k hlt] at hr
      obtain ⟨r, hrr⟩ : ∃ r, s.now.getD k [] = r := ⟨_, rfl⟩
      rw [hrr] at hr hsu h64
      have HSQ := Lib.hid hsu
      clear hsu hrr
      have HR := Lib.hid hr
      clear hr hb
      go_wp2_with fail
      refine HR.out.mono ?_
      rintro e w3 ⟨v3, rfl, hm3, hb3⟩
      obtain ⟨n3, a3, c3, rfl, hc3, hl3, r3⟩ := hm3.rows
      have hnil : a3 = none → c3 = 0 := by
        rcases id hm3.1.2 with ⟨e, _⟩ | ⟨g, cap, cur, e, _⟩
        · simp only [Value.slice.injEq] at e; exact fun _ => e.2.2
        · simp only [Value.slice.injEq] at e; intro h; rw [e.1] at h; cases h
      have HNIL := Lib.hid hnil
      have hB3 := HB.out.trans (hb3.mono hBS)
      have HM3 := Lib.hid (HM.out.below hb3)
      have HR3 := Lib.hid r3
      have HBB := Lib.hid hB3
      have hs3 := hB3.size
      clear hm3 hb3 r3 hB3 HR HM HB hnil
      go_wp2_with (at_builtin; refine append_bytes rfl (.tmp 18) (.tmp 19) rfl w.heap.size _ _ rfl HM3.out a3 n3 c3 rfl _ HR3.out HNIL.out ?_ ?_ ?_)
      · show (bytes s.now 0 k).length + n3 ≤ _; omega
      · exact hs3
      intro v4 w4 hm4 hg4
      have hB4 := below_grow HBB.out HM3.out (Nat.le_refl _) hs3 hg4
      rw [HSQ.out] at hm4
      have HM4 := Lib.hid hm4
      have HB4 := Lib.hid hB4
      clear hm4 hg4 hB4 HM3 HR3 HBB
      go_wp2
      refine ⟨⟨k + 1, by omega, by go_num, HM4.out, HB4.out⟩, ?_⟩
      simp [intOf]; omega
    · obtain rfl : k = n := by omega
      clear hb
      go_wp2
      go_ret
      exact ⟨_, rfl, HM.out, HB.out⟩

set_option maxRecDepth 100000 in
theorem area_any (m : Ref.Rk) (s : St) (w : World) (h : Ref.At w m s) : Calls Try.prog 30 #[m.ptr, .int .i64 0, .int .i64 m.n] w (Own1 w (bytes s.now 0 m.n)) := by
  have hs := h.now.secs
  have hf := h.now.few
  obtain ⟨n, hn⟩ : ∃ n, m.n = n := ⟨_, rfl⟩
  have HS := Lib.hid hs
  have HH := Lib.hid h
  have HN := Lib.hid hn
  rw [hn] at HS hf
  rw [hn]
  clear h hs hn
  unfold Ref.Rk.ptr
  go_enter Try.func30, Try.ntmps30
  go_wp2_with fail
  go_loopw [7, 8] (fun v i u => ∃ k : Nat, k ≤ n ∧ i = .int .i64 k ∧ Mine u w.heap.size v (bytes s.now 0 k) ∧ Below w.heap.size w u) (fun _ i _ => n - (intOf i).toNat)
  case atStart => exact ⟨0, by omega, rfl, by rw [bytes_self]; exact mine_none _ _, Below.refl _ _⟩
  case round =>
    obtain ⟨k, hk, rfl, hm, hb⟩ := hrel
    obtain ⟨n2, a2, c2, rfl, hc2, hl2, _⟩ := hm.rows
    have hbl := bytes_len HS.out 0 k hk
    have hsu := fun h : k < n => (bytes_succ HS.out 0 k (Nat.zero_le _) h).symm
    rw [hbl] at hl2
    have HSU := Lib.hid hsu
    clear hsu
    have HM := Lib.hid hm
    have HB := Lib.hid hb
    have hBS := hb.size
    clear hm
    by_cases hlt : k < n
    · have hlt' : (k : Int) < (n : Int) := by omega
      have hk0 : (0 : Int) ≤ k := by omega
      have hA := HH.out.below hb
      obtain ⟨c0, _, _, _, _, _⟩ := hA.flds
      obtain ⟨g, cap, a, c, hv, hg, hob, hfr, ⟨hcell, hle, hba, hby, hrow⟩⟩ := hA.now.place k (by rw [HN.out]; exact hlt)
      rw [HN.out] at hv
      rw [hv] at c0
      have hsu := HSU.out hlt
      have h64 := (HS.out.at hlt).len
      obtain ⟨r, hrr⟩ : ∃ r, s.now.getD k [] = r := ⟨_, rfl⟩
      rw [hrr] at hrow hsu h64
      have HR := Lib.hid hrow
      have HSQ := Lib.hid hsu
      clear hsu hrr
      clear hA hb hv hob hfr hby hrow hg hba
      go_wp2_with (at_builtin; refine append_bytes rfl (.tmp 15) (.tmp 22) rfl w.heap.size _ _ rfl HM.out (some ⟨a, 0, none⟩) 64 c rfl _ HR.out (by intro h; cases h) ?_ ?_ ?_)
      · show (bytes s.now 0 k).length + 64 ≤ _; omega
      · exact hBS
      intro v4 w4 hm4 hg4
      have hB4 := below_grow HB.out HM.out (Nat.le_refl _) hBS hg4
      rw [HSQ.out] at hm4
      have HM4 := Lib.hid hm4
      have HB4 := Lib.hid hB4
      clear hm4 hg4 hB4 HM HR HB
      go_wp2
      refine ⟨⟨k + 1, by omega, by go_num, HM4.out, HB4.out⟩, ?_⟩
      simp [intOf]; omega
    · obtain rfl : k = n := by omega
      clear hb
      go_wp2
      go_ret
      exact ⟨_, rfl, HM.out, HB.out⟩
end Wal
end Go.Proofs.Ytjeidfknnophnaa

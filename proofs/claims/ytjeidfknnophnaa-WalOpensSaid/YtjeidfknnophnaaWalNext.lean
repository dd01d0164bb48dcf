/-
The contract of readNext.
-/
import Derived.Test.YtjeidfknnophnaaWalFrame
import Derived.Deep.RegionHeld3
namespace Go.Proofs.Ytjeidfknnophnaa
open Go.RowKit
set_option linter.unusedVariables false
namespace Wal
open Disk (Dk St Sec Secs)

/-- What readNext hands back. -/
def Nexted (w : World) (zs : List Int) (e : Ending) (w' : World) : Prop :=
  Below w.heap.size w w' ∧ ((rd zs = none ∧ e = .returned (.tuple #[.slice none 0 0, .int .i64 3])) ∨ ∃ r v, rd zs = some r ∧ e = .returned (.tuple #[v, .int .i64 0]) ∧ Mine w' w.heap.size v r)
theorem Nexted.none {w w' : World} {zs : List Int} (hb : Below w.heap.size w w') (h : rd zs = Option.none) : Nexted w zs (.returned (.tuple #[.slice Option.none 0 0, .int .i64 3])) w' := ⟨hb, .inl ⟨h, rfl⟩⟩
theorem Nexted.some {w w' : World} {zs r : List Int} {v : Value} (hb : Below w.heap.size w w') (h : rd zs = Option.some r) (hm : Mine w' w.heap.size v r) : Nexted w zs (.returned (.tuple #[v, .int .i64 0])) w' := ⟨hb, .inr ⟨r, v, h, rfl, hm⟩⟩
/-- The three ways. -/
theorem rd_short {zs : List Int} (h : zs.length < 64) : rd zs = none := by unfold rd; rw [if_pos h]
theorem rd_no {zs : List Int} (h : 8192 < num32 zs ∨ zs.length < 64 * needN (num32 zs).toNat) : rd zs = none := by
  unfold rd
  split
  · rfl
  · rename_i h0
    simp
theorem rd_yes {zs : List Int} {n : Nat} (h0 : ¬ zs.length < 64) (hn : num32 zs = n) (h1 : ¬ (8192 < n ∨ zs.length < 64 * needN n)) {whole b : List Int} (hw : zs.take (64 * needN n) = whole) (hb : (whole.drop 8).take n = b) : rd zs = if whole = record b then some b else none := by
  have e : (zs.drop 8).take n = b := by
    have hn8 := needN_pos (n := n) (by omega)
    rw [← hb, ← hw, List.drop_take, List.take_take, show min n (64 * needN n - 8) = n by omega]
  unfold rd
  rw [if_neg h0, hn]
  simp only [Int.toNat_natCast]
  rw [if_neg (by omega), e, hw]
  by_cases hx : whole = record b
  · rw [if_pos hx, if_pos hx.symm]
  · rw [if_neg hx, if_neg (fun h => hx h.symm)]
theorem num32_take {zs : List Int} (k : Nat) (h : 4 ≤ k) : num32 (zs.take k) = num32 zs := by
  have e : ∀ j, j < 4 → (zs.take k).getD j 0 = zs.getD j 0 := fun j hj => by
    simp [show j < k by omega]
  unfold num32
  rw [e 0 (by omega), e 1 (by omega), e 2 (by omega), e 3 (by omega)]
theorem mine_nilcap {w : World} {base n cap : Nat} {a : Option Addr} {zs : List Int} (h : Mine w base (.slice a n cap) zs) : a = none → cap = 0 := by
  rcases h.1.2 with ⟨h1, _⟩ | ⟨g, cap', cur, h1, _⟩
  · cases h1; exact fun _ => rfl
  · cases h1; intro h; cases h

set_option maxRecDepth 100000 in
set_option maxHeartbeats 1000000 in
theorem readNext_any (p : Nat) (d : Dk) (s : St) (l : LSt) (w : World) (h : LAt w p d.p l) (hd : Disk.At w d s) (ho : s.off = false) (hn : l.to ≤ d.n) :
    Calls Try.prog 41 #[.pointer (some ⟨p, 0, none⟩)] w (Nexted w (bytes s.now l.next l.to)) := by
  have hs := hd.now.secs
  have hN := hs.count
  have o1 := h.ok.o1
  have o2 := h.ok.o2
  have hzl := bytes_len hs l.next l.to hn
  have hzb := bytes_byte hs l.next l.to
  have hfree := free_any p d.p l
  obtain ⟨zs, hzs⟩ : ∃ zs, bytes s.now l.next l.to = zs := ⟨_, rfl⟩
  rw [hzs] at hzl hzb
  rw [hzs]
  have H := Lib.hid h
  have HD := Lib.hid hd
  have HS := Lib.hid hs
  have HN := Lib.hid hN
  have HO := Lib.hid ho
  have HZ := Lib.hid hzs
  have HB := Lib.hid hzb
  have HZL := Lib.hid hzl
  have HF := Lib.hid hfree
  clear h hd hs hN ho hzs hzb hzl hfree
  go_enter Try.func41, Try.ntmps41
  go_wp2_with fail
  refine (HF.out _ H.out).mono ?_
  rintro e w1 hT
  obtain ⟨rfl, hb1⟩ := hT.below
  have B1 := Lib.hid hb1
  clear hT hb1
  by_cases h0 : l.next = l.to
  · have hz0 : (l.to - l.next : Nat) = 0 := by omega
    rw [hz0]
    have hshort : rd zs = none := rd_short (by rw [HZL.out]; omega)
    have HSH := Lib.hid hshort
    clear hz0 hshort h0
    go_wp2
    go_ret2
    exact Nexted.none B1.out HSH.out
  · obtain ⟨m, hm⟩ : ∃ m, l.to - l.next = m := ⟨_, rfl⟩
    have hm0 : 0 < m := by omega
    have hne : (((m : Nat) : Int) == 0) = false := by simp; omega
    rw [hm]
    have HM := Lib.hid hm
    have h1 := H.out.below B1.out
    have hd1 := HD.out.below B1.out
    have k0 : ∀ u, Below w1.heap.size w1 u → u.cell? ⟨p, 0, none⟩ = some (.pointer (some ⟨d.p, 0, none⟩)) := fun u hu => by rw [hu.cell (by exact h1.obj.lt)]; exact h1.flds.c0
    have k2 : ∀ u, Below w1.heap.size w1 u → u.cell? ⟨p, 2, none⟩ = some (.int .i64 l.next) := fun u hu => by rw [hu.cell (by exact h1.obj.lt)]; exact h1.flds.c2
    have hrd : ∀ u, Below w1.heap.size w1 u → _ := fun u hu => Disk.read_any d s (l.next : Int) u (hd1.below hu)
    rw [read_in HO.out HN.out (by omega)] at hrd
    dsimp only at hrd
    have hl64 := (HS.out.at (show l.next < d.n by omega)).len
    obtain ⟨f, hf⟩ : ∃ f, s.now.getD l.next [] = f := ⟨_, rfl⟩
    rw [hf] at hrd hl64
    have hff : num32 f = num32 zs := by
      rw [← HZ.out, bytes_first HS.out l.next l.to (by omega) hn, hf]
      have : f = (f ++ bytes s.now (l.next + 1) l.to).take 64 := by
        rw [List.take_append_of_le_length (by omega), List.take_of_length_le (by omega)]
      conv => lhs; rw [this]
      exact num32_take 64 (by omega)
    unfold Dk.ptr at hrd
    have H1 := Lib.hid h1
    have HD1 := Lib.hid hd1
    have HRD := Lib.hid hrd
    have HFF := Lib.hid hff
    clear h1 hd1 hrd hf hff hm
    go_wp2_with fail
    go_region_held3 (fun u => Below w1.heap.size w1 u)
      (first | exact (Below.refl _ _).drew | assumption | (refine Below.trans ?_ (Below.mono hb2 ?_); assumption; exact Below.size (by assumption)))
      (first
        | (go_at_call 33; refine (HRD.out _ (by assumption)).mono ?_; rintro e w2 ⟨v, rfl, hm2, hb2⟩))
    have hB2 : Below w1.heap.size w1 w2 := by assumption
    obtain ⟨n2, a2, c2, rfl, hc2, hl2, hr2⟩ := hm2.rows
    obtain rfl : n2 = 64 := by omega
    obtain ⟨b2, f2, rfl, _⟩ := hr2.cells (by omega)
    have hp := parse_any (some ⟨b2, f2, none⟩) c2 _ w2 (hr2.take 4 (by omega))
    rw [num32_take 4 (Nat.le_refl _), HFF.out] at hp
    have hbn := num32_bounds HB.out
    obtain ⟨n, hnn⟩ := Int.eq_ofNat_of_zero_le hbn.1
    rw [hnn] at hp hbn
    have HP := Lib.hid hp
    have HNN := Lib.hid hnn
    have B2 := Lib.hid (B1.out.trans (hB2.mono B1.out.size))
    have D2 := Lib.hid (HD1.out.below hB2)
    have L2 := Lib.hid (H1.out.below hB2)
    clear hm2 hb2 hB2 hr2 hp hnn hl2 k0 k2 HRD HFF H1 HD1 B1 hl64
    rename_i hHeld1
    clear hHeld1
    go_wp2_with fail
    refine HP.out.mono ?_
    rintro e w' ⟨rfl, rfl⟩
    by_cases hbig : 8192 < n
    · have hno : rd zs = none := rd_no (.inl (by rw [HNN.out]; omega))
      have HNO := Lib.hid hno
      clear hno
      go_wp2
      go_ret2
      exact Nexted.none B2.out HNO.out
    · have hnd := needN_pos (n := n) (by omega)
      have hq := needN_any n
      obtain ⟨N, hNd⟩ : ∃ N, needN n = N := ⟨_, rfl⟩
      rw [hNd] at hnd hq
      have HQ := Lib.hid hq
      have HND := Lib.hid hNd
      clear hq hNd
      go_wp2_with fail
      refine (HQ.out _ (by omega)).mono ?_
      rintro e w' ⟨rfl, rfl⟩
      go_wp2_with fail
      refine (HF.out _ L2.out).mono ?_
      rintro e w3 hT
      obtain ⟨rfl, hb3⟩ := hT.below
      rw [HM.out]
      have B3 := Lib.hid (B2.out.trans (hb3.mono B2.out.size))
      have D3 := Lib.hid (D2.out.below hb3)
      have L3 := Lib.hid (L2.out.below hb3)
      clear hT hb3 B2 D2 L2
      by_cases hroom : m < N
      · have hno : rd zs = none := rd_no (.inr (by rw [HNN.out, HZL.out, Int.toNat_natCast, HND.out, HM.out]; omega))
        have HNO := Lib.hid hno
        clear hno
        go_wp2
        go_ret2
        exact Nexted.none B3.out HNO.out
      · have hln : l.next + N ≤ l.to := by have := HM.out; omega
        have htk : zs.take (64 * N) = bytes s.now l.next (l.next + N) := by rw [← HZ.out]; exact bytes_take HS.out _ _ _ hln
        have hwl := bytes_len HS.out l.next (l.next + N) (by omega)
        obtain ⟨wh, hwh⟩ : ∃ wh, bytes s.now l.next (l.next + N) = wh := ⟨_, rfl⟩
        have hrw : ∀ u, Below w3.heap.size w3 u → _ := fun u hu => read_any d s l.next N u (D3.out.below hu) HO.out (by omega)
        rw [hwh] at hrw htk hwl
        have hwl' : wh.length = 64 * N := by omega
        unfold Dk.ptr at hrw
        have k0 : ∀ u, Below w3.heap.size w3 u → u.cell? ⟨p, 0, none⟩ = some (.pointer (some ⟨d.p, 0, none⟩)) := fun u hu => by rw [hu.cell (by exact L3.out.obj.lt)]; exact L3.out.flds.c0
        have k2 : ∀ u, Below w3.heap.size w3 u → u.cell? ⟨p, 2, none⟩ = some (.int .i64 l.next) := fun u hu => by rw [hu.cell (by exact L3.out.obj.lt)]; exact L3.out.flds.c2
        have HRW := Lib.hid hrw
        have HTK := Lib.hid htk
        have HWL := Lib.hid hwl'
        clear hrw htk hwl hwl' hwh
        go_wp2_with fail
        go_region_held3 (fun u => Below w3.heap.size w3 u)
          (first | exact (Below.refl _ _).drew | assumption | (refine Below.trans ?_ (Below.mono hb5 ?_); assumption; exact Below.size (by assumption)))
          (first
            | (go_at_call 12; refine (HQ.out _ (by omega)).mono ?_; rintro e w' ⟨rfl, rfl⟩)
            | (go_at_call 55; refine (HRW.out _ (by assumption)).mono ?_; rintro e w5 ⟨v5, rfl, hm5, hb5⟩))
        have hB5 : Below w3.heap.size w3 w5 := by assumption
        rename_i hHeld2
        clear hHeld2 hb5
        obtain ⟨n5, a5, c5, rfl, hc5, hl5, hr5⟩ := hm5.rows
        obtain rfl : n5 = 64 * N := by rw [← hl5]; exact HWL.out
        obtain ⟨b5, f5, rfl, _⟩ := hr5.cells (by omega)
        have ht5 := (hr5.tail (cap := c5) 8 (by omega) hc5).take n (by omega)
        have hta : tailAddr (some ⟨b5, f5, none⟩) c5 8 = some ⟨b5, f5 + 8, none⟩ := by
          unfold tailAddr; rw [if_neg (by omega)]; simp [Addr.add_mid]
        rw [hta] at ht5
        obtain ⟨b, hbb⟩ : ∃ b, (wh.drop 8).take n = b := ⟨_, rfl⟩
        rw [hbb] at ht5
        have hyes := rd_yes (zs := zs) (n := n) (whole := wh) (b := b) (by rw [HZL.out]; omega) HNN.out (by rw [HND.out, HZL.out, HM.out]; omega) (by rw [HND.out]; exact HTK.out) hbb
        have hbl := ht5.count
        have R5 := Lib.hid hr5
        have T5 := Lib.hid ht5
        have Y := Lib.hid hyes
        have B5 := Lib.hid (B3.out.trans (hB5.mono B3.out.size))
        have hne8 : ¬ c5 = 8 := by omega
        have hs8 : (8 : Int) + n ≤ c5 := by omega
        clear hB5 hm5 hr5 ht5 hyes hta hbb hl5 k0 k2 HRW HTK HWL B3 D3 L3 HP HNN HND HQ HZ HZL HB
        go_wp2_with fail
        refine (Disk.cloneBytes_any _ _ n (c5 - 8) b T5.out (by omega) (by simp)).mono ?_
        rintro e w6 ⟨v6, rfl, hm6, hb6⟩
        obtain ⟨n6, a6, c6, rfl, hc6, hl6, hr6⟩ := hm6.rows
        obtain rfl : n6 = n := by omega
        have hnil6 := mine_nilcap hm6
        have M6 := Lib.hid (hm6.mono B5.out.size)
        have R6 := Lib.hid hr6
        have N6 := Lib.hid hnil6
        have B6 := Lib.hid (B5.out.trans (hb6.mono B5.out.size))
        have R5 := Lib.hid (R5.out.below hb6)
        clear hm6 hr6 hnil6 hb6 B5 T5
        go_wp2_with fail
        refine (frame_any a6 n6 c6 b _ R6.out N6.out hc6 (by omega)).mono ?_
        rintro e w7 ⟨v7, rfl, hm7, hb7⟩
        obtain ⟨n7, a7, c7, rfl, _, _, hr7⟩ := hm7.rows
        have M7 := Lib.hid (M6.out.below hb7)
        have B7 := Lib.hid (B6.out.trans (hb7.mono B6.out.size))
        have R7 := Lib.hid hr7
        have R5 := Lib.hid (R5.out.below hb7)
        clear hm7 hr7 hb7 B6 M6 N6 R6
        go_wp2_with fail
        refine (bytesEqual_any _ _ _ _ _ _ _ _ _ R5.out R7.out).mono ?_
        rintro e w' ⟨rfl, rfl⟩
        have hy := Y.out
        by_cases hx : wh = record b
        · rw [if_pos hx] at hy
          have hdx : decide (wh = record b) = true := by simpa using hx
          rw [hdx]
          have Y2 := Lib.hid hy
          clear hy hx hdx Y R5 R7
          go_wp2
          go_ret2
          exact Nexted.some B7.out Y2.out M7.out
        · rw [if_neg hx] at hy
          have hdx : decide (wh = record b) = false := by simpa using hx
          rw [hdx]
          have Y2 := Lib.hid hy
          clear hy hx hdx Y R5 R7
          go_wp2
          go_ret2
          exact Nexted.none B7.out Y2.out
end Wal
end Go.Proofs.Ytjeidfknnophnaa

/-
The unlike literals of a row.
-/
import Derived.Test.YtlpahomaokopoaaCnfAwake
namespace Go.Proofs.Ytlpahomaokopoaa
open Go.RowKit
set_option linter.unusedSimpArgs false
set_option linter.unusedVariables false
namespace Cn
theorem firsts_snoc {x : Int} : ∀ {l u : List Int}, firsts u (l ++ [x]) = if x ∈ firsts u l then firsts u l else firsts u l ++ [x]
  | [], u => rfl
  | y :: l, u => by
    show firsts _ (l ++ [x]) = _
    rw [firsts_snoc]
    rfl
theorem mem_firsts {x : Int} : ∀ {l u : List Int}, x ∈ firsts u l ↔ x ∈ u ∨ x ∈ l
  | [], u => by simp [firsts]
  | y :: l, u => by
    show x ∈ firsts _ l ↔ _
    rw [mem_firsts]
    by_cases h : y ∈ u
    · rw [if_pos h, List.mem_cons]
      constructor
      · rintro (h1 | h1)
        · exact .inl h1
        · exact .inr (.inr h1)
      · rintro (h1 | rfl | h1)
        · exact .inl h1
        · exact .inl h
        · exact .inr h1
    · rw [if_neg h, List.mem_append, List.mem_singleton, List.mem_cons]
      constructor
      · rintro ((h1 | h1) | h1)
        · exact .inl h1
        · exact .inr (.inl h1)
        · exact .inr (.inr h1)
      · rintro (h1 | h1 | h1)
        · exact .inl (.inl h1)
        · exact .inl (.inr h1)
        · exact .inr h1
theorem firsts_len : ∀ {l u : List Int}, (firsts u l).length ≤ u.length + l.length
  | [], u => by simp [firsts]
  | y :: l, u => by
    show (firsts _ l).length ≤ _
    refine Nat.le_trans firsts_len ?_
    split <;> simp <;> omega
theorem infoBool : (Try.prog.info? 4).map (fun i => (i.zero, i.size, i.bytes)) = some (some (.bool false), 1, 1) := by kernel_rfl
theorem run_make_bools (n : Nat) (h : n ≤ 200) (w : World) :
    (Instr.makeSlice 29 (.int .i64 (2 * (n : Int) + 1)) (.int .i64 (2 * (n : Int) + 1))).run Try.prog w = .ok (.slice (some ⟨w.heap.size, 0, none⟩) (2 * n + 1) (2 * n + 1)) (w.alloc (.cells (Array.replicate (2 * n + 1) (.bool false)) 4)) := by
  obtain ⟨i0, hi, hz0, hz1, hz2⟩ := info_parts infoBool
  have := run_make (P := Try.prog) w 29 4 i0 _ Try.underlying29 hi hz0 .i64 .i64 (2 * (n : Int) + 1) (2 * (n : Int) + 1) (by omega) (by omega) (by rw [hz2]; omega) (by omega)
  rw [this, hz1]
  rw [show (2 * (n : Int) + 1).toNat = 2 * n + 1 by omega, Nat.mul_one]
  congr 3
  apply Array.ext
  · simp [size_madeCells]
  · intro i h1 h2
    simp [madeCells, Value.cells, Nat.mod_one]
/-- Which of the literals were seen. -/
structure Seen (w : World) (b n : Nat) (s : List Int) : Prop where
  is : ∃ cs : Array Value, Blk.Is w b 4 cs ∧ ∀ q : Nat, q < 2 * n + 1 → cs[q]? = some (.bool (decide ((q : Int) - n ∈ s)))
theorem Seen.on {w w' : World} {b n : Nat} {s : List Int} (h : Seen w b n s) (hb : Below w.heap.size w w') : Seen w' b n s := by
  obtain ⟨cs, h1, h2⟩ := h.is
  exact ⟨cs, is_on h1 hb, h2⟩
theorem Seen.start (w : World) (n : Nat) : Seen (w.alloc (.cells (Array.replicate (2 * n + 1) (.bool false)) 4)) w.heap.size n [] := ⟨_, Blk.Is.new w _ _, fun q hq => by simp [hq]⟩
theorem Seen.load {w : World} {b n q : Nat} {s : List Int} (h : Seen w b n s) (hq : q < 2 * n + 1) : w.cell? ⟨b, q, none⟩ = some (.bool (decide ((q : Int) - n ∈ s))) := by
  obtain ⟨cs, h1, h2⟩ := h.is
  exact h1.at (h2 q hq)
theorem Seen.free {w : World} {b n : Nat} {s : List Int} (h : Seen w b n s) (q : Nat) : w.frozen? ⟨b, q, none⟩ = false := by
  obtain ⟨cs, h1, h2⟩ := h.is
  exact h1.free q
theorem Seen.put {w : World} {b n q : Nat} {s : List Int} {x : Int} (h : Seen w b n s) (hq : (q : Int) = n + x) (hl : q < 2 * n + 1) : Seen (w.setCell ⟨b, q, none⟩ (.bool true)) b n (s ++ [x]) := by
  obtain ⟨cs, h1, h2⟩ := h.is
  refine ⟨_, h1.set q _, fun r hr => ?_⟩
  have hlt : q < cs.size := (Array.getElem?_eq_some_iff.1 (h2 q hl)).1
  by_cases e : q = r
  · subst e
    rw [Array.getElem?_setIfInBounds_self_of_lt hlt]
    have : (q : Int) - n = x := by omega
    simp [this]
  · rw [Array.getElem?_setIfInBounds_ne e, h2 r hr]
    have : (r : Int) - n ≠ x := by omega
    simp [this]
theorem Seen.skip {w : World} {b n : Nat} {s : List Int} {x : Int} (h : Seen w b n s) (hx : x ∈ s) : Seen w b n (s ++ [x]) := by
  obtain ⟨cs, h1, h2⟩ := h.is
  refine ⟨cs, h1, fun q hq => ?_⟩
  rw [h2 q hq]
  congr 2
  simp only [List.mem_append, List.mem_singleton]
  apply decide_eq_decide.2
  constructor
  · exact .inl
  · rintro (h | h)
    · exact h
    · rw [h]; exact hx
set_option maxRecDepth 100000 in
set_option maxHeartbeats 8000000 in
theorem unlike_any {B p : Nat} {v : Value} {n : Nat} {L : List (List Int)} {w : World} (h : CSet w B p v n L) (cv : Value) (l : List Int) (hc : LitV w cv l) (hm : ∀ x ∈ l, x ≠ 0 ∧ x.natAbs ≤ n) (hl : l.length ≤ 1000) :
    Calls Try.prog 33 #[.pointer (some ⟨p, 0, none⟩), cv] w fun e w' => ∃ v', e = .returned v' ∧ Lt w' w.heap.size v' (firsts [] l) ∧ Below w.heap.size w w' := by
  have c0 : w.cell? ⟨p, 0, none⟩ = some (.int .i64 n) := h.is.at (i := 0) rfl
  have hv := h.vars
  have hmk := run_make_bools n hv
  obtain ⟨hz, ca, cc, rfl, _, _, _, hr⟩ := hc
  have HZ := Lib.hid hz
  have HR := Lib.hid hr
  have HM := Lib.hid hm
  obtain ⟨N, hN⟩ : ∃ N, l.length = N := ⟨_, rfl⟩
  have HN := Lib.hid hN
  rw [hN] at hl HR ⊢
  have hb0 := (Below.refl w.heap.size w).alloc (Nat.le_refl _) (.cells (Array.replicate (2 * n + 1) (.bool false)) 4)
  have s0 := Seen.start w n
  have HP := Lib.hid h.is
  obtain ⟨Z, hZ⟩ : ∃ Z : Array Value, Array.replicate (2 * n + 1) (.bool false) = Z := ⟨_, rfl⟩
  rw [hZ] at hb0 s0 hmk
  have HB0 := Lib.hid hb0
  have S0 := Lib.hid s0
  clear h hz hr hm hN hb0 s0 hZ
  go_enter Try.func33, Try.ntmps33
  go_wp2_with fail
  obtain ⟨sb, hsb⟩ : ∃ sb, w.heap.size = sb := ⟨_, rfl⟩
  rw [hsb] at S0 HB0 ⊢
  have HSB := Lib.hid hsb
  generalize w.alloc (.cells Z 4) = w1 at *
  clear c0 hmk hsb
  go_loopg [6, 19] N (fun gf s6 s19 wx => ∃ (k m : Nat) (ra : Option Addr) (rc : Nat), s6 = .slice ra m rc ∧ s19 = .int .i64 k ∧ Hid (Lt wx sb (.slice ra m rc) (firsts [] (l.take k))) ∧ Hid ((firsts [] (l.take k)).length = m) ∧ Hid (Seen wx sb n (l.take k)) ∧ Hid (Below sb w wx) ∧ m ≤ k ∧ k ≤ N ∧ N ≤ k + gf)
  case atStart => exact ⟨0, 0, none, 0, rfl, rfl, Lib.hid (Lt.nil _ _), Lib.hid rfl, S0, HB0, by omega, by omega, by omega⟩
  case round =>
    obtain ⟨k, m, ra, rc, rfl, rfl, HO, HML, HS, HB, hmk, hkn, hfu⟩ := hrel
    by_cases hlk : k < N
    · obtain ⟨g', rfl⟩ : ∃ g', gk = g' + 1 := ⟨gk - 1, by omega⟩
      have hlk' : (k : Int) < (N : Int) := by omega
      have hk0 : (0 : Int) ≤ k := by omega
      obtain ⟨x, hx⟩ : ∃ x, l[k]? = some x := ⟨l[k]'(by rw [HN.out]; exact hlk), List.getElem?_eq_getElem _⟩
      have hxm := HM.out x (List.mem_of_getElem? hx)
      obtain ⟨b, off, rfl, hcell⟩ := HR.out (by omega)
      have hcw : Below w.heap.size w wr := by rw [HSB.out]; exact HB.out
      have c1 := cell_on (hcell k x hx) hcw
      have c0 : wr.cell? ⟨p, 0, none⟩ = some (.int .i64 n) := (is_on HP.out hcw).at (i := 0) rfl
      obtain ⟨q, hq⟩ : ∃ q : Nat, (n : Int) + x = q := ⟨((n : Int) + x).toNat, by omega⟩
      have hq2 : q < 2 * n + 1 := by omega
      have hql : (q : Int) < 2 * (n : Int) + 1 := by omega
      have hq0 : (0 : Int) ≤ q := by omega
      have cs := HS.out.load hq2
      have fs := HS.out.free q
      have htk : l.take (k + 1) = l.take k ++ [x] := by rw [List.take_add_one, hx]; rfl
      have hqx : (q : Int) - n = x := by omega
      rw [hqx] at cs
      have HX := Lib.hid hx
      have HTK := Lib.hid htk
      clear hcell hx htk hxm hcw
      by_cases hin : x ∈ l.take k
      · rw [decide_eq_true hin] at cs
        have hfi : firsts [] (l.take (k + 1)) = firsts [] (l.take k) := by
          rw [HTK.out, firsts_snoc, if_pos (mem_firsts.2 (.inr hin))]
        have HO2 : Hid (Lt wr sb (.slice ra m rc) (firsts [] (l.take (k + 1)))) := Lib.hid (by rw [hfi]; exact HO.out)
        have HML2 : Hid ((firsts [] (l.take (k + 1))).length = m) := Lib.hid (by rw [hfi]; exact HML.out)
        have HS2 : Hid (Seen wr sb n (l.take (k + 1))) := Lib.hid (by rw [HTK.out]; exact HS.out.skip hin)
        clear hin hfi HO HML HS hqx
        go_wp2_with fail
        go_roundg g'
        case measure => omega
        case rel => exact ⟨k + 1, m, ra, rc, rfl, by go_num, HO2, HML2, HS2, HB, by omega, by omega, by omega⟩
      · rw [decide_eq_false hin] at cs
        have hnf : x ∉ firsts [] (l.take k) := fun hh => by
          rcases mem_firsts.1 hh with h1 | h1
          · simp at h1
          · exact hin h1
        have hfi : firsts [] (l.take (k + 1)) = firsts [] (l.take k) ++ [x] := by
          rw [HTK.out, firsts_snoc, if_neg hnf]
        have hch : Blk.Chg (fun k => k = sb) wr (wr.setCell ⟨sb, q, none⟩ (.bool true)) := (Blk.Chg.refl _ _).setAt rfl
        obtain ⟨cb, hcb, _⟩ := HS.out.is
        have ho1 := HO.out.chg hch fun j hj hj2 => by
          obtain ⟨ds, hd⟩ := HO.out.is hj
          subst hj2
          exact (hd.ne hcb (by decide)) rfl
        have hs1 : Seen (wr.setCell ⟨sb, q, none⟩ (.bool true)) sb n (l.take (k + 1)) := by rw [HTK.out]; exact HS.out.put hq.symm hq2
        have hb1 : Below sb w (wr.setCell ⟨sb, q, none⟩ (.bool true)) := HB.out.trans (hch.below (B := sb) (fun j hj => by omega) (by have := hcb.lt; omega))
        have HO1 := Lib.hid ho1
        have HS1 := Lib.hid hs1
        have HB1 := Lib.hid hb1
        have HFI := Lib.hid hfi
        clear hin hfi hnf hch hcb ho1 hs1 hb1 HO HS HB hqx
        go_upto_region 9 with fail
        generalize wr.setCell ⟨sb, q, none⟩ (.bool true) = w2 at *
        clear c0 c1 cs fs
        have g2 := (Below.refl w2.heap.size w2).alloc (Nat.le_refl _) (.cells #[.int .i64 x] 45)
        have i2 := Blk.Is.new w2 45 #[.int .i64 x]
        obtain ⟨W2, hW2⟩ : ∃ W2, w2.alloc (.cells #[.int .i64 x] 45) = W2 := ⟨_, rfl⟩
        have hsz2 : w2.heap.size < W2.heap.size := by rw [← hW2]; simp
        rw [hW2] at g2 i2
        have hown := (HO1.out.below g2).2
        rw [HML.out] at hown
        have OWN := Lib.hid hown
        have SRC := Lib.hid (show Src Try.prog 1 22 (.slice (some ⟨w2.heap.size, 0, none⟩) 1 1) 1 (lcells [x]) W2 from Src.ofSlice _ Try.underlying22 ⟨w2.heap.size, 0, none⟩ 1 1 _ rfl (fun j u hj => by
          cases j with
          | zero => simp [lcells] at hj; subst hj; rw [Addr.add_mid]; exact i2.at (i := 0) rfl
          | succ j => simp [lcells] at hj) (lcells_one _))
        have HSW := Lib.hid (HS1.out.on g2)
        have hbw : Below sb w W2 := HB1.out.trans (g2.mono (by
          obtain ⟨cb, hcb, _⟩ := HS1.out.is
          have := hcb.lt; omega))
        have hsb2 : sb < w2.heap.size := by
          obtain ⟨cb, hcb, _⟩ := HS1.out.is
          exact hcb.lt
        have HBW := Lib.hid hbw
        have HZO := Lib.hid HO1.out.1
        obtain ⟨i0, hi, hz0, hz1, hz2⟩ := info_parts infoLit
        have HI := Lib.hid hi
        have hu := hW2
        clear g2 i2 hW2 hown hbw hi HO1 HS1 HB1
        go_wp2_with (at_builtin; refine Own.wpList_append_src rfl (.tmp 37) (.tmp 39) 22 22 rfl sb 45 i0 _ 1 8 Try.underlying22 HI.out hz0 hz1 hz2 rfl _ m _ rfl OWN.out _ 1 (lcells [x]) rfl SRC.out ?_ ?_ ?_ ?_)
        · simp only [maxLen]; omega
        · omega
        · omega
        intro v9 w9 o9 g9
        have hch9 : Blk.Chg (fun j => (Value.slice ra m rc).ownBlock = some j) W2 w9 := (Blk.Chg.refl _ _).grown g9 (fun g hg _ => hg)
        obtain ⟨cb, hcb, hcb2⟩ := HSW.out.is
        have hs9 : Seen w9 sb n (l.take (k + 1)) := ⟨cb, hch9.is hcb (fun hj => by
          obtain ⟨ds, hd⟩ := own_is OWN.out hj
          exact (hd.ne hcb (by decide)) rfl), hcb2⟩
        have hb9 : Below sb w w9 := HBW.out.trans (hch9.below (B := sb) (fun j hj => (own_lt OWN.out hj).1) (by omega))
        have ho9 : Lt w9 sb v9 (firsts [] (l.take (k + 1))) := by
          rw [HFI.out]
          refine ⟨fun z hz => ?_, ?_⟩
          · rcases List.mem_append.1 hz with h1 | h1
            · exact HZO.out z h1
            · have : z = x := by simpa using h1
              subst this
              exact HZ.out z (List.mem_of_getElem? HX.out)
          · rw [List.length_append, HML.out, List.length_singleton]
            unfold lcells at o9 ⊢
            rw [List.map_append]
            exact o9
        have HML2 : Hid ((firsts [] (l.take (k + 1))).length = m + 1) := Lib.hid (by rw [HFI.out, List.length_append, HML.out]; rfl)
        obtain ⟨a9, c9, rfl, _⟩ := own_shape o9
        have HO2 := Lib.hid ho9
        have HS2 := Lib.hid hs9
        have HB2 := Lib.hid hb9
        clear o9 g9 hch9 hcb hcb2 hs9 hb9 ho9 OWN SRC HSW HBW hu
        go_wp2_with fail
        go_roundg g'
        case measure => omega
        case rel => exact ⟨k + 1, m + 1, a9, c9, rfl, by go_num, HO2, HML2, HS2, HB2, by omega, by omega, by omega⟩
    · obtain rfl : k = N := by omega
      have hge : ¬ (k : Int) < (k : Int) := by omega
      have e0 : l.take k = l := by rw [← HN.out, List.take_length]
      have HF := Lib.hid (show Lt wr sb (.slice ra m rc) (firsts [] l) by rw [← e0]; exact HO.out)
      clear e0 HO HS HML
      go_wp2_with fail
      go_ret
      exact ⟨_, rfl, by rw [HSB.out]; exact HF.out, by rw [HSB.out]; exact HB.out⟩
end Cn
end Go.Proofs.Ytlpahomaokopoaa

/-
slices.SortFunc of literals by their variables; slices.Compact of them.
-/
import Derived.Test.YtlpahomaokopoaaCnfCopy
import Derived.Test.YtlpahomaokopoaaShelfSort
import Derived.Test.YtlpahomaokopoaaShelfCompact
namespace Go.Proofs.Ytlpahomaokopoaa
open Go.RowKit
set_option linter.unusedSimpArgs false
set_option linter.unusedVariables false
namespace Cn
/-- The variable that the program tells. -/
def uv (x : Int) : Int := if x < 0 then IntKind.u64.wrap (-(IntKind.u64.wrap x)) else IntKind.u64.wrap x
theorem uv_abs {x : Int} (h : I64 x) : uv x = x.natAbs := by
  unfold I64 at h
  unfold uv
  simp [IntKind.wrap, IntKind.bits, IntKind.signed]
  split <;> omega
theorem variable_any (x : Int) (w : World) : Calls Try.prog 43 #[.int .i64 x] w fun e w' => e = .returned (.int .u64 (uv x)) ∧ w' = w := by
  by_cases h : x < 0
  · have g1 : decide (x < 0) = true := by simp [h]
    have e : uv x = IntKind.u64.wrap (-(IntKind.u64.wrap x)) := by unfold uv; rw [if_pos h]
    have HE := Lib.hid e
    obtain ⟨U, hU⟩ : ∃ U, uv x = U := ⟨_, rfl⟩
    rw [hU] at HE ⊢
    clear e hU
    go_enter Try.func43, Try.ntmps43
    go_wp2_with fail
    go_ret
    exact ⟨by rw [HE.out]; first | rfl | simp, rfl⟩
  · have g1 : decide (x < 0) = false := by simp [h]
    have e : uv x = IntKind.u64.wrap x := by unfold uv; rw [if_neg h]
    have HE := Lib.hid e
    obtain ⟨U, hU⟩ : ∃ U, uv x = U := ⟨_, rfl⟩
    rw [hU] at HE ⊢
    clear e hU
    go_enter Try.func43, Try.ntmps43
    go_wp2_with fail
    go_ret
    exact ⟨by rw [HE.out]; first | rfl | simp, rfl⟩
theorem isNaN_any (x : Int) (w : World) : Calls Try.prog 58 #[.int .u64 x] w fun e w' => e = .returned (.bool false) ∧ w' = w := by
  have g : (x != x) = false := by simp
  go_enter Try.func58, Try.ntmps58
  go_wp2_with fail
  go_ret
  exact ⟨by first | rfl | simp, rfl⟩
theorem compare_any (x y : Int) (w : World) : Calls Try.prog 42 #[.int .u64 x, .int .u64 y] w fun e w' => e = .returned (.int .i64 (Lib.compareInt x y)) ∧ w' = w := by
  have cx := isNaN_any x
  have cy := isNaN_any y
  obtain ⟨R, hR⟩ : ∃ R, Lib.compareInt x y = R := ⟨_, rfl⟩
  rw [hR]
  unfold Lib.compareInt at hR
  by_cases h1 : x < y
  · rw [if_pos h1] at hR
    subst hR
    have g1 : decide (x < y) = true := by simp [h1]
    go_enter Try.func42, Try.ntmps42
    go_wp2_with fail
    refine (cx _).mono ?_
    rintro e w' ⟨rfl, rfl⟩
    go_wp2_with fail
    refine (cy _).mono ?_
    rintro e w' ⟨rfl, rfl⟩
    go_wp2_with fail
    go_ret
    exact ⟨rfl, rfl⟩
  · rw [if_neg h1] at hR
    have g1 : decide (x < y) = false := by simp [h1]
    by_cases h2 : y < x
    · rw [if_pos h2] at hR
      subst hR
      have g2 : decide (x > y) = true := by simp; omega
      go_enter Try.func42, Try.ntmps42
      go_wp2_with fail
      refine (cx _).mono ?_
      rintro e w' ⟨rfl, rfl⟩
      go_wp2_with fail
      refine (cy _).mono ?_
      rintro e w' ⟨rfl, rfl⟩
      go_wp2_with fail
      go_ret
      exact ⟨rfl, rfl⟩
    · rw [if_neg h2] at hR
      subst hR
      have g2 : decide (x > y) = false := by simp; omega
      go_enter Try.func42, Try.ntmps42
      go_wp2_with fail
      refine (cx _).mono ?_
      rintro e w' ⟨rfl, rfl⟩
      go_wp2_with fail
      refine (cy _).mono ?_
      rintro e w' ⟨rfl, rfl⟩
      go_wp2_with fail
      go_ret
      exact ⟨rfl, rfl⟩
def cmpL (x y : Int) : Int := Lib.compareInt (uv x) (uv y)
theorem byVar_any (x y : Int) (w : World) : Calls Try.prog 29 #[.int .i64 x, .int .i64 y] w fun e w' => e = .returned (.int .i64 (cmpL x y)) ∧ w' = w := by
  have c1 := variable_any x w
  have c2 := variable_any y w
  have c3 := compare_any (uv x) (uv y) w
  unfold cmpL
  go_enter Try.func29, Try.ntmps29
  go_wp2_with fail
  refine c1.mono ?_
  rintro e w' ⟨rfl, rfl⟩
  go_wp2_with fail
  refine c2.mono ?_
  rintro e w' ⟨rfl, rfl⟩
  go_wp2_with fail
  refine c3.mono ?_
  rintro e w' ⟨rfl, rfl⟩
  go_wp2_with fail
  go_ret
  exact ⟨rfl, rfl⟩
theorem ltL (x y : Int) : ltOf cmpL x y = decide (uv x < uv y) := by
  unfold ltOf cmpL Lib.compareInt
  by_cases h1 : uv x < uv y
  · simp [h1]
  · by_cases h2 : uv y < uv x <;> simp [h1, h2]
theorem swoL : Sort.SWO (ltOf cmpL) where
  irrefl x := by rw [ltL]; simp
  trans x y z h1 h2 := by rw [ltL] at *; simp at *; omega
  ntrans x y z h1 h2 := by rw [ltL] at *; simp at *; omega
theorem cmpReads (blk off size : Nat) (w : World) : CmpLays1 Try.prog 29 #[] (Value.int .i64) cmpL blk off size w :=
  CmpReads.lays fun m os dk _ x y => (byVar_any x y _).mono fun e w' ⟨h1, h2⟩ => ⟨h1, 0, by rw [h2]; rfl⟩
/-! ### a row of one's own, its cells laid anew -/
theorem own_holds {w : World} {B g cap : Nat} {l : List Int} (h : w.ownsRow B 45 1 (.slice (some ⟨g, 0, none⟩) l.length cap) l.length (lcells l)) : Sort.Holds (Value.int .i64) w g 0 l.toArray := fun j hj => by
  have hj' : j < l.length := by simpa using hj
  have hx : l[j]? = some l.toArray[j]! := by
    rw [List.getElem?_eq_getElem hj', getElem!_pos l.toArray j hj]
    simp
  rw [Nat.zero_add]
  exact ⟨own_cell h (lcells_get hx), own_free h j⟩
theorem own_laid {w : World} {B g cap n : Nat} {xs : List Value} (h : w.ownsRow B 45 1 (.slice (some ⟨g, 0, none⟩) n cap) n xs) (q : Nat) (os : Array Obj) (d : Array Int) (hd : d.size = n) :
    (Sort.grow (Sort.putRow (Value.int .i64) (Sort.ahead w q) g 0 d) os).ownsRow B 45 1 (.slice (some ⟨g, 0, none⟩) n cap) n (lcells d.toList) ∧ Blk.Chg (fun k => k = g) w (Sort.grow (Sort.putRow (Value.int .i64) (Sort.ahead w q) g 0 d) os) := by
  obtain ⟨h1, h2⟩ := h
  rcases h2 with ⟨h2, _⟩ | ⟨g', cap', cur, h2, hg, hh, hn, hc, hs, ht⟩
  · cases h2
  · simp only [Value.slice.injEq, Option.some.injEq, Addr.mk.injEq, and_true, true_and] at h2
    obtain ⟨rfl, rfl⟩ := h2
    have hgl : g < w.heap.size := (Array.getElem?_eq_some_iff.1 hh).1
    have hm : (Sort.grow (Sort.putRow (Value.int .i64) (Sort.ahead w q) g 0 d) os).heap[g]? = some (.cells (Sort.putCells (Value.int .i64) 0 d cur) 45 (0, 0)) := by
      rw [Sort.heap_grow_old _ _ (by simpa using hgl)]
      unfold Sort.putRow Sort.mapBlock
      simp only [Sort.ahead, Array.getElem?_modify, if_pos, hh, Option.map_some, Sort.onCells]
    refine ⟨⟨by simp [hd], .inr ⟨g, cap, _, rfl, hg, hm, hn, hc, by simpa [Sort.putCells] using hs, ?_⟩⟩, ⟨rfl, rfl, rfl, ?_, fun k hk hn => ?_⟩⟩
    · apply List.ext_getElem?
      intro j
      rw [List.getElem?_take, Nat.mul_one]
      by_cases hj : j < n
      · have hjc : j < cur.size := by omega
        rw [if_pos hj]
        have e1 : (Sort.putCells (Value.int .i64) 0 d cur).toList[j]? = some (.int .i64 d[j]!) := by
          simp [Sort.putCells, hjc, hd, hj]
        have hjd : j < d.toList.length := by simp [hd, hj]
        have e2 : (lcells d.toList)[j]? = some (.int .i64 d[j]!) := lcells_get (by rw [List.getElem?_eq_getElem hjd, getElem!_pos d j (by omega)]; simp)
        rw [e1, e2]
      · rw [if_neg hj, List.getElem?_eq_none (by simp [hd]; omega)]
    · rw [Sort.size_grow]; simp
    · rw [Sort.heap_grow_old _ _ (by simpa using hk)]
      unfold Sort.putRow Sort.mapBlock
      simp only [Sort.ahead, Array.getElem?_modify]
      rw [if_neg (fun e => hn e.symm)]
set_option maxHeartbeats 2000000 in
theorem insNone_any (a : Option Addr) (cap : Nat) (fv : Value) (w : World) :
    Calls Try.prog 48 #[.slice a 0 cap, .int .i64 0, .int .i64 0, fv] w fun e w' => e = .returned (.tuple #[]) ∧ w' = w := by
  go_enter Try.func48, Try.ntmps48
  go_wp2
  refine wp_loop_rounds 1 ?_
  rw [rounds_succ]
  go_wp2
  go_end0
  exact ⟨rfl, rfl⟩
set_option maxHeartbeats 2000000 in
theorem pdqNone_any (a : Option Addr) (cap : Nat) (lim : Int) (fv : Value) (w : World) :
    Calls Try.prog 40 #[.slice a 0 cap, .int .i64 0, .int .i64 0, .int .i64 lim, fv] w fun e w' => e = .returned (.tuple #[]) ∧ w' = w := by
  have hi := insNone_any a cap fv w
  go_enter Try.func40, Try.ntmps40
  go_wp2
  refine wp_loop_rounds 1 ?_
  rw [rounds_succ]
  go_wp2_with fail
  refine hi.mono ?_
  rintro e w' ⟨rfl, rfl⟩
  go_wp2_with fail
  (try simp only [Exit.inBlock, Exit.then]); refine bodyPost_ret (results_none rfl _ _ _) rfl ?_
  exact ⟨rfl, rfl⟩
set_option maxHeartbeats 2000000 in
theorem sortNone_any (a : Option Addr) (cap : Nat) (fv : Value) (w : World) :
    Calls Try.prog 28 #[.slice a 0 cap, fv] w fun e w' => e = .returned (.tuple #[]) ∧ w' = w := by
  have hp := fun lim => pdqNone_any a cap lim fv w
  have hl : Calls Try.prog 41 #[.int .u64 0] w fun e w' => e = .returned (.int .i64 (Lib.bitLen 0 : Nat)) ∧ w' = w :=
    Any.bits_Len (SlLaysF0.n15.bits (P := Try.prog) (ρ := Try.sortL_ren) { Try.sortL with }) 0 w (by omega) (by omega)
  go_enter Try.func28, Try.ntmps28
  go_wp2_with fail
  refine hl.mono ?_
  rintro e w' ⟨rfl, rfl⟩
  go_wp2_with fail
  refine (hp _).mono ?_
  rintro e w' ⟨rfl, rfl⟩
  go_wp2_with fail
  go_end0
  exact ⟨rfl, rfl⟩
set_option maxHeartbeats 2000000 in
theorem sort_any (v : Value) (l : List Int) (w : World) {B : Nat} (h : Lt w B v l) (hl : l.length ≤ 1000000) :
    Calls Try.prog 28 #[v, .func (.func 29) #[] #[]] w fun e w' => e = .returned (.tuple #[]) ∧ ∃ d : List Int, d.Perm l ∧ (∀ i j, i < j → j < d.length → uv (d.getD i 0) ≤ uv (d.getD j 0)) ∧ Lt w' B v d ∧ Blk.Chg (fun k => v.ownBlock = some k) w w' := by
  rcases Nat.eq_zero_or_pos l.length with h0 | h0
  · have : l = [] := List.eq_nil_of_length_eq_zero h0
    subst this
    obtain ⟨a, cap, rfl, _⟩ := own_shape h.2
    refine (sortNone_any a cap _ w).mono ?_
    rintro e w' ⟨rfl, rfl⟩
    exact ⟨rfl, [], List.Perm.refl _, fun i j _ hj => by simp at hj, h, Blk.Chg.refl _ _⟩
  · obtain ⟨R, cap, rfl, hc⟩ := own_slice h.2 h0
    have eg : ∀ args w, (callFunc 29 args).run Try.prog w = .ok (.enter 29 args) w := enters_of Try.func29 (by kernel_rfl) rfl
    have hcon := Any.slices_SortFunc (P := Try.prog) (ρ := Try.sortL_ren) Try.sortL (Value.int .i64) (fun _ => rfl) cmpL swoL 29 #[] R 0 cap l.toArray w eg (cmpReads R 0 l.toArray.size w) (own_holds h.2) (own_lt h.2 rfl).2 (by simp; omega)
    change Calls Try.prog 28 _ _ _ at hcon
    have hsz : l.toArray.size = l.length := by simp
    rw [hsz] at hcon
    refine hcon.mono ?_
    rintro e w' ⟨rfl, a', n, os, hp, hs, rfl⟩
    obtain ⟨p1, _, p2⟩ := hp
    rw [hsz] at p1
    have hperm : a'.toList.Perm l := by
      have e1 : (a'.extract 0 l.length).toList = a'.toList := by rw [← p1]; simp
      have e2 : (l.toArray.extract 0 l.length).toList = l := by simp
      rw [e1, e2] at p2
      exact p2
    have hlen : a'.toList.length = l.length := by simpa using p1
    have ho := own_laid h.2 n os a' p1
    refine ⟨rfl, a'.toList, hperm, fun i j hij hj => ?_, ⟨fun x hx => h.1 x (hperm.mem_iff.1 hx), by rw [hlen]; exact ho.1⟩, ho.2.mono fun k _ hk => by rw [hk]; rfl⟩
    have := hs i j (Nat.zero_le _) hij (by rw [← hlen]; exact hj)
    rw [ltL, decide_eq_false_iff_not] at this
    have g : ∀ k, k < a'.toList.length → a'.toList.getD k 0 = a'[k]! := fun k hk => by
      have hk' : k < a'.size := by simpa using hk
      rw [List.getD_eq_getElem?_getD, List.getElem?_eq_getElem hk, getElem!_pos a' k hk']
      simp
    rw [g i (by omega), g j hj]
    omega
/-! ### slices.Compact -/
theorem compact_mem {l : List Int} {x : Int} : x ∈ Lib.compact l ↔ x ∈ l := by
  unfold Lib.compact Lib.compactUpTo
  simp only [List.mem_map, List.mem_filter, List.mem_range]
  have g : ∀ k, k < l.length → l.toArray[k]! = l.getD k 0 := fun k hk => by
    rw [getElem!_pos l.toArray k (by simpa using hk), List.getD_eq_getElem?_getD, List.getElem?_eq_getElem hk]
    simp
  constructor
  · rintro ⟨k, ⟨hk, _⟩, rfl⟩
    rw [g k hk, List.getD_eq_getElem?_getD, List.getElem?_eq_getElem hk]
    exact List.getElem_mem _
  · intro hx
    obtain ⟨k, hk, rfl⟩ := List.mem_iff_getElem.1 hx
    -- the first place of the run
    have key : ∀ (m k : Nat) (hk : k < l.length), k ≤ m → ∃ j, (j < l.length ∧ Lib.keeps l.toArray j = true) ∧ l.toArray[j]! = l[k] := by
      intro m
      induction m with
      | zero =>
        intro k hk h0
        obtain rfl : k = 0 := by omega
        refine ⟨0, ⟨hk, by simp [Lib.keeps]⟩, ?_⟩
        rw [g 0 hk, List.getD_eq_getElem?_getD, List.getElem?_eq_getElem hk]; rfl
      | succ m ih =>
        intro k hk hkm
        have e0 : l.toArray[k]! = l[k] := by rw [g k hk, List.getD_eq_getElem?_getD, List.getElem?_eq_getElem hk]; rfl
        cases hkk : Lib.keeps l.toArray k with
        | true => exact ⟨k, ⟨hk, hkk⟩, e0⟩
        | false =>
          have h1 : k ≠ 0 ∧ l.toArray[k]! = l.toArray[k - 1]! := by
            unfold Lib.keeps at hkk
            rw [decide_eq_false_iff_not] at hkk
            refine ⟨fun h => hkk (.inl h), ?_⟩
            exact Decidable.byContradiction fun h => hkk (.inr h)
          obtain ⟨j, hj, hj2⟩ := ih (k - 1) (by omega) (by omega)
          refine ⟨j, hj, ?_⟩
          rw [hj2, ← e0, h1.2, g (k - 1) (by omega), List.getD_eq_getElem?_getD, List.getElem?_eq_getElem (by omega)]
          rfl
    exact key k k hk (Nat.le_refl _)
/-- Of a row that rises by variables, what is left rises, and no neighbours are alike. -/
theorem compact_sub {l : List Int} : (Lib.compact l).Sublist l := by
  unfold Lib.compact Lib.compactUpTo
  have h := (List.filter_sublist (p := Lib.keeps l.toArray) (l := List.range l.length)).map (l.toArray[·]!)
  have e := Lib.range_map_get l.toArray
  simp only [List.size_toArray] at e
  rwa [e] at h
theorem compact_len {l : List Int} : (Lib.compact l).length ≤ l.length := compact_sub.length_le
theorem cu_last {d : Array Int} : ∀ m : Nat, 0 < m → (Lib.compactUpTo d m).getLast? = some d[m - 1]!
  | 0, h => absurd h (by omega)
  | m + 1, _ => by
    rw [Lib.compactUpTo_succ]
    cases hk : Lib.keeps d m with
    | true => simp
    | false =>
      have h1 : m ≠ 0 ∧ d[m]! = d[m - 1]! := by
        unfold Lib.keeps at hk
        rw [decide_eq_false_iff_not] at hk
        exact ⟨fun h => hk (.inl h), Decidable.byContradiction fun h => hk (.inr h)⟩
      have h2 := cu_last (d := d) m (by omega)
      simp only [Bool.false_eq_true, if_false, List.append_nil]
      rw [h2, ← h1.2]
      rfl
theorem cu_adj {d : Array Int} : ∀ (m i : Nat), i + 1 < (Lib.compactUpTo d m).length → (Lib.compactUpTo d m).getD i 0 ≠ (Lib.compactUpTo d m).getD (i + 1) 0
  | 0, i, h => by simp [Lib.compactUpTo] at h
  | m + 1, i, h => by
    rw [Lib.compactUpTo_succ] at h ⊢
    cases hk : Lib.keeps d m with
    | false =>
      rw [hk] at h
      simp only [Bool.false_eq_true, if_false, List.append_nil] at h ⊢
      exact cu_adj m i h
    | true =>
      rw [hk] at h
      simp only [if_true, List.length_append, List.length_singleton] at h ⊢
      by_cases hi : i + 1 < (Lib.compactUpTo d m).length
      · have := cu_adj (d := d) m i hi
        simp only [List.getD_eq_getElem?_getD] at this ⊢
        rw [List.getElem?_append_left (by omega), List.getElem?_append_left hi]
        exact this
      · have hl : (Lib.compactUpTo d m).length = i + 1 := by omega
        have hm : 0 < m := by
          rcases Nat.eq_zero_or_pos m with h0 | h0
          · subst h0; simp [Lib.compactUpTo] at hl
          · exact h0
        have h2 := cu_last (d := d) m hm
        rw [List.getLast?_eq_getElem?, hl] at h2
        simp only [Nat.add_sub_cancel] at h2
        simp only [List.getD_eq_getElem?_getD]
        rw [List.getElem?_append_left (by omega), h2, List.getElem?_append_right (by omega), hl]
        simp only [Nat.sub_self, List.getElem?_cons_zero, Option.getD_some]
        unfold Lib.keeps at hk
        rw [decide_eq_true_eq] at hk
        rcases hk with hk | hk
        · omega
        · exact fun e => hk e.symm
theorem compact_adj {l : List Int} (i : Nat) (h : i + 1 < (Lib.compact l).length) : (Lib.compact l).getD i 0 ≠ (Lib.compact l).getD (i + 1) 0 := cu_adj _ i h
theorem own_shrink {w : World} {B : Nat} {e : TypeId} {a : Option Addr} {n m cap : Nat} {xs : List Value} (h : w.ownsRow B e 1 (.slice a n cap) n xs) (hm : m ≤ n) (ha : a ≠ none) : w.ownsRow B e 1 (.slice a m cap) m (xs.take m) := by
  obtain ⟨h1, h2⟩ := h
  rcases h2 with ⟨h2, _⟩ | ⟨g, cap', cur, h2, hg, hh, hn, hc, hs, ht⟩
  · cases h2; exact absurd rfl ha
  · simp only [Value.slice.injEq, true_and] at h2
    obtain ⟨rfl, rfl⟩ := h2
    refine ⟨by rw [List.length_take, h1]; omega, .inr ⟨g, cap, cur, rfl, hg, hh, by omega, hc, hs, ?_⟩⟩
    rw [← ht, List.take_take]
    congr 1
    omega
theorem compact_any (v : Value) (l : List Int) (w : World) {B : Nat} (h : Lt w B v l) (hl : l.length ≤ 1000000) :
    Calls Try.prog 30 #[v] w fun e w' => ∃ v', e = .returned v' ∧ Lt w' B v' (Lib.compact l) ∧ v'.ownBlock = v.ownBlock ∧ Blk.Chg (fun k => v.ownBlock = some k) w w' := by
  rcases Nat.eq_zero_or_pos l.length with h0 | h0
  · have : l = [] := List.eq_nil_of_length_eq_zero h0
    subst this
    obtain ⟨a, cap, rfl, _⟩ := own_shape h.2
    have hcon := AnyG.slices_Compact_int_empty (P := Try.prog) (ρ := Try.compactL_ren) Try.compactL a cap w
    change Calls Try.prog 30 _ _ _ at hcon
    refine hcon.mono ?_
    rintro e w' ⟨rfl, rfl⟩
    exact ⟨_, rfl, h, rfl, Blk.Chg.refl _ _⟩
  · obtain ⟨R, cap, rfl, hc⟩ := own_slice h.2 h0
    have hcon := AnyG.slices_Compact_int (P := Try.prog) (ρ := Try.compactL_ren) Try.compactL R 0 cap l w (own_holds h.2) (by omega) hc
    change Calls Try.prog 30 _ _ _ at hcon
    refine hcon.mono ?_
    rintro e w' ⟨rfl, q, rfl⟩
    have hcl := compact_len (l := l)
    have ho := own_laid h.2 q #[] (Lib.compact l ++ List.replicate (l.length - (Lib.compact l).length) 0).toArray (by simp; omega)
    have e1 : Sort.grow (Sort.putRow (Value.int .i64) (Sort.ahead w q) R 0 (Lib.compact l ++ List.replicate (l.length - (Lib.compact l).length) 0).toArray) #[] = Sort.putRow (Value.int .i64) (Sort.ahead w q) R 0 (Lib.compact l ++ List.replicate (l.length - (Lib.compact l).length) 0).toArray := Sort.grow_empty _
    rw [e1] at ho
    have h2 := own_shrink ho.1 hcl (by simp)
    have e3 : ∀ r z : List Int, (lcells (r ++ z).toArray.toList).take r.length = lcells r := fun r z => by unfold lcells; rw [← List.map_take]; simp
    rw [e3] at h2
    exact ⟨_, rfl, ⟨fun x hx => h.1 x (compact_mem.1 hx), h2⟩, rfl, ho.2.mono fun k _ hk => by rw [hk]; rfl⟩
/-! ### what the last loop finds -/
/-- Sorted by variables, no neighbours alike. -/
def Neat (r : List Int) : Prop := (∀ i j, i < j → j < r.length → (r.getD i 0).natAbs ≤ (r.getD j 0).natAbs) ∧ ∀ i, i + 1 < r.length → r.getD i 0 ≠ r.getD (i + 1) 0
theorem getD_mem {r : List Int} {i : Nat} (h : i < r.length) : r.getD i 0 ∈ r := by
  rw [List.getD_eq_getElem?_getD, List.getElem?_eq_getElem h]
  exact List.getElem_mem _
theorem neat_of {l d : List Int} (hz : Lz l) (hp : d.Perm l) (hs : ∀ i j, i < j → j < d.length → uv (d.getD i 0) ≤ uv (d.getD j 0)) : Neat (Lib.compact d) := by
  refine ⟨?_, compact_adj⟩
  have hd : d.Pairwise fun a b => a.natAbs ≤ b.natAbs := by
    rw [List.pairwise_iff_getElem]
    intro i j hi hj hij
    have h1 := hs i j hij hj
    have e1 : d.getD i 0 = d[i] := by rw [List.getD_eq_getElem?_getD, List.getElem?_eq_getElem hi]; rfl
    have e2 : d.getD j 0 = d[j] := by rw [List.getD_eq_getElem?_getD, List.getElem?_eq_getElem hj]; rfl
    rw [e1, e2, uv_abs (hz _ (hp.mem_iff.1 (List.getElem_mem hi))), uv_abs (hz _ (hp.mem_iff.1 (List.getElem_mem hj)))] at h1
    omega
  have hc := List.Pairwise.sublist (compact_sub (l := d)) hd
  rw [List.pairwise_iff_getElem] at hc
  intro i j hij hj
  have := hc i j (by omega) hj hij
  rw [List.getD_eq_getElem?_getD, List.getElem?_eq_getElem (by omega), List.getD_eq_getElem?_getD, List.getElem?_eq_getElem hj]
  exact this
theorem neat_up {r : List Int} (hz : Lz r) (hn : Neat r) (h : ∀ i, i < r.length → r.getD i 0 ≠ 0 ∧ (0 < i → r.getD i 0 ≠ IntKind.i64.wrap (-(r.getD (i - 1) 0)))) : Up r := by
  have step : ∀ i, i + 1 < r.length → (r.getD i 0).natAbs < (r.getD (i + 1) 0).natAbs := fun i hi => by
    have h1 := hn.1 i (i + 1) (by omega) hi
    have h2 := hn.2 i hi
    have h3 := (h (i + 1) hi).2 (by omega)
    rw [Nat.add_sub_cancel] at h3
    have z1 := hz _ (getD_mem (r := r) (i := i) (by omega))
    have z2 := hz _ (getD_mem (r := r) (i := i + 1) hi)
    unfold I64 at z1 z2
    obtain ⟨a, ha⟩ : ∃ a, r.getD i 0 = a := ⟨_, rfl⟩
    obtain ⟨b, hb⟩ : ∃ b, r.getD (i + 1) 0 = b := ⟨_, rfl⟩
    rw [ha] at h1 h2 h3 z1 ⊢
    rw [hb] at h1 h2 h3 z2 ⊢
    rcases Nat.lt_or_ge a.natAbs b.natAbs with hlt | hge
    · exact hlt
    · exfalso
      have : b = -a := by omega
      have h4 : -a = b := by omega
      rw [h4, wrap_id (by omega) (by omega)] at h3
      exact h3 rfl
  unfold Up
  rw [List.pairwise_iff_getElem]
  intro i j hi hj hij
  have h1 := step i (by omega)
  have e1 : r.getD i 0 = r[i] := by rw [List.getD_eq_getElem?_getD, List.getElem?_eq_getElem hi]; rfl
  have e2 : r.getD j 0 = r[j] := by rw [List.getD_eq_getElem?_getD, List.getElem?_eq_getElem hj]; rfl
  rw [← e1, ← e2]
  rcases Nat.lt_or_ge (i + 1) j with h2 | h2
  · have := hn.1 (i + 1) j h2 hj; omega
  · obtain rfl : j = i + 1 := by omega
    exact h1
theorem neat_bad {r : List Int} (hz : Lz r) (hn : Neat r) {i : Nat} (hi : i < r.length) (h : r.getD i 0 = 0 ∨ (0 < i ∧ r.getD i 0 = IntKind.i64.wrap (-(r.getD (i - 1) 0)))) : bad r = true := by
  rw [bad_iff]
  rcases h with h | ⟨h0, h⟩
  · have := getD_mem hi
    rw [h] at this
    exact ⟨0, this, by simpa using this⟩
  · have m1 := getD_mem (r := r) (i := i - 1) (by omega)
    have m2 := getD_mem hi
    have hne := hn.2 (i - 1) (by omega)
    rw [show i - 1 + 1 = i by omega] at hne
    have z1 := hz _ m1
    unfold I64 at z1
    obtain ⟨a, ha⟩ : ∃ a, r.getD (i - 1) 0 = a := ⟨_, rfl⟩
    rw [ha] at h m1 hne z1
    by_cases hm : a = -9223372036854775808
    · subst hm
      exact absurd (h.trans (by decide)).symm hne
    · rw [wrap_id (by omega) (by omega)] at h
      exact ⟨a, m1, by rw [← h]; exact m2⟩
end Cn
end Go.Proofs.Ytlpahomaokopoaa

/-
The printer: what it holds, one more line, one more field.
-/
import Derived.Test.YtgolnfgkoolpoaaDoorStzChecks
import Derived.Test.YtgolnfgkoolpoaaDoorRow
import Derived.StillTailTactics
namespace Go.Proofs.YtgolnfgkoolpoaaDoor
open Go.RowKit
set_option linter.unusedSimpArgs false
set_option linter.unusedVariables false
namespace Stz
/-- Bytes as numbers. -/
def nums (l : Bs) : List Int := l.map fun c => (c.toNat : Int)
theorem nums_len (l : Bs) : (nums l).length = l.length := by simp [nums]
theorem nums_app (a c : Bs) : nums (a ++ c) = nums a ++ nums c := by simp [nums]
/-- One more line: nothing is added once it is too long. -/
def addL (p : Bs × Bool) (x : Bs) : Bs × Bool := if p.2 || decide (65536 < p.1.length + x.length + 1) then (p.1, true) else (p.1 ++ x ++ [10], false)
theorem mine_ne {w : World} {B k : Nat} {T : TypeId} {v : Value} {zs : List Int} {cs : Array Value} (h : Mine w B v zs) (hk : Blk.Is w k T cs) (hT : 5 ≠ T) : v.ownBlock ≠ some k := fun e => by
  obtain ⟨_, _, cur, h1⟩ := h.block e
  exact hT (h1.inj hk).1
theorem byte_nums (l : Bs) : Byte (nums l) := fun z hz => by
  obtain ⟨c, _, rfl⟩ := List.mem_map.1 hz
  have := c.toNat_lt
  omega
theorem cells_S (l : Bs) : byteCells (S l) = bcells (nums l) := by
  simp [byteCells, bcells, nums, S, List.map_map, Function.comp_def]
/-- append(row of mine, string...) -/
theorem append_S {w : World} {ops : Array Oper} {rest : List Oper} {o : Oper} {a : Act} {Q : Exit → Act → World → Prop} (hgd : o.guard = none) (s x : Operand)
    (ho : o.op = .call { callee := .builtin .append, args := #[s, x], argTypes := #[22, 9] })
    (base : Nat) (v : Value) (xs : List Int) (hv : a.eval s = v) (hm : Mine w base v xs) (t : Bs) (hx : a.eval x = .string (S t))
    (hlen : xs.length + t.length ≤ 140737488355328) (hbase : base ≤ w.heap.size)
    (h : ∀ v' w', Mine w' base v' (xs ++ nums t) → w.grownBy w' v.ownBlock → wpList Tryd.prog ops Q rest (a.put o.dst v') w') : wpList Tryd.prog ops Q (o :: rest) a w := by
  obtain ⟨i0, hi, hz0, hz1, hz2⟩ := info_parts infoU8
  refine Own.wpList_append_src hgd s x 22 9 ho base 5 i0 _ 1 1 Tryd.underlying22 hi hz0 hz1 hz2 rfl v xs.length _ hv hm.1 _ t.length _ hx (by have := Src.ofString w Tryd.underlying9 (S t); rwa [S_size] at this) (by simp only [maxLen]; omega) (by omega) hbase fun v' w' h1 h2 => ?_
  refine h v' w' ⟨?_, hm.2.append (byte_nums t)⟩ h2
  rw [List.length_append, nums_len]
  simpa [bcells, cells_S] using h1
/-- A printer at k, its bytes in a row of the call's own. -/
def PrAt (w : World) (B k : Nat) (p : Bs × Bool) : Prop := ∃ v, Blk.Is w k 62 #[v, .bool p.2] ∧ Mine w B v (nums p.1)
theorem PrAt.shape {w : World} {B k : Nat} {p : Bs × Bool} (h : PrAt w B k p) : ∃ a c, Blk.Is w k 62 #[.slice a p.1.length c, .bool p.2] ∧ Mine w B (.slice a p.1.length c) (nums p.1) ∧ p.1.length ≤ c := by
  obtain ⟨v, h1, h2⟩ := h
  obtain ⟨n, a, c, rfl, hc, hn, _⟩ := h2.rows
  rw [nums_len] at hn
  subst hn
  exact ⟨a, c, h1, h2, hc⟩
theorem PrAt.chg {w w' : World} {B k : Nat} {p : Bs × Bool} {S' : Nat → Prop} (h : PrAt w B k p) (hc : Blk.Chg S' w w') (hk : ¬ S' k) (hS : ∀ b, S' b → w.heap.size ≤ b) : PrAt w' B k p := by
  obtain ⟨v, h1, h2⟩ := h
  exact ⟨v, (hc.block k h1.lt hk).trans h1, h2.chg hc fun b hb hs => by have := (h2.block hb).2.1; have := hS b hs; omega⟩
theorem PrAt.below {w w' : World} {B k : Nat} {p : Bs × Bool} (h : PrAt w B k p) (hb : Below w.heap.size w w') : PrAt w' B k p := h.chg (S' := fun _ => False) (Blk.Chg.ofBelow' hb) (by simp) (by simp)
/-- One cell of the printer is written. -/
theorem mine_set {w : World} {B k i : Nat} {T : TypeId} {cs : Array Value} {v u : Value} {zs : List Int} (h : Mine w B v zs) (hk : Blk.Is w k T cs) (hT : 5 ≠ T) : Mine (w.setCell ⟨k, i, none⟩ u) B v zs :=
  h.chg (S := fun b => b = k) ((Blk.Chg.refl _ w).setAt rfl) fun b hb e => mine_ne h hk hT (by rw [hb, e])
theorem grown_is {w w' : World} {B k : Nat} {T : TypeId} {cs : Array Value} {v : Value} {zs : List Int} (h : Mine w B v zs) (hk : Blk.Is w k T cs) (hT : 5 ≠ T) (hg : w.grownBy w' v.ownBlock) : Blk.Is w' k T cs := by
  have hc : Blk.Chg (fun b => v.ownBlock = some b) w w' := (Blk.Chg.refl _ w).grown hg fun b hb _ => hb
  exact (hc.block k hk.lt (mine_ne h hk hT)).trans hk
/-- All blocks but the printer's, and rows of bytes, stay. -/
def Keeps (w w' : World) (k : Nat) : Prop := ∀ b T cs, Blk.Is w b T cs → 5 ≠ T → b ≠ k → Blk.Is w' b T cs
theorem Keeps.trans {a b c : World} {k : Nat} (h : Keeps a b k) (h' : Keeps b c k) : Keeps a c k := fun i T cs hi hT hk => h' i T cs (h i T cs hi hT hk) hT hk
theorem Keeps.set (w : World) (k i : Nat) (u : Value) : Keeps w (w.setCell ⟨k, i, none⟩ u) k := fun b T cs hi _ hk => hi.setOther (a := ⟨k, i, none⟩) u hk
theorem Keeps.grown {w w' : World} {B k : Nat} {v : Value} {zs : List Int} (h : Mine w B v zs) (hg : w.grownBy w' v.ownBlock) : Keeps w w' k := fun b T cs hi hT _ => grown_is h hi hT hg
theorem Keeps.below {w w' : World} {k : Nat} (h : Below w.heap.size w w') : Keeps w w' k := fun b T cs hi _ _ => (h.block b hi.lt).trans hi
set_option maxRecDepth 100000 in
set_option maxHeartbeats 4000000 in
theorem pline_any (B k : Nat) (p : Bs × Bool) (x : Bs) (w : World) (h : PrAt w B k p) (hB : B ≤ k) (hp : p.1.length ≤ 65536) (hx : x.length ≤ 1000000) :
    Calls Tryd.prog 31 #[.pointer (some ⟨k, 0, none⟩), .string (S x)] w fun e w' => e = .returned (.tuple #[]) ∧ PrAt w' B k (addL p x) ∧ Below B w w' ∧ Keeps w w' k := by
  obtain ⟨a, c, h1, h2, hc⟩ := h.shape
  obtain ⟨txt, long⟩ := p
  obtain ⟨n, hn⟩ : ∃ n, txt.length = n := ⟨_, rfl⟩
  rw [show ((txt, long) : Bs × Bool).1.length = n from hn] at h1 h2 hc hp
  have HN := Lib.hid hn
  have H1 := Lib.hid h1
  have H2 := Lib.hid h2
  have c0 : w.cell? ⟨k, 0, none⟩ = some (.slice a n c) := h1.at rfl
  have c1 : w.cell? ⟨k, 1, none⟩ = some (.bool long) := h1.at rfl
  have f0 := h1.free 0
  have f1 := h1.free 1
  have hkw := h1.lt
  have hsx := S_size x
  clear h1 h2 h hn
  have T1 : ∀ b : Bool, Blk.Is (w.setCell ⟨k, 1, none⟩ (.bool b)) k 62 #[.slice a n c, .bool b] := fun b => H1.out.set 1 _
  have B1 : ∀ b : Bool, Below B w (w.setCell ⟨k, 1, none⟩ (.bool b)) := fun b => (Below.refl B w).setCell (p := ⟨k, 1, none⟩) hB _
  have M1 : ∀ b : Bool, Mine (w.setCell ⟨k, 1, none⟩ (.bool b)) B (.slice a n c) (nums txt) := fun b => mine_set H2.out H1.out (by decide)
  have T1 := Lib.hid T1
  have B1 := Lib.hid B1
  have M1 := Lib.hid M1
  cases long with
  | true =>
    go_enter Tryd.func31, Tryd.ntmps31
    go_wp2_with fail
    refine bodyPost_end (results_none rfl _ _ _) rfl ⟨rfl, ?_, B1.out true, Keeps.set w k 1 _⟩
    exact ⟨.slice a n c, T1.out true, M1.out true⟩
  | false =>
    by_cases hbig : 65536 < n + x.length + 1
    · have hbig' : (65536 : Int) < n + x.length + 1 := by omega
      have ha : addL (txt, false) x = (txt, true) := by
        unfold addL
        rw [if_pos (by simp [HN.out]; omega)]
      have HA := Lib.hid ha
      clear ha
      go_enter Tryd.func31, Tryd.ntmps31
      go_wp2_with fail
      refine bodyPost_end (results_none rfl _ _ _) rfl ⟨rfl, ?_, B1.out true, Keeps.set w k 1 _⟩
      rw [HA.out]
      exact ⟨.slice a n c, T1.out true, M1.out true⟩
    · have hbig' : ¬ (65536 : Int) < n + x.length + 1 := by omega
      have ha : addL (txt, false) x = (txt ++ x ++ [10], false) := by
        unfold addL
        rw [if_neg (by simp [HN.out]; omega)]
      have HA := Lib.hid ha
      clear ha
      go_enter Tryd.func31, Tryd.ntmps31
      go_wp2_with (at_builtin; refine append_S rfl (.tmp 32) (.tmp 33) rfl B _ _ rfl (M1.out false) x rfl ?_ ?_ ?_)
      · rw [nums_len, HN.out]; omega
      · show B ≤ w.heap.size
        omega
      intro v2 w2 m2 g2
      have hsz : B ≤ (w.setCell ⟨k, 1, none⟩ (.bool false)).heap.size := by simp only [World.setCell, Array.size_modify]; omega
      have i2 := grown_is (M1.out false) (T1.out false) (by decide) g2
      have KP := Lib.hid ((Keeps.set w k 1 (.bool false)).trans (Keeps.grown (k := k) (M1.out false) g2))
      have b2 := Own.below_grown (B1.out false) (M1.out false).1 g2 hsz
      obtain ⟨n2, a2, c2, rfl, _, hn2, _⟩ := m2.rows
      have hs2 : B ≤ w2.heap.size := Nat.le_trans hsz (by have := g2.size; exact this)
      have hl2 : n2 = n + x.length := by rw [← hn2, List.length_append, nums_len, nums_len, HN.out]
      have HL2 := Lib.hid hl2
      have hl2' : n2 ≤ 65536 := by omega
      have I2 := Lib.hid i2
      have B2 := Lib.hid b2
      have M2 := Lib.hid m2
      clear i2 b2 m2 g2 hn2 hl2 c0 c1
      go_wp2_with (at_builtin; refine append_S rfl (.tmp 34) (.const (.string ⟨#[10]⟩)) rfl B _ _ rfl M2.out [10] rfl ?_ hs2 ?_)
      · rw [List.length_append, nums_len, nums_len, HN.out, ← HL2.out]
        show n2 + 1 ≤ _
        omega
      intro v3 w3 m3 g3
      have i3 := grown_is M2.out I2.out (by decide) g3
      have KP3 := Lib.hid ((KP.out.trans (Keeps.grown (k := k) M2.out g3)))
      have b3 := Own.below_grown B2.out M2.out.1 g3 hs2
      obtain ⟨n3, a3, c3, rfl, _, hn3, _⟩ := m3.rows
      have d0 : w3.cell? ⟨k, 0, none⟩ = some (.slice a n c) := i3.at rfl
      have d1 : w3.frozen? ⟨k, 0, none⟩ = false := i3.free 0
      have I3 := Lib.hid i3
      have B3 := Lib.hid b3
      have M3 := Lib.hid m3
      clear i3 b3 m3 g3 hn3
      go_wp2_with fail
      refine bodyPost_end (results_none rfl _ _ _) rfl ⟨rfl, ?_, B3.out.setCell (p := ⟨k, 0, none⟩) hB _, KP3.out.trans (Keeps.set w3 k 0 _)⟩
      rw [HA.out]
      refine ⟨.slice a3 n3 c3, I3.out.set 0 _, ?_⟩
      have := mine_set (i := 0) (u := .slice a3 n3 c3) M3.out I3.out (by decide)
      show Mine _ _ _ (nums (txt ++ x ++ [10]))
      rw [nums_app, nums_app, List.append_assoc]
      exact this
end Stz
end Go.Proofs.YtgolnfgkoolpoaaDoor

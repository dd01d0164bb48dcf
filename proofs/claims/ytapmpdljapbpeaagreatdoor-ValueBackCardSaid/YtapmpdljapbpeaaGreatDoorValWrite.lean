/-
Write: a value as a text; the reference's Write.
-/
import Derived.Test.YtapmpdljapbpeaaGreatDoorValMades
import Derived.Test.YtapmpdljapbpeaaGreatDoorShelf
import Derived.Test.YtapmpdljapbpeaaGreatDoorRelUni
import Derived.Test.YtapmpdljapbpeaaGreatDoorRelBack
import Derived.Test.YtapmpdljapbpeaaGreatDoorRelAtom
import Derived.Laws.Concat
import Derived.Test.YtapmpdljapbpeaaGreatDoorRelJoin
import Derived.Test.YtapmpdljapbpeaaGreatDoorRelWriteP
import Derived.Lib.AppendIntMem
import Derived.Deep.QuietTactic
namespace Go.Proofs.YtapmpdljapbpeaaGreatDoor
open Go.RowKit
set_option linter.unusedSimpArgs false
set_option linter.unusedVariables false
namespace Va
open Ver (Bs li li_len S S_self S_size S_li)
open Rl (At Pv Ats Pvs Clss Cls Vars LimA LimP LimC text atoms provs pvA)
def wrB (s : ByteArray) (n : Nat) : Bool := !(s.toList == []) || decide (n = 0)
def wrT : Vl → ByteArray
  | .none => ⟨#[]⟩
  | .text s => s
  | .count n => ⟨(Lib.itoa n).toArray⟩
  | .yes b => if b then yesT else noT
  | .clauses l => S (text l)
  | .atoms l => S (atoms l)
  | .provs l => S (provs l)
def wrK : Vl → Bool
  | .none => false
  | .clauses l => wrB (S (text l)) l.length
  | .atoms l => wrB (S (atoms l)) l.length
  | .provs l => wrB (S (provs l)) l.length
  | _ => true
/-- What Write wants of a value. -/
def Vl.Lim (x : Vl) : Prop := LimC x.cls ∧ LimA x.ats ∧ LimP x.pvs ∧ (Lit.int .i64 x.cnt).wf = true
def Pow (w : World) : Prop := Lib.TabIs Tryz.prog w "internal/strconv.uint64pow10" .u64 Lib.pow10Tab
theorem Pow.on {w w' : World} (h : Pow w) (hb : Below w.heap.size w w') : Pow w' := Lib.tabBelow_of_tabIs h w' hb
theorem below_grow (w : World) (os : Array Obj) : Below w.heap.size w (Go.Sort.grow w os) :=
  ⟨rfl, rfl, rfl, by simp [Go.Sort.grow], fun k hk => by simp [Go.Sort.grow, Array.getElem?_append_left hk]⟩
set_option maxRecDepth 100000 in
theorem itoa_any (n : Int) (hn : (Lit.int .i64 n).wf = true) (w : World) (hp : Pow w) :
    Calls Tryz.prog 73 #[.int .i64 n] w fun e w' => e = .returned (.string ⟨(Lib.itoa n).toArray⟩) ∧ Below w.heap.size w w' := by
  have hb : -9223372036854775808 ≤ n ∧ n ≤ 9223372036854775807 := by
    simp [Lit.wf, IntKind.min, IntKind.max, IntKind.signed, IntKind.bits] at hn
    omega
  refine (Tryz.strconv_Itoa n hb.1 hb.2 w hp).mono ?_
  rintro e w' ⟨rfl, k, os, rfl⟩
  refine ⟨rfl, ?_⟩
  have h1 := below_drewN w k
  exact h1.trans (below_grow (w.drewN k) os)
set_option maxRecDepth 100000 in
theorem written_any (s : ByteArray) (n : Nat) (w : World) : Calls Tryz.prog 96 #[.string s, .int .i64 n] w fun e w' => e = .returned (.tuple #[.string s, .bool (wrB s n)]) ∧ w' = w := by
  by_cases h1 : s.toList = []
  · have e1 : (s.toList == []) = true := by rw [h1]; rfl
    by_cases h2 : n = 0
    · subst h2
      have hr : wrB s 0 = true := by unfold wrB; rw [e1]; rfl
      rw [hr]
      go_enter Tryz.func96, Tryz.ntmps96
      go_wp2_with fail
      go_returns
      exact ⟨rfl, rfl⟩
    · have hr : wrB s n = false := by unfold wrB; rw [e1, decide_eq_false h2]; rfl
      have e2 : ((n : Int) == 0) = false := by simp [h2]
      rw [hr]
      go_enter Tryz.func96, Tryz.ntmps96
      go_wp2_with fail
      go_returns
      exact ⟨rfl, rfl⟩
  · have e1 : (s.toList == []) = false := beq_eq_false_iff_ne.2 h1
    have hr : wrB s n = true := by unfold wrB; rw [e1]; rfl
    rw [hr]
    go_enter Tryz.func96, Tryz.ntmps96
    go_wp2_with fail
    go_returns
    exact ⟨rfl, rfl⟩
theorem writeYes_any (b : Bool) (w : World) : Calls Tryz.prog 95 #[.bool b] w fun e w' => e = .returned (.string (if b then yesT else noT)) ∧ w' = w := by
  cases b
  all_goals
    unfold yesT noT
    go_enter Tryz.func95, Tryz.ntmps95
    go_wp2_with fail
    go_ret
    exact ⟨rfl, rfl⟩
set_option maxRecDepth 100000 in
set_option maxHeartbeats 4000000 in
theorem writeM_none  (w : World) : Calls Tryz.prog 72 #[.agg #[.nilIface]] w fun e w' => e = .returned (.tuple #[.string ⟨#[]⟩, .bool false]) ∧ Below w.heap.size w w' := by
  have hI : IsI (.nilIface) := .inl rfl
  have t1 := as_text hI
  have t2 := as_count hI
  have t3 := as_yes hI
  have t4 := as_clauses hI
  have t5 := as_atoms hI
  have t6 := as_provides hI
  simp [asT, asB] at t1 t2 t3 t4 t5 t6
  have hc0 := (Blk.Is.new w 30 #[.nilIface]).at (i := 0) rfl
  have hB0 : Below w.heap.size w (w.alloc (.cells #[.nilIface] 30)) := (Below.refl _ _).alloc (Nat.le_refl _) _
  clear hI
  go_enter Tryz.func72, Tryz.ntmps72
  go_wp2_with fail
  go_returns
  exact ⟨rfl, hB0⟩
set_option maxRecDepth 100000 in
set_option maxHeartbeats 4000000 in
theorem writeM_text (s : ByteArray) (w : World) : Calls Tryz.prog 72 #[.agg #[.iface 9 (.string s)]] w fun e w' => e = .returned (.tuple #[.string s, .bool true]) ∧ Below w.heap.size w w' := by
  have hI : IsI (.iface 9 (.string s)) := .inr ⟨_, _, rfl⟩
  have t1 := as_text hI
  have t2 := as_count hI
  have t3 := as_yes hI
  have t4 := as_clauses hI
  have t5 := as_atoms hI
  have t6 := as_provides hI
  simp [asT, asB] at t1 t2 t3 t4 t5 t6
  have hc0 := (Blk.Is.new w 30 #[.iface 9 (.string s)]).at (i := 0) rfl
  have hB0 : Below w.heap.size w (w.alloc (.cells #[.iface 9 (.string s)] 30)) := (Below.refl _ _).alloc (Nat.le_refl _) _
  clear hI
  go_enter Tryz.func72, Tryz.ntmps72
  go_wp2_with fail
  go_returns
  exact ⟨rfl, hB0⟩
set_option maxRecDepth 100000 in
set_option maxHeartbeats 4000000 in
theorem writeM_count (n : Int) (hn : (Lit.int .i64 n).wf = true) (w : World) (hp : Pow w) : Calls Tryz.prog 72 #[.agg #[.iface 3 (.int .i64 n)]] w fun e w' => e = .returned (.tuple #[.string ⟨(Lib.itoa n).toArray⟩, .bool true]) ∧ Below w.heap.size w w' := by
  have hI : IsI (.iface 3 (.int .i64 n)) := .inr ⟨_, _, rfl⟩
  have t1 := as_text hI
  have t2 := as_count hI
  have t3 := as_yes hI
  have t4 := as_clauses hI
  have t5 := as_atoms hI
  have t6 := as_provides hI
  simp [asT, asB] at t1 t2 t3 t4 t5 t6
  have hc0 := (Blk.Is.new w 30 #[.iface 3 (.int .i64 n)]).at (i := 0) rfl
  have hB0 : Below w.heap.size w (w.alloc (.cells #[.iface 3 (.int .i64 n)] 30)) := (Below.refl _ _).alloc (Nat.le_refl _) _
  have c := itoa_any n hn _ (hp.on hB0)
  clear hI hp hn
  generalize (⟨(Lib.itoa n).toArray⟩ : ByteArray) = T at *
  go_enter Tryz.func72, Tryz.ntmps72
  go_wp2_with fail
  refine c.mono ?_
  rintro e w1 ⟨rfl, k1⟩
  have b1 := hB0.trans (k1.mono hB0.size)
  clear c k1 hB0 hc0
  go_wp2_with fail
  go_returns
  exact ⟨rfl, b1⟩
set_option maxRecDepth 100000 in
set_option maxHeartbeats 4000000 in
theorem writeM_yes (b : Bool) (w : World) : Calls Tryz.prog 72 #[.agg #[.iface 4 (.bool b)]] w fun e w' => e = .returned (.tuple #[.string (if b then yesT else noT), .bool true]) ∧ Below w.heap.size w w' := by
  have hI : IsI (.iface 4 (.bool b)) := .inr ⟨_, _, rfl⟩
  have t1 := as_text hI
  have t2 := as_count hI
  have t3 := as_yes hI
  have t4 := as_clauses hI
  have t5 := as_atoms hI
  have t6 := as_provides hI
  simp [asT, asB] at t1 t2 t3 t4 t5 t6
  have hc0 := (Blk.Is.new w 30 #[.iface 4 (.bool b)]).at (i := 0) rfl
  have hB0 : Below w.heap.size w (w.alloc (.cells #[.iface 4 (.bool b)] 30)) := (Below.refl _ _).alloc (Nat.le_refl _) _
  have c := writeYes_any b (w.alloc (.cells #[.iface 4 (.bool b)] 30))
  generalize (if b then yesT else noT) = T at *
  clear hI
  go_enter Tryz.func72, Tryz.ntmps72
  go_wp2_with fail
  refine c.mono ?_
  rintro e w1 ⟨rfl, rfl⟩
  clear c hc0
  go_wp2_with fail
  go_returns
  exact ⟨rfl, hB0⟩
set_option maxRecDepth 100000 in
set_option maxHeartbeats 4000000 in
theorem writeM_clauses (v : Value) (l : List (List At)) (w : World) (h : Clss w v l) (hL : LimC l) (hv : Vars w) : Calls Tryz.prog 72 #[.agg #[.iface 22 v]] w fun e w' => e = .returned (.tuple #[.string (S (text l)), .bool (wrB (S (text l)) l.length)]) ∧ Below w.heap.size w w' := by
  obtain ⟨a0, b0, rfl⟩ := h.shape
  have hB1 : Below w.heap.size w (w.alloc (.cells #[.iface 22 (.slice a0 l.length b0)] 30)) := (Below.refl _ _).alloc (Nat.le_refl _) _
  have c := Rl.Text_any _ l _ (h.below hB1) hL (hv.on hB1)
  obtain ⟨N, hN⟩ : ∃ N, l.length = N := ⟨_, rfl⟩
  rw [hN] at c hB1 ⊢
  clear h hL hv hN hB1
  have hI : IsI (.iface 22 (.slice a0 N b0)) := .inr ⟨_, _, rfl⟩
  have t1 := as_text hI
  have t2 := as_count hI
  have t3 := as_yes hI
  have t4 := as_clauses hI
  have t5 := as_atoms hI
  have t6 := as_provides hI
  simp [asT, asB] at t1 t2 t3 t4 t5 t6
  have hc0 := (Blk.Is.new w 30 #[.iface 22 (.slice a0 N b0)]).at (i := 0) rfl
  have hB0 : Below w.heap.size w (w.alloc (.cells #[.iface 22 (.slice a0 N b0)] 30)) := (Below.refl _ _).alloc (Nat.le_refl _) _
  generalize S (text l) = T at *
  have cw := fun w => written_any T N w
  clear hI
  generalize wrB T N = G at *
  go_enter Tryz.func72, Tryz.ntmps72
  go_wp2_with fail
  refine c.mono ?_
  rintro e w1 ⟨rfl, k1⟩
  have b1 := hB0.trans (k1.mono hB0.size)
  clear c k1 hB0 hc0
  go_wp2_with fail
  refine (cw _).mono ?_
  rintro e w2 ⟨rfl, rfl⟩
  clear cw
  go_wp2_with fail
  go_returns
  exact ⟨rfl, b1⟩
set_option maxRecDepth 100000 in
set_option maxHeartbeats 4000000 in
theorem writeM_atoms (v : Value) (l : List At) (w : World) (h : Ats w v l) (hL : LimA l) (hv : Vars w) : Calls Tryz.prog 72 #[.agg #[.iface 23 v]] w fun e w' => e = .returned (.tuple #[.string (S (atoms l)), .bool (wrB (S (atoms l)) l.length)]) ∧ Below w.heap.size w w' := by
  obtain ⟨a0, b0, rfl⟩ := h.shape
  have hB1 : Below w.heap.size w (w.alloc (.cells #[.iface 23 (.slice a0 l.length b0)] 30)) := (Below.refl _ _).alloc (Nat.le_refl _) _
  have c := Rl.Atoms_any _ l _ (h.below hB1) hL (hv.on hB1)
  obtain ⟨N, hN⟩ : ∃ N, l.length = N := ⟨_, rfl⟩
  rw [hN] at c hB1 ⊢
  clear h hL hv hN hB1
  have hI : IsI (.iface 23 (.slice a0 N b0)) := .inr ⟨_, _, rfl⟩
  have t1 := as_text hI
  have t2 := as_count hI
  have t3 := as_yes hI
  have t4 := as_clauses hI
  have t5 := as_atoms hI
  have t6 := as_provides hI
  simp [asT, asB] at t1 t2 t3 t4 t5 t6
  have hc0 := (Blk.Is.new w 30 #[.iface 23 (.slice a0 N b0)]).at (i := 0) rfl
  have hB0 : Below w.heap.size w (w.alloc (.cells #[.iface 23 (.slice a0 N b0)] 30)) := (Below.refl _ _).alloc (Nat.le_refl _) _
  generalize S (atoms l) = T at *
  have cw := fun w => written_any T N w
  clear hI
  generalize wrB T N = G at *
  go_enter Tryz.func72, Tryz.ntmps72
  go_wp2_with fail
  refine c.mono ?_
  rintro e w1 ⟨rfl, k1⟩
  have b1 := hB0.trans (k1.mono hB0.size)
  clear c k1 hB0 hc0
  go_wp2_with fail
  refine (cw _).mono ?_
  rintro e w2 ⟨rfl, rfl⟩
  clear cw
  go_wp2_with fail
  go_returns
  exact ⟨rfl, b1⟩
set_option maxRecDepth 100000 in
set_option maxHeartbeats 4000000 in
theorem writeM_provs (v : Value) (l : List Pv) (w : World) (h : Pvs w v l) (hL : LimP l) (hv : Vars w) : Calls Tryz.prog 72 #[.agg #[.iface 24 v]] w fun e w' => e = .returned (.tuple #[.string (S (provs l)), .bool (wrB (S (provs l)) l.length)]) ∧ Below w.heap.size w w' := by
  obtain ⟨a0, b0, rfl⟩ := h.shape
  have hB1 : Below w.heap.size w (w.alloc (.cells #[.iface 24 (.slice a0 l.length b0)] 30)) := (Below.refl _ _).alloc (Nat.le_refl _) _
  have c := Rl.Provides_any _ l _ (h.below hB1) hL (hv.on hB1)
  obtain ⟨N, hN⟩ : ∃ N, l.length = N := ⟨_, rfl⟩
  rw [hN] at c hB1 ⊢
  clear h hL hv hN hB1
  have hI : IsI (.iface 24 (.slice a0 N b0)) := .inr ⟨_, _, rfl⟩
  have t1 := as_text hI
  have t2 := as_count hI
  have t3 := as_yes hI
  have t4 := as_clauses hI
  have t5 := as_atoms hI
  have t6 := as_provides hI
  simp [asT, asB] at t1 t2 t3 t4 t5 t6
  have hc0 := (Blk.Is.new w 30 #[.iface 24 (.slice a0 N b0)]).at (i := 0) rfl
  have hB0 : Below w.heap.size w (w.alloc (.cells #[.iface 24 (.slice a0 N b0)] 30)) := (Below.refl _ _).alloc (Nat.le_refl _) _
  generalize S (provs l) = T at *
  have cw := fun w => written_any T N w
  clear hI
  generalize wrB T N = G at *
  go_enter Tryz.func72, Tryz.ntmps72
  go_wp2_with fail
  refine c.mono ?_
  rintro e w1 ⟨rfl, k1⟩
  have b1 := hB0.trans (k1.mono hB0.size)
  clear c k1 hB0 hc0
  go_wp2_with fail
  refine (cw _).mono ?_
  rintro e w2 ⟨rfl, rfl⟩
  clear cw
  go_wp2_with fail
  go_returns
  exact ⟨rfl, b1⟩
theorem writeM_any {B : Nat} {iv : Value} {x : Vl} {w : World} (h : VAt B w iv x) (hL : x.Lim) (hv : Vars w) (hp : Pow w) :
    Calls Tryz.prog 72 #[.agg #[iv]] w fun e w' => e = .returned (.tuple #[.string (wrT x), .bool (wrK x)]) ∧ Below w.heap.size w w' := by
  cases x with
  | none => obtain rfl := h; exact writeM_none w
  | text s => obtain rfl := h; exact writeM_text s w
  | count n => obtain rfl := h; exact writeM_count n hL.2.2.2 w hp
  | yes b => obtain rfl := h; exact writeM_yes b w
  | clauses l => obtain ⟨v, rfl, hh⟩ := h; exact writeM_clauses v l w hh.here hL.1 hv
  | atoms l => obtain ⟨v, rfl, hh⟩ := h; exact writeM_atoms v l w hh.here hL.2.1 hv
  | provs l => obtain ⟨v, rfl, hh⟩ := h; exact writeM_provs v l w hh.here hL.2.2.1 hv
set_option maxRecDepth 100000 in
set_option maxHeartbeats 4000000 in
theorem write_any {B : Nat} {iv : Value} {x : Vl} {w : World} (h : VAt B w iv x) (hL : x.Lim) (hv : Vars w) (hp : Pow w) :
    Calls Tryz.prog 32 #[.agg #[iv]] w fun e w' => e = .returned (.tuple #[.string (wrT x), .bool (wrK x)]) ∧ Below w.heap.size w w' := by
  have hb0 := (Blk.Is.new w 30 #[iv]).at (i := 0) rfl
  have hB0 : Below w.heap.size w (w.alloc (.cells #[iv] 30)) := (Below.refl _ _).alloc (Nat.le_refl _) _
  have c := writeM_any (h.below hB0) hL (hv.on hB0) (hp.on hB0)
  generalize wrT x = T at *
  generalize wrK x = G at *
  clear h hL hv hp
  go_enter Tryz.func32, Tryz.ntmps32
  go_wp2_with fail
  refine c.mono ?_
  rintro e w' ⟨rfl, kb⟩
  have k := hB0.trans (kb.mono hB0.size)
  clear kb hB0 hb0 c
  go_wp2_with fail
  go_returns
  exact ⟨rfl, k⟩
end Va
end Go.Proofs.YtapmpdljapbpeaaGreatDoor
namespace Go.Proofs.YtapmpdljapbpeaaGreatDoor
open Go.RowKit
set_option linter.unusedSimpArgs false
set_option linter.unusedVariables false
namespace Va
open Ver (Bs li li_len S S_self S_size S_li)
open Rl (At Pv Ats Pvs Clss Cls Vars LimA LimP LimC text atoms provs pvA wrt wCl wAt)
end Va
end Go.Proofs.YtapmpdljapbpeaaGreatDoor

/-
Write: a value as a text; the reference's Write.
-/
import Derived.Test.YtapmpdljapbpeaaGreatDoorValMades
import Derived.Test.YtapmpdljapbpeaaGreatDoorShelf
import Derived.Test.YtapmpdljapbpeaaGreatDoorRelYText
import Derived.Test.YtapmpdljapbpeaaGreatDoorRelSingles
import Derived.Test.YtapmpdljapbpeaaGreatDoorRelWriteP
import Derived.Lib.AppendIntMem
import Derived.Deep.QuietTactic
namespace Go.Proofs.YtapmpdljapbpeaaGreatDoor
open Go.RowKit
set_option linter.unusedSimpArgs false
set_option linter.unusedVariables false
namespace Va
open Ver (Bs li li_len S S_self S_size S_li)
open Rl (At Pv Ats Pvs Clss Cls Vars LimA LimP LimC text atoms provs pvA)
def wrB (s : ByteArray) (n : Nat) : Bool := !(s.toList == []) || decide (n = 0)
def wrT : Vl → ByteArray
  | .none => ⟨#[]⟩
  | .text s => s
  | .count n => ⟨(Lib.itoa n).toArray⟩
  | .yes b => if b then yesT else noT
  | .clauses l => S (text l)
  | .atoms l => S (atoms l)
  | .provs l => S (provs l)
def wrK : Vl → Bool
  | .none => false
  | .clauses l => wrB (S (text l)) l.length
  | .atoms l => wrB (S (atoms l)) l.length
  | .provs l => wrB (S (provs l)) l.length
  | _ => true
/-- What Write wants of a value. -/
def Vl.Lim (x : Vl) : Prop := LimC x.cls ∧ LimA x.ats ∧ LimP x.pvs ∧ (Lit.int .i64 x.cnt).wf = true
def Pow (w : World) : Prop := Lib.TabIs Tryz.prog w "internal/strconv.uint64pow10" .u64 Lib.pow10Tab
theorem Pow.on {w w' : World} (h : Pow w) (hb : Below w.heap.size w w') : Pow w' := Lib.tabBelow_of_tabIs h w' hb
theorem below_grow (w : World) (os : Array Obj) : Below w.heap.size w (Go.Sort.grow w os) :=
  ⟨rfl, rfl, rfl, by simp [Go.Sort.grow], fun k hk => by simp [Go.Sort.grow, Array.getElem?_append_left hk]⟩
set_option maxRecDepth 100000 in
theorem itoa_any (n : Int) (hn : (Lit.int .i64 n).wf = true) (w : World) (hp : Pow w) :
    Calls Tryz.prog 73 #[.int .i64 n] w fun e w' => e = .returned (.string ⟨(Lib.itoa n).toArray⟩) ∧ Below w.heap.size w w' := by
  have hb : -9223372036854775808 ≤ n ∧ n ≤ 9223372036854775807 := by
    simp [Lit.wf, IntKind.min, IntKind.max, IntKind.signed, IntKind.bits] at hn
    omega
  refine (Tryz.strconv_Itoa n hb.1 hb.2 w hp).mono ?_
  rintro e w' ⟨rfl, k, os, rfl⟩
  refine ⟨rfl, ?_⟩
  have h1 := below_drewN w k
  exact h1.trans (below_grow (w.drewN k) os)
set_option maxRecDepth 100000 in
theorem written_any (s : ByteArray) (n : Nat) (w : World) : Calls Tryz.prog 96 #[.string s, .int .i64 n] w fun e w' => e = .returned (.tuple #[.string s, .bool (wrB s n)]) ∧ w' = w := by
  by_cases h1 : s.toList = []
  · have e1 : (s.toList == []) = true := by rw [h1]; rfl
    by_cases h2 : n = 0
    · subst h2
      have hr : wrB s 0 = true := by unfold wrB; rw [e1]; rfl
      rw [hr]
      go_enter Tryz.func96, Tryz.ntmps96
      go_wp2_with fail
      go_returns
      exact ⟨rfl, rfl⟩
    · have hr : wrB s n = false := by unfold wrB; rw [e1, decide_eq_false h2]; rfl
      have e2 : ((n : Int) == 0) = false := by simp [h2]
      rw [hr]
      go_enter Tryz.func96, Tryz.ntmps96
      go_wp2_with fail
      go_returns
      exact ⟨rfl, rfl⟩
  · have e1 : (s.toList == []) = false := beq_eq_false_iff_ne.2 h1
    have hr : wrB s n = true := by unfold wrB; rw [e1]; rfl
    rw [hr]
    go_enter Tryz.func96, Tryz.ntmps96
    go_wp2_with fail
    go_returns
    exact ⟨rfl, rfl⟩
theorem writeYes_any (b : Bool) (w : World) : Calls Tryz.prog 95 #[.bool b] w fun e w' => e = .returned (.string (if b then yesT else noT)) ∧ w' = w := by
  cases b
  all_goals
    unfold yesT noT
    go_enter Tryz.func95, Tryz.ntmps95
    go_wp2_with fail
    go_ret
    exact ⟨rfl, rfl⟩
set_option maxRecDepth 100000 in
set_option maxHeartbeats 4000000 in
theorem writeM_none  (w : World) : Calls Tryz.prog 72 #[.agg #[.nilIface]] w fun e w' => e = .returned (.tuple #[.string ⟨#[]⟩, .bool false]) ∧ Below w.heap.size w w' := by
  have hI : IsI (.nilIface) := .inl rfl
  have t1 := as_text hI
  have t2 := as_count hI
  have t3 := as_yes hI
  have t4 := as_clauses hI
  have t5 := as_atoms hI
  have t6 := as_provides hI
  simp [asT, asB] at t1 t2 t3 t4 t5 t6
  have hc0 := (Blk.Is.new w 30 #[.nilIface]).at (i := 0) rfl
  have hB0 : Below w.heap.size w (w.alloc (.cells #[.nilIface] 30)) := (Below.refl _ _).alloc (Nat.le_refl _) _
  clear hI
  go_enter Tryz.func72, Tryz.ntmps72
  go_wp2_with fail
  go_returns
  exact ⟨rfl, hB0⟩
set_option maxRecDepth 100000 in
set_option maxHeartbeats 4000000 in
theorem writeM_text (s : ByteArray) (w : World) : Calls Tryz.prog 72 #[.agg #[.iface 9 (.string s)]] w fun e w' => e = .returned (.tuple #[.string s, .bool true]) ∧ Below w.heap.size w w' := by
  have hI : IsI (.iface 9 (.string s)) := .inr ⟨_, _, rfl⟩
  have t1 := as_text hI
  have t2 := as_count hI
  have t3 := as_yes hI
  have t4 := as_clauses hI
  have t5 := as_atoms hI
  have t6 := as_provides hI
  simp [asT, asB] at t1 t2 t3 t4 t5 t6
  have hc0 := (Blk.Is.new w 30 #[.iface 9 (.string s)]).at (i := 0) rfl
  have hB0 : Below w.heap.size w (w.alloc (.cells #[.iface 9 (.string s)] 30)) := (Below.refl _ _).alloc (Nat.le_refl _) _
  clear hI
  go_enter Tryz.func72, Tryz.ntmps72
  go_wp2_with fail
  go_returns
  exact ⟨rfl, hB0⟩
set_option maxRecDepth 100000 in
set_option maxHeartbeats 4000000 in
theorem writeM_count (n : Int) (hn : (Lit.int .i64 n).wf = true) (w : World) (hp : Pow w) : Calls Tryz.prog 72 #[.agg #[.iface 3 (.int .i64 n)]] w fun e w' => e = .returned (.tuple #[.string ⟨(Lib.itoa n).toArray⟩, .bool true]) ∧ Below w.heap.size w w' := by
  have hI : IsI (.iface 3 (.int .i64 n)) := .inr ⟨_, _, rfl⟩
  have t1 := as_text hI
  have t2 := as_count hI
  have t3 := as_yes hI
  have t4 := as_clauses hI
  have t5 := as_atoms hI
  have t6 := as_provides hI
  simp [asT, asB] at t1 t2 t3 t4 t5 t6
  have hc0 := (Blk.Is.new w 30 #[.iface 3 (.int .i64 n)]).at (i := 0) rfl
  have hB0 : Below w.heap.size w (w.alloc (.cells #[.iface 3 (.int .i64 n)] 30)) := (Below.refl _ _).alloc (Nat.le_refl _) _
  have c := itoa_any n hn _ (hp.on hB0)
  clear hI hp hn
  generalize (⟨(Lib.itoa n).toArray⟩ : ByteArray) = T at *
  go_enter Tryz.func72, Tryz.ntmps72
  go_wp2_with fail
  refine c.mono ?_
  rintro e w1 ⟨rfl, k1⟩
  have b1 := hB0.trans (k1.mono hB0.size)
  clear c k1 hB0 hc0
  go_wp2_with fail
  go_returns
  exact ⟨rfl, b1⟩
set_option maxRecDepth 100000 in
set_option maxHeartbeats 4000000 in
theorem writeM_yes (b : Bool) (w : World) : Calls Tryz.prog 72 #[.agg #[.iface 4 (.bool b)]] w fun e w' => e = .returned (.tuple #[.string (if b then yesT else noT), .bool true]) ∧ Below w.heap.size w w' := by
  have hI : IsI (.iface 4 (.bool b)) := .inr ⟨_, _, rfl⟩
  have t1 := as_text hI
  have t2 := as_count hI
  have t3 := as_yes hI
  have t4 := as_clauses hI
  have t5 := as_atoms hI
  have t6 := as_provides hI
  simp [asT, asB] at t1 t2 t3 t4 t5 t6
  have hc0 := (Blk.Is.new w 30 #[.iface 4 (.bool b)]).at (i := 0) rfl
  have hB0 : Below w.heap.size w (w.alloc (.cells #[.iface 4 (.bool b)] 30)) := (Below.refl _ _).alloc (Nat.le_refl _) _
  have c := writeYes_any b (w.alloc (.cells #[.iface 4 (.bool b)] 30))
  generalize (if b then yesT else noT) = T at *
  clear hI
  go_enter Tryz.func72, Tryz.ntmps72
  go_wp2_with fail
  refine c.mono ?_
  rintro e w1 ⟨rfl, rfl⟩
  clear c hc0
  go_wp2_with fail
  go_returns
  exact ⟨rfl, hB0⟩
set_option maxRecDepth 100000 in
set_option maxHeartbeats 4000000 in
theorem writeM_clauses (v : Value) (l : List (List At)) (w : World) (h : Clss w v l) (hL : LimC l) (hv : Vars w) : Calls Tryz.prog 72 #[.agg #[.iface 22 v]] w fun e w' => e = .returned (.tuple #[.string (S (text l)), .bool (wrB (S (text l)) l.length)]) ∧ Below w.heap.size w w' := by
  obtain ⟨a0, b0, rfl⟩ := h.shape
  have hB1 : Below w.heap.size w (w.alloc (.cells #[.iface 22 (.slice a0 l.length b0)] 30)) := (Below.refl _ _).alloc (Nat.le_refl _) _
  have c := Rl.Text_any _ l _ (h.below hB1) hL (hv.on hB1)
  obtain ⟨N, hN⟩ : ∃ N, l.length = N := ⟨_, rfl⟩
  rw [hN] at c hB1 ⊢
  clear h hL hv hN hB1
  have hI : IsI (.iface 22 (.slice a0 N b0)) := .inr ⟨_, _, rfl⟩
  have t1 := as_text hI
  have t2 := as_count hI
  have t3 := as_yes hI
  have t4 := as_clauses hI
  have t5 := as_atoms hI
  have t6 := as_provides hI
  simp [asT, asB] at t1 t2 t3 t4 t5 t6
  have hc0 := (Blk.Is.new w 30 #[.iface 22 (.slice a0 N b0)]).at (i := 0) rfl
  have hB0 : Below w.heap.size w (w.alloc (.cells #[.iface 22 (.slice a0 N b0)] 30)) := (Below.refl _ _).alloc (Nat.le_refl _) _
  generalize S (text l) = T at *
  have cw := fun w => written_any T N w
  clear hI
  generalize wrB T N = G at *
  go_enter Tryz.func72, Tryz.ntmps72
  go_wp2_with fail
  refine c.mono ?_
  rintro e w1 ⟨rfl, k1⟩
  have b1 := hB0.trans (k1.mono hB0.size)
  clear c k1 hB0 hc0
  go_wp2_with fail
  refine (cw _).mono ?_
  rintro e w2 ⟨rfl, rfl⟩
  clear cw
  go_wp2_with fail
  go_returns
  exact ⟨rfl, b1⟩
set_option maxRecDepth 100000 in
set_option maxHeartbeats 4000000 in
theorem writeM_atoms (v : Value) (l : List At) (w : World) (h : Ats w v l) (hL : LimA l) (hv : Vars w) : Calls Tryz.prog 72 #[.agg #[.iface 23 v]] w fun e w' => e = .returned (.tuple #[.string (S (atoms l)), .bool (wrB (S (atoms l)) l.length)]) ∧ Below w.heap.size w w' := by
  obtain ⟨a0, b0, rfl⟩ := h.shape
  have hB1 : Below w.heap.size w (w.alloc (.cells #[.iface 23 (.slice a0 l.length b0)] 30)) := (Below.refl _ _).alloc (Nat.le_refl _) _
  have c := Rl.Atoms_any _ l _ (h.below hB1) hL (hv.on hB1)
  obtain ⟨N, hN⟩ : ∃ N, l.length = N := ⟨_, rfl⟩
  rw [hN] at c hB1 ⊢
  clear h hL hv hN hB1
  have hI : IsI (.iface 23 (.slice a0 N b0)) := .inr ⟨_, _, rfl⟩
  have t1 := as_text hI
  have t2 := as_count hI
  have t3 := as_yes hI
  have t4 := as_clauses hI
  have t5 := as_atoms hI
  have t6 := as_provides hI
  simp [asT, asB] at t1 t2 t3 t4 t5 t6
  have hc0 := (Blk.Is.new w 30 #[.iface 23 (.slice a0 N b0)]).at (i := 0) rfl
  have hB0 : Below w.heap.size w (w.alloc (.cells #[.iface 23 (.slice a0 N b0)] 30)) := (Below.refl _ _).alloc (Nat.le_refl _) _
  generalize S (atoms l) = T at *
  have cw := fun w => written_any T N w
  clear hI
  generalize wrB T N = G at *
  go_enter Tryz.func72, Tryz.ntmps72
  go_wp2_with fail
  refine c.mono ?_
  rintro e w1 ⟨rfl, k1⟩
  have b1 := hB0.trans (k1.mono hB0.size)
  clear c k1 hB0 hc0
  go_wp2_with fail
  refine (cw _).mono ?_
  rintro e w2 ⟨rfl, rfl⟩
  clear cw
  go_wp2_with fail
  go_returns
  exact ⟨rfl, b1⟩
set_option maxRecDepth 100000 in
set_option maxHeartbeats 4000000 in
theorem writeM_provs (v : Value) (l : List Pv) (w : World) (h : Pvs w v l) (hL : LimP l) (hv : Vars w) : Calls Tryz.prog 72 #[.agg #[.iface 24 v]] w fun e w' => e = .returned (.tuple #[.string (S (provs l)), .bool (wrB (S (provs l)) l.length)]) ∧ Below w.heap.size w w' := by
  obtain ⟨a0, b0, rfl⟩ := h.shape
  have hB1 : Below w.heap.size w (w.alloc (.cells #[.iface 24 (.slice a0 l.length b0)] 30)) := (Below.refl _ _).alloc (Nat.le_refl _) _
  have c := Rl.Provides_any _ l _ (h.below hB1) hL (hv.on hB1)
  obtain ⟨N, hN⟩ : ∃ N, l.length = N := ⟨_, rfl⟩
  rw [hN] at c hB1 ⊢
  clear h hL hv hN hB1
  have hI : IsI (.iface 24 (.slice a0 N b0)) := .inr ⟨_, _, rfl⟩
  have t1 := as_text hI
  have t2 := as_count hI
  have t3 := as_yes hI
  have t4 := as_clauses hI
  have t5 := as_atoms hI
  have t6 := as_provides hI
  simp [asT, asB] at t1 t2 t3 t4 t5 t6
  have hc0 := (Blk.Is.new w 30 #[.iface 24 (.slice a0 N b0)]).at (i := 0) rfl
  have hB0 : Below w.heap.size w (w.alloc (.cells #[.iface 24 (.slice a0 N b0)] 30)) := (Below.refl _ _).alloc (Nat.le_refl _) _
  generalize S (provs l) = T at *
  have cw := fun w => written_any T N w
  clear hI
  generalize wrB T N = G at *
  go_enter Tryz.func72, Tryz.ntmps72
  go_wp2_with fail
  refine c.mono ?_
  rintro e w1 ⟨rfl, k1⟩
  have b1 := hB0.trans (k1.mono hB0.size)
  clear c k1 hB0 hc0
  go_wp2_with fail
  refine (cw _).mono ?_
  rintro e w2 ⟨rfl, rfl⟩
  clear cw
  go_wp2_with fail
  go_returns
  exact ⟨rfl, b1⟩
theorem writeM_any {B : Nat} {iv : Value} {x : Vl} {w : World} (h : VAt B w iv x) (hL : x.Lim) (hv : Vars w) (hp : Pow w) :
    Calls Tryz.prog 72 #[.agg #[iv]] w fun e w' => e = .returned (.tuple #[.string (wrT x), .bool (wrK x)]) ∧ Below w.heap.size w w' := by
  cases x with
  | none => obtain rfl := h; exact writeM_none w
  | text s => obtain rfl := h; exact writeM_text s w
  | count n => obtain rfl := h; exact writeM_count n hL.2.2.2 w hp
  | yes b => obtain rfl := h; exact writeM_yes b w
  | clauses l => obtain ⟨v, rfl, hh⟩ := h; exact writeM_clauses v l w hh.here hL.1 hv
  | atoms l => obtain ⟨v, rfl, hh⟩ := h; exact writeM_atoms v l w hh.here hL.2.1 hv
  | provs l => obtain ⟨v, rfl, hh⟩ := h; exact writeM_provs v l w hh.here hL.2.2.1 hv
set_option maxRecDepth 100000 in
set_option maxHeartbeats 4000000 in
theorem write_any {B : Nat} {iv : Value} {x : Vl} {w : World} (h : VAt B w iv x) (hL : x.Lim) (hv : Vars w) (hp : Pow w) :
    Calls Tryz.prog 32 #[.agg #[iv]] w fun e w' => e = .returned (.tuple #[.string (wrT x), .bool (wrK x)]) ∧ Below w.heap.size w w' := by
  have hb0 := (Blk.Is.new w 30 #[iv]).at (i := 0) rfl
  have hB0 : Below w.heap.size w (w.alloc (.cells #[iv] 30)) := (Below.refl _ _).alloc (Nat.le_refl _) _
  have c := writeM_any (h.below hB0) hL (hv.on hB0) (hp.on hB0)
  generalize wrT x = T at *
  generalize wrK x = G at *
  clear h hL hv hp
  go_enter Tryz.func32, Tryz.ntmps32
  go_wp2_with fail
  refine c.mono ?_
  rintro e w' ⟨rfl, kb⟩
  have k := hB0.trans (kb.mono hB0.size)
  clear kb hB0 hb0 c
  go_wp2_with fail
  go_returns
  exact ⟨rfl, k⟩
end Va
end Go.Proofs.YtapmpdljapbpeaaGreatDoor
namespace Go.Proofs.YtapmpdljapbpeaaGreatDoor
open Go.RowKit
set_option linter.unusedSimpArgs false
set_option linter.unusedVariables false
namespace Va
open Ver (Bs li li_len S S_self S_size S_li)
open Rl (At Pv Ats Pvs Clss Cls Vars LimA LimP LimC text atoms provs pvA wrt wCl wAt)
theorem wCl_one (a : At) : wCl [a] = wAt a := by
  unfold wCl wrt
  rw [if_neg (by simp)]
  by_cases h : wAt a = []
  · rw [if_pos (by simp [h]), h]
  · rw [if_neg (by simp [h]), List.map_cons, List.map_nil, Lib.join_one]
theorem text_singles (l : List At) : text (l.map fun a => [a]) = atoms l := by
  unfold text atoms wrt
  rw [List.length_map, List.map_map, List.any_map]
  have e : (wCl ∘ fun a => [a]) = wAt := by
    funext a
    exact wCl_one a
  have e2 : ((fun x => (wCl x).isEmpty) ∘ fun a => [a]) = fun x => (wAt x).isEmpty := by
    funext a
    show (wCl [a]).isEmpty = _
    rw [wCl_one]
  rw [e, e2]
theorem atoms_pvA (l : List Pv) : atoms (l.map pvA) = provs l := by
  unfold atoms provs wrt
  rw [List.length_map, List.map_map, List.any_map]
  rfl
theorem lim_singles {l : List At} (h : LimA l) : LimC (l.map fun a => [a]) := by
  intro c hc
  obtain ⟨a, ha, rfl⟩ := List.mem_map.1 hc
  intro b hb
  rw [List.mem_singleton.1 hb]
  exact h a ha
theorem lim_pvA {l : List Pv} (h : LimP l) : LimA (l.map pvA) := by
  intro c hc
  obtain ⟨a, ha, rfl⟩ := List.mem_map.1 hc
  exact h a ha
set_option maxRecDepth 100000 in
set_option maxHeartbeats 4000000 in
theorem ywrite_none  (uc ua up : Value) (lc : List (List At)) (la : List At) (lp : List Pv) (w : World) (hC : Clss w uc lc) (hA : Ats w ua la) (hP : Pvs w up lp) :
    Calls Tryz.prog 33 #[.agg #[.string ⟨#[110, 111, 110, 101]⟩, .string ⟨#[]⟩, .int .i64 0, .bool false, uc, ua, up]] w fun e w' => e = .returned (.tuple #[.string ⟨#[]⟩, .bool false]) ∧ Below w.heap.size w w' := by
  obtain ⟨d1, d2, rfl⟩ := hC.shape
  obtain ⟨d3, d4, rfl⟩ := hA.shape
  obtain ⟨d5, d6, rfl⟩ := hP.shape
  clear hC hA hP
  go_enter Tryz.func33, Tryz.ntmps33
  go_wp2_with fail
  go_returns
  exact ⟨rfl, (Below.refl _ _).alloc (Nat.le_refl _) _⟩
set_option maxRecDepth 100000 in
set_option maxHeartbeats 4000000 in
theorem ywrite_text (s : ByteArray) (uc ua up : Value) (lc : List (List At)) (la : List At) (lp : List Pv) (w : World) (hC : Clss w uc lc) (hA : Ats w ua la) (hP : Pvs w up lp) :
    Calls Tryz.prog 33 #[.agg #[.string ⟨#[116, 101, 120, 116]⟩, .string s, .int .i64 0, .bool false, uc, ua, up]] w fun e w' => e = .returned (.tuple #[.string s, .bool true]) ∧ Below w.heap.size w w' := by
  obtain ⟨d1, d2, rfl⟩ := hC.shape
  obtain ⟨d3, d4, rfl⟩ := hA.shape
  obtain ⟨d5, d6, rfl⟩ := hP.shape
  clear hC hA hP
  go_enter Tryz.func33, Tryz.ntmps33
  go_wp2_with fail
  go_returns
  exact ⟨rfl, (Below.refl _ _).alloc (Nat.le_refl _) _⟩
set_option maxRecDepth 100000 in
set_option maxHeartbeats 4000000 in
theorem ywrite_count (n : Int) (hn : (Lit.int .i64 n).wf = true) (uc ua up : Value) (lc : List (List At)) (la : List At) (lp : List Pv) (w : World) (hC : Clss w uc lc) (hA : Ats w ua la) (hP : Pvs w up lp) (hp : Pow w) :
    Calls Tryz.prog 33 #[.agg #[.string ⟨#[99, 111, 117, 110, 116]⟩, .string ⟨#[]⟩, .int .i64 n, .bool false, uc, ua, up]] w fun e w' => e = .returned (.tuple #[.string ⟨(Lib.itoa n).toArray⟩, .bool true]) ∧ Below w.heap.size w w' := by
  obtain ⟨d1, d2, rfl⟩ := hC.shape
  obtain ⟨d3, d4, rfl⟩ := hA.shape
  obtain ⟨d5, d6, rfl⟩ := hP.shape
  have i0 := Blk.Is.new w 32 #[.string ⟨#[99, 111, 117, 110, 116]⟩, .string ⟨#[]⟩, .int .i64 n, .bool false, .slice d1 lc.length d2, .slice d3 la.length d4, .slice d5 lp.length d6]
  have hB0 : Below w.heap.size w (w.alloc (.cells #[.string ⟨#[99, 111, 117, 110, 116]⟩, .string ⟨#[]⟩, .int .i64 n, .bool false, .slice d1 lc.length d2, .slice d3 la.length d4, .slice d5 lp.length d6] 32)) := (Below.refl _ _).alloc (Nat.le_refl _) _
  have c := itoa_any n hn _ (hp.on hB0)
  clear hC hA hP i0 hp hn
  generalize (⟨(Lib.itoa n).toArray⟩ : ByteArray) = T at *
  go_enter Tryz.func33, Tryz.ntmps33
  go_wp2_with fail
  refine c.mono ?_
  rintro e w1 ⟨rfl, k1⟩
  have b1 := hB0.trans (k1.mono hB0.size)
  clear c k1 hB0
  go_wp2_with fail
  go_returns
  exact ⟨rfl, b1⟩
set_option maxRecDepth 100000 in
set_option maxHeartbeats 4000000 in
theorem ywrite_yes_true (uc ua up : Value) (lc : List (List At)) (la : List At) (lp : List Pv) (w : World) (hC : Clss w uc lc) (hA : Ats w ua la) (hP : Pvs w up lp) :
    Calls Tryz.prog 33 #[.agg #[.string ⟨#[121, 101, 115]⟩, .string ⟨#[]⟩, .int .i64 0, .bool true, uc, ua, up]] w fun e w' => e = .returned (.tuple #[.string yesT, .bool true]) ∧ Below w.heap.size w w' := by
  obtain ⟨d1, d2, rfl⟩ := hC.shape
  obtain ⟨d3, d4, rfl⟩ := hA.shape
  obtain ⟨d5, d6, rfl⟩ := hP.shape
  clear hC hA hP
  unfold yesT
  go_enter Tryz.func33, Tryz.ntmps33
  go_wp2_with fail
  go_returns
  exact ⟨rfl, (Below.refl _ _).alloc (Nat.le_refl _) _⟩
set_option maxRecDepth 100000 in
set_option maxHeartbeats 4000000 in
theorem ywrite_yes_false (uc ua up : Value) (lc : List (List At)) (la : List At) (lp : List Pv) (w : World) (hC : Clss w uc lc) (hA : Ats w ua la) (hP : Pvs w up lp) :
    Calls Tryz.prog 33 #[.agg #[.string ⟨#[121, 101, 115]⟩, .string ⟨#[]⟩, .int .i64 0, .bool false, uc, ua, up]] w fun e w' => e = .returned (.tuple #[.string noT, .bool true]) ∧ Below w.heap.size w w' := by
  obtain ⟨d1, d2, rfl⟩ := hC.shape
  obtain ⟨d3, d4, rfl⟩ := hA.shape
  obtain ⟨d5, d6, rfl⟩ := hP.shape
  clear hC hA hP
  unfold noT
  go_enter Tryz.func33, Tryz.ntmps33
  go_wp2_with fail
  go_returns
  exact ⟨rfl, (Below.refl _ _).alloc (Nat.le_refl _) _⟩
set_option maxRecDepth 100000 in
set_option maxHeartbeats 4000000 in
theorem ywrite_clauses (uc ua up : Value) (lc : List (List At)) (la : List At) (lp : List Pv) (w : World) (hC : Clss w uc lc) (hA : Ats w ua la) (hP : Pvs w up lp) (hL : LimC lc) :
    Calls Tryz.prog 33 #[.agg #[.string ⟨#[99, 108, 97, 117, 115, 101, 115]⟩, .string ⟨#[]⟩, .int .i64 0, .bool false, uc, ua, up]] w fun e w' => e = .returned (.tuple #[.string (S (text lc)), .bool (wrB (S (text lc)) lc.length)]) ∧ Below w.heap.size w w' := by
  obtain ⟨d1, d2, rfl⟩ := hC.shape
  obtain ⟨d3, d4, rfl⟩ := hA.shape
  obtain ⟨d5, d6, rfl⟩ := hP.shape
  have hB1 : Below w.heap.size w (w.alloc (.cells #[.string ⟨#[99, 108, 97, 117, 115, 101, 115]⟩, .string ⟨#[]⟩, .int .i64 0, .bool false, .slice d1 lc.length d2, .slice d3 la.length d4, .slice d5 lp.length d6] 32)) := (Below.refl _ _).alloc (Nat.le_refl _) _
  have c1 := Rl.ytext_any _ lc _ (hC.below hB1) hL
  obtain ⟨N, hN⟩ : ∃ N, lc.length = N := ⟨_, rfl⟩
  obtain ⟨T, hT⟩ : ∃ T, S (text lc) = T := ⟨_, rfl⟩
  obtain ⟨G, hG⟩ : ∃ G, wrB T N = G := ⟨_, rfl⟩
  rw [hT, hN, hG]
  have HG := Lib.hid hG
  have HN := Lib.hid hN
  simp only [hN] at c1 hB1
  simp only [hT] at c1
  clear hC hA hP hL hT hN hG
  have i0 := Blk.Is.new w 32 #[.string ⟨#[99, 108, 97, 117, 115, 101, 115]⟩, .string ⟨#[]⟩, .int .i64 0, .bool false, .slice d1 N d2, .slice d3 la.length d4, .slice d5 lp.length d6]
  go_enter Tryz.func33, Tryz.ntmps33
  go_wp2_with fail
  refine c1.mono ?_
  rintro e w1 ⟨rfl, k1⟩
  have i0 := Rl.is_on i0 k1
  have b1 := hB1.trans (k1.mono hB1.size)
  clear c1 k1 hB1
  have b9 := b1
  clear b1
  have v4 := i0.at (i := 4) rfl
  clear i0
  have HP := Lib.hid b9
  clear b9
  by_cases h1 : T.toList = []
  · have e1 : (T.toList == []) = true := by rw [h1]; rfl
    by_cases h2 : N = 0
    · subst h2
      rw [show wrB T 0 = true by unfold wrB; rw [e1]; rfl] at HG
      obtain rfl := HG.out
      clear h1 HG
      go_wp2_with fail
      go_quiet (fail)
      go_wp2_with fail
      go_returns
      exact ⟨rfl, HP.out.trans ((below_drewN _ _).mono HP.out.size)⟩
    · have e2 : ((N : Int) == 0) = false := by simp [h2]
      rw [show wrB T N = false by unfold wrB; rw [e1, decide_eq_false h2]; rfl] at HG
      obtain rfl := HG.out
      clear h1 h2 HG
      go_wp2_with fail
      go_quiet (fail)
      go_wp2_with fail
      go_returns
      exact ⟨rfl, HP.out.trans ((below_drewN _ _).mono HP.out.size)⟩
  · have e1 : (T.toList == []) = false := beq_eq_false_iff_ne.2 h1
    rw [show wrB T N = true by unfold wrB; rw [e1]; rfl] at HG
    obtain rfl := HG.out
    clear h1 HG
    go_wp2_with fail
    go_quiet (fail)
    go_wp2_with fail
    go_returns
    exact ⟨rfl, HP.out.trans ((below_drewN _ _).mono HP.out.size)⟩
set_option maxRecDepth 100000 in
set_option maxHeartbeats 4000000 in
theorem ywrite_atoms (uc ua up : Value) (lc : List (List At)) (la : List At) (lp : List Pv) (w : World) (hC : Clss w uc lc) (hA : Ats w ua la) (hP : Pvs w up lp) (hL : LimA la) (hl : la.length ≤ 30) :
    Calls Tryz.prog 33 #[.agg #[.string ⟨#[97, 116, 111, 109, 115]⟩, .string ⟨#[]⟩, .int .i64 0, .bool false, uc, ua, up]] w fun e w' => e = .returned (.tuple #[.string (S (atoms la)), .bool (wrB (S (atoms la)) la.length)]) ∧ Below w.heap.size w w' := by
  obtain ⟨d1, d2, rfl⟩ := hC.shape
  obtain ⟨d3, d4, rfl⟩ := hA.shape
  obtain ⟨d5, d6, rfl⟩ := hP.shape
  have hB1 : Below w.heap.size w (w.alloc (.cells #[.string ⟨#[97, 116, 111, 109, 115]⟩, .string ⟨#[]⟩, .int .i64 0, .bool false, .slice d1 lc.length d2, .slice d3 la.length d4, .slice d5 lp.length d6] 32)) := (Below.refl _ _).alloc (Nat.le_refl _) _
  have c1 := Rl.singles_any _ la _ (hA.below hB1) hl
  have c2 := fun v w (h : Clss w v (la.map fun a => [a])) => Rl.ytext_any v _ w h (lim_singles hL)
  rw [text_singles] at c2
  obtain ⟨N, hN⟩ : ∃ N, la.length = N := ⟨_, rfl⟩
  obtain ⟨T, hT⟩ : ∃ T, S (atoms la) = T := ⟨_, rfl⟩
  obtain ⟨G, hG⟩ : ∃ G, wrB T N = G := ⟨_, rfl⟩
  rw [hT, hN, hG]
  have HG := Lib.hid hG
  have HN := Lib.hid hN
  simp only [hN] at c1 hB1
  simp only [hT] at c2
  clear hC hA hP hL hT hN hG hl
  have i0 := Blk.Is.new w 32 #[.string ⟨#[97, 116, 111, 109, 115]⟩, .string ⟨#[]⟩, .int .i64 0, .bool false, .slice d1 lc.length d2, .slice d3 N d4, .slice d5 lp.length d6]
  go_enter Tryz.func33, Tryz.ntmps33
  go_wp2_with fail
  refine c1.mono ?_
  rintro e w1 ⟨v1, rfl, h1, k1⟩
  have i0 := Rl.is_on i0 k1
  have b1 := hB1.trans (k1.mono hB1.size)
  have c3 := c2 _ _ h1
  obtain ⟨a1, a2, e1⟩ := h1.shape
  rw [List.length_map, HN.out] at e1
  subst e1
  clear c1 c2 k1 hB1 h1
  go_wp2_with fail
  refine c3.mono ?_
  rintro e w2 ⟨rfl, k2⟩
  have i0 := Rl.is_on i0 k2
  have b2 := b1.trans (k2.mono b1.size)
  clear c3 k2 b1
  have b9 := b2
  clear b2
  have v4 := i0.at (i := 5) rfl
  clear i0
  have HP := Lib.hid b9
  clear b9
  by_cases h1 : T.toList = []
  · have e1 : (T.toList == []) = true := by rw [h1]; rfl
    by_cases h2 : N = 0
    · subst h2
      rw [show wrB T 0 = true by unfold wrB; rw [e1]; rfl] at HG
      obtain rfl := HG.out
      clear h1 HG
      go_wp2_with fail
      go_quiet (fail)
      go_wp2_with fail
      go_returns
      exact ⟨rfl, HP.out.trans ((below_drewN _ _).mono HP.out.size)⟩
    · have e2 : ((N : Int) == 0) = false := by simp [h2]
      rw [show wrB T N = false by unfold wrB; rw [e1, decide_eq_false h2]; rfl] at HG
      obtain rfl := HG.out
      clear h1 h2 HG
      go_wp2_with fail
      go_quiet (fail)
      go_wp2_with fail
      go_returns
      exact ⟨rfl, HP.out.trans ((below_drewN _ _).mono HP.out.size)⟩
  · have e1 : (T.toList == []) = false := beq_eq_false_iff_ne.2 h1
    rw [show wrB T N = true by unfold wrB; rw [e1]; rfl] at HG
    obtain rfl := HG.out
    clear h1 HG
    go_wp2_with fail
    go_quiet (fail)
    go_wp2_with fail
    go_returns
    exact ⟨rfl, HP.out.trans ((below_drewN _ _).mono HP.out.size)⟩
set_option maxRecDepth 100000 in
set_option maxHeartbeats 4000000 in
theorem ywrite_provs (uc ua up : Value) (lc : List (List At)) (la : List At) (lp : List Pv) (w : World) (hC : Clss w uc lc) (hA : Ats w ua la) (hP : Pvs w up lp) (hL : LimP lp) (hl : lp.length ≤ 30) :
    Calls Tryz.prog 33 #[.agg #[.string ⟨#[112, 114, 111, 118, 105, 100, 101, 115]⟩, .string ⟨#[]⟩, .int .i64 0, .bool false, uc, ua, up]] w fun e w' => e = .returned (.tuple #[.string (S (provs lp)), .bool (wrB (S (provs lp)) lp.length)]) ∧ Below w.heap.size w w' := by
  obtain ⟨d1, d2, rfl⟩ := hC.shape
  obtain ⟨d3, d4, rfl⟩ := hA.shape
  obtain ⟨d5, d6, rfl⟩ := hP.shape
  have hB1 : Below w.heap.size w (w.alloc (.cells #[.string ⟨#[112, 114, 111, 118, 105, 100, 101, 115]⟩, .string ⟨#[]⟩, .int .i64 0, .bool false, .slice d1 lc.length d2, .slice d3 la.length d4, .slice d5 lp.length d6] 32)) := (Below.refl _ _).alloc (Nat.le_refl _) _
  have c0 := Rl.provided_any _ lp _ (hP.below hB1) hl
  have c1 := fun v w (h : Ats w v (lp.map pvA)) => Rl.singles_any v _ w h (by rw [List.length_map]; exact hl)
  have c2 := fun v w (h : Clss w v ((lp.map pvA).map fun a => [a])) => Rl.ytext_any v _ w h (lim_singles (lim_pvA hL))
  rw [text_singles, atoms_pvA] at c2
  obtain ⟨N, hN⟩ : ∃ N, lp.length = N := ⟨_, rfl⟩
  obtain ⟨T, hT⟩ : ∃ T, S (provs lp) = T := ⟨_, rfl⟩
  obtain ⟨G, hG⟩ : ∃ G, wrB T N = G := ⟨_, rfl⟩
  rw [hT, hN, hG]
  have HG := Lib.hid hG
  have HN := Lib.hid hN
  simp only [hN] at c0 hB1
  simp only [hT] at c2
  clear hC hA hP hL hT hN hG hl
  have i0 := Blk.Is.new w 32 #[.string ⟨#[112, 114, 111, 118, 105, 100, 101, 115]⟩, .string ⟨#[]⟩, .int .i64 0, .bool false, .slice d1 lc.length d2, .slice d3 la.length d4, .slice d5 N d6]
  go_enter Tryz.func33, Tryz.ntmps33
  go_wp2_with fail
  refine c0.mono ?_
  rintro e w1 ⟨v0, rfl, h0, k1⟩
  have i0 := Rl.is_on i0 k1
  have b1 := hB1.trans (k1.mono hB1.size)
  have c3 := c1 _ _ h0
  obtain ⟨a1, a2, e1⟩ := h0.shape
  rw [List.length_map, HN.out] at e1
  subst e1
  clear c0 c1 k1 hB1 h0
  go_wp2_with fail
  refine c3.mono ?_
  rintro e w2 ⟨v1, rfl, h1, k2⟩
  have i0 := Rl.is_on i0 k2
  have b2 := b1.trans (k2.mono b1.size)
  have c4 := c2 _ _ h1
  obtain ⟨a3, a4, e2⟩ := h1.shape
  rw [List.length_map, List.length_map, HN.out] at e2
  subst e2
  clear c3 c2 k2 b1 h1
  go_wp2_with fail
  refine c4.mono ?_
  rintro e w3 ⟨rfl, k3⟩
  have i0 := Rl.is_on i0 k3
  have b3 := b2.trans (k3.mono b2.size)
  clear c4 k3 b2
  have b9 := b3
  clear b3
  have v4 := i0.at (i := 6) rfl
  clear i0
  have HP := Lib.hid b9
  clear b9
  by_cases h1 : T.toList = []
  · have e1 : (T.toList == []) = true := by rw [h1]; rfl
    by_cases h2 : N = 0
    · subst h2
      rw [show wrB T 0 = true by unfold wrB; rw [e1]; rfl] at HG
      obtain rfl := HG.out
      clear h1 HG
      go_wp2_with fail
      go_quiet (fail)
      go_wp2_with fail
      go_returns
      exact ⟨rfl, HP.out.trans ((below_drewN _ _).mono HP.out.size)⟩
    · have e2 : ((N : Int) == 0) = false := by simp [h2]
      rw [show wrB T N = false by unfold wrB; rw [e1, decide_eq_false h2]; rfl] at HG
      obtain rfl := HG.out
      clear h1 h2 HG
      go_wp2_with fail
      go_quiet (fail)
      go_wp2_with fail
      go_returns
      exact ⟨rfl, HP.out.trans ((below_drewN _ _).mono HP.out.size)⟩
  · have e1 : (T.toList == []) = false := beq_eq_false_iff_ne.2 h1
    rw [show wrB T N = true by unfold wrB; rw [e1]; rfl] at HG
    obtain rfl := HG.out
    clear h1 HG
    go_wp2_with fail
    go_quiet (fail)
    go_wp2_with fail
    go_returns
    exact ⟨rfl, HP.out.trans ((below_drewN _ _).mono HP.out.size)⟩
theorem ywrite_any {rv : Value} {x : Vl} {w : World} (h : YAt w rv x) (hL : x.Lim) (hs : x.ats.length ≤ 30 ∧ x.pvs.length ≤ 30) (hp : Pow w) :
    Calls Tryz.prog 33 #[rv] w fun e w' => e = .returned (.tuple #[.string (wrT x), .bool (wrK x)]) ∧ Below w.heap.size w w' := by
  obtain ⟨uc, ua, up, rfl, hC, hA, hP⟩ := h
  cases x with
  | none => exact ywrite_none _ _ _ _ _ _ w hC hA hP
  | text s => exact ywrite_text s _ _ _ _ _ _ w hC hA hP
  | count n => exact ywrite_count n hL.2.2.2 _ _ _ _ _ _ w hC hA hP hp
  | yes b =>
    cases b with
    | true => exact ywrite_yes_true _ _ _ _ _ _ w hC hA hP
    | false => exact ywrite_yes_false _ _ _ _ _ _ w hC hA hP
  | clauses l => exact ywrite_clauses _ _ _ _ _ _ w hC hA hP hL.1
  | atoms l => exact ywrite_atoms _ _ _ _ _ _ w hC hA hP hL.2.1 hs.1
  | provs l => exact ywrite_provs _ _ _ _ _ _ w hC hA hP hL.2.2.1 hs.2
end Va
end Go.Proofs.YtapmpdljapbpeaaGreatDoor

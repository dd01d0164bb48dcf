/-
made: a value of any kind, as the package has it and as the reference has it. What is told of a value that lies in memory, in terms of the value: its kind, what it is as each kind. light: not too many.
-/
import Derived.Test.YtapmpdljapbpeaaGreatDoorValLists
import Derived.Test.YtapmpdljapbpeaaGreatDoorReg
import Derived.Test.YtapmpdljapbpeaaGreatDoorRegT
import Derived.OrdersHeld
namespace Go.Proofs.YtapmpdljapbpeaaGreatDoor
open Go.RowKit
set_option linter.unusedSimpArgs false
set_option linter.unusedVariables false
namespace Va
open Ver (Bs li li_len S S_size S_li)
open Rl (At Pv Ats Pvs Clss Cls own_clss own_ats own_pvs LimA LimP LimC)
def Vl.kind : Vl → ByteArray
  | .none => ⟨#[110, 111, 110, 101]⟩
  | .text _ => ⟨#[116, 101, 120, 116]⟩
  | .count _ => ⟨#[99, 111, 117, 110, 116]⟩
  | .yes _ => ⟨#[121, 101, 115]⟩
  | .clauses _ => ⟨#[99, 108, 97, 117, 115, 101, 115]⟩
  | .atoms _ => ⟨#[97, 116, 111, 109, 115]⟩
  | .provs _ => ⟨#[112, 114, 111, 118, 105, 100, 101, 115]⟩
def Vl.txt : Vl → ByteArray
  | .text s => s
  | _ => ⟨#[]⟩
def Vl.cnt : Vl → Int
  | .count n => n
  | _ => 0
def Vl.ye : Vl → Bool
  | .yes b => b
  | _ => false
def Vl.cls : Vl → List (List At)
  | .clauses l => l
  | _ => []
def Vl.ats : Vl → List At
  | .atoms l => l
  | _ => []
def Vl.pvs : Vl → List Pv
  | .provs l => l
  | _ => []
/-- The reference's value. -/
def YAt (w : World) (rv : Value) (x : Vl) : Prop := ∃ uc ua up, rv = .agg #[.string x.kind, .string x.txt, .int .i64 x.cnt, .bool x.ye, uc, ua, up] ∧ Clss w uc x.cls ∧ Ats w ua x.ats ∧ Pvs w up x.pvs
theorem below_row {B : Nat} {a w : World} (h : Below B a w) {g : Nat} (hg : B ≤ g) (cs : Array Value) : Below B a (w.setRow g cs) :=
  h.trans ⟨rfl, rfl, rfl, by simp, fun k hk => setRow_other w g k _ (by omega)⟩
/-- What a value as data holds. -/
def Has (w : World) (vc va vp : Value) (lc : List (List At)) (la : List At) (lp : List Pv) : Prop :=
  (Clss w vc lc ∧ lc.length ≤ 30 ∧ ∀ c ∈ lc, c.length ≤ 30) ∧ (Ats w va la ∧ la.length ≤ 30) ∧ (Pvs w vp lp ∧ lp.length ≤ 30)
theorem Has.below {w w' : World} {vc va vp : Value} {lc : List (List At)} {la : List At} {lp : List Pv} (h : Has w vc va vp lc la lp) (hb : Below w.heap.size w w') : Has w' vc va vp lc la lp :=
  ⟨⟨h.1.1.below hb, h.1.2⟩, ⟨h.2.1.1.below hb, h.2.1.2⟩, ⟨h.2.2.1.below hb, h.2.2.2⟩⟩
theorem nilC (w : World) : Clss w (.slice none 0 0) [] := Rl.Slc.none _ _ _ _
theorem nilA (w : World) : Ats w (.slice none 0 0) [] := Rl.Slc.none _ _ _ _
theorem nilP (w : World) : Pvs w (.slice none 0 0) [] := Rl.Slc.none _ _ _ _
/-- Three new blocks. -/
theorem three_new (w : World) (T1 T2 T3 : TypeId) (C1 C2 C3 : Array Value) : ∃ W, ((w.alloc (.cells C1 T1)).alloc (.cells C2 T2)).alloc (.cells C3 T3) = W ∧ Below w.heap.size w W ∧ W.heap.size = w.heap.size + 3 ∧ Blk.Is W w.heap.size T1 C1 ∧ Blk.Is W (w.heap.size + 1) T2 C2 ∧ Blk.Is W (w.heap.size + 1 + 1) T3 C3 := by
  have s1 : (w.alloc (.cells C1 T1)).heap.size = w.heap.size + 1 := by simp
  have s2 : ((w.alloc (.cells C1 T1)).alloc (.cells C2 T2)).heap.size = w.heap.size + 1 + 1 := by simp
  have i1 := Blk.Is.new w T1 C1
  have i2 := Blk.Is.new (w.alloc (.cells C1 T1)) T2 C2
  have i3 := Blk.Is.new ((w.alloc (.cells C1 T1)).alloc (.cells C2 T2)) T3 C3
  rw [s1] at i2
  rw [s2] at i3
  exact ⟨_, rfl, (((Below.refl _ _).alloc (Nat.le_refl _) _).alloc (by omega) _).alloc (by omega) _, by simp, (i1.alloc _).alloc _, i2.alloc _, i3⟩
set_option maxRecDepth 100000 in
set_option maxHeartbeats 4000000 in
theorem made_text (s : ByteArray) (n : Int) (b : Bool) (vc va vp : Value) (lc : List (List At)) (la : List At) (lp : List Pv) (w : World) (hH : Has w vc va vp lc la lp) :
    Calls Tryz.prog 10 #[.agg #[.int .i64 1, .string s, .int .i64 n, .bool b, vc, va, vp]] w fun e w' => ∃ iv rv, e = .returned (.tuple #[.agg #[iv], rv]) ∧ VAt w.heap.size w' iv (.text s) ∧ YAt w' rv (.text s) ∧ Below w.heap.size w w' := by
  obtain ⟨ac, cc, e4⟩ := hH.1.1.shape
  obtain ⟨aa, ca, e5⟩ := hH.2.1.1.shape
  obtain ⟨ap, cp, e6⟩ := hH.2.2.1.shape
  subst e4 e5 e6
  obtain ⟨W, hW, hB, hsz, hA, hV, hY⟩ := three_new w 26 30 32 #[.int .i64 1, .string s, .int .i64 n, .bool b, .slice ac lc.length cc, .slice aa la.length ca, .slice ap lp.length cp] #[.nilIface] #[.string ⟨#[]⟩, .string ⟨#[]⟩, .int .i64 0, .bool false, .slice none 0 0, .slice none 0 0, .slice none 0 0]
  have HH := Lib.hid (hH.below hB)
  have H0 := Lib.hid hH
  clear hH
  go_enter Tryz.func10, Tryz.ntmps10
  have hk : W.cell? ⟨w.heap.size, 0, none⟩ = some (.int .i64 1) := hA.at (i := 0) rfl
  go_wp2_with fail
  clear hW hk
  refine wp_region_held (S := fun u => Blk.Is u w.heap.size 26 #[.int .i64 1, .string s, .int .i64 n, .bool b, .slice ac lc.length cc, .slice aa la.length ca, .slice ap lp.length cp]) (by kernel_rfl) ?_
  have hS0 : Blk.Is W.drew w.heap.size 26 #[.int .i64 1, .string s, .int .i64 n, .bool b, .slice ac lc.length cc, .slice aa la.length ca, .slice ap lp.length cp] := hA
  have hV0 : Blk.Is W.drew (w.heap.size + 1) 30 #[.nilIface] := hV
  have hY0 : Blk.Is W.drew (w.heap.size + 1 + 1) 32 #[.string ⟨#[]⟩, .string ⟨#[]⟩, .int .i64 0, .bool false, .slice none 0 0, .slice none 0 0, .slice none 0 0] := hY
  have hB0 : Below w.heap.size w W.drew := hB.drew
  have hs0 : W.drew.heap.size = w.heap.size + 3 := hsz
  have hD : Below W.heap.size W W.drew := (Below.refl _ _).drew
  have HH0 := Lib.hid (HH.out.below hD)
  clear hA hV hY hB hsz hD HH
  change wpAnyH _ _ _ _ _ 8 _ _ W.drew
  generalize W.drew = u0 at *
  refine wpAnyH_take (i := 0) (v := .pointer (some ⟨w.heap.size, 1, none⟩)) rfl (by kernel_rfl) (by kernel_rfl) (by kernel_rfl) (fun _ _ _ h => h) (.inl ⟨rfl, fun w _ => rfl⟩) hS0 ?_
  simp only [Act.put, List.getElem_toArray, List.getElem_cons_zero, List.getElem_cons_succ, List.setIfInBounds_toArray, List.set_cons_zero, List.set_cons_succ]
  refine wpAnyH_take (i := 1) (v := .string s) rfl (by kernel_rfl) (by kernel_rfl) (by kernel_rfl) (fun _ _ _ h => h) (Reg.yields_load_one rfl 9 _ rfl w.heap.size 1 rfl (.string s) (fun x hx => hx.at rfl) Tryz.isAgg9) hS0 ?_
  simp only [Act.put, List.getElem_toArray, List.getElem_cons_zero, List.getElem_cons_succ, List.setIfInBounds_toArray, List.set_cons_zero, List.set_cons_succ]
  refine wpAnyH_take (i := 3) (v := .pointer (some ⟨w.heap.size, 1, none⟩)) rfl (by kernel_rfl) (by kernel_rfl) (by kernel_rfl) (fun _ _ _ h => h) (.inl ⟨rfl, fun w _ => rfl⟩) hS0 ?_
  simp only [Act.put, List.getElem_toArray, List.getElem_cons_zero, List.getElem_cons_succ, List.setIfInBounds_toArray, List.set_cons_zero, List.set_cons_succ]
  refine wpAnyH_take (i := 4) (v := .string s) rfl (by kernel_rfl) (by kernel_rfl) (by kernel_rfl) (fun _ _ _ h => h) (Reg.yields_load_one rfl 9 _ rfl w.heap.size 1 rfl (.string s) (fun x hx => hx.at rfl) Tryz.isAgg9) hS0 ?_
  simp only [Act.put, List.getElem_toArray, List.getElem_cons_zero, List.getElem_cons_succ, List.setIfInBounds_toArray, List.set_cons_zero, List.set_cons_succ]
  refine wpAnyH_take (i := 5) (v := .agg #[.string ⟨#[116, 101, 120, 116]⟩, .string s, .int .i64 0, .bool false, .slice none 0 0, .slice none 0 0, .slice none 0 0]) rfl (by kernel_rfl) (by kernel_rfl) (by kernel_rfl) (fun _ _ _ h => h) (.inl ⟨rfl, fun w _ => by kernel_rfl⟩) hS0 ?_
  simp only [Act.put, List.getElem_toArray, List.getElem_cons_zero, List.getElem_cons_succ, List.setIfInBounds_toArray, List.set_cons_zero, List.set_cons_succ]
  have cx := ofText_any (.string s) u0
  refine wpAnyH_all (rs := [2]) (by kernel_rfl) (by simp) ?_
  intro i hi
  obtain rfl := List.mem_singleton.1 hi
  refine Reg.wpOp_list rfl ?_
  go_wp2_with fail
  refine cx.mono ?_
  rintro e u1 ⟨rfl, k1⟩
  have hS1 : Blk.Is u1 w.heap.size 26 #[.int .i64 1, .string s, .int .i64 n, .bool b, .slice ac lc.length cc, .slice aa la.length ca, .slice ap lp.length cp] := (k1.block _ (by omega)).trans hS0
  have hV1 : Blk.Is u1 (w.heap.size + 1) 30 #[.nilIface] := (k1.block _ (by omega)).trans hV0
  have hY1 : Blk.Is u1 (w.heap.size + 1 + 1) 32 #[.string ⟨#[]⟩, .string ⟨#[]⟩, .int .i64 0, .bool false, .slice none 0 0, .slice none 0 0, .slice none 0 0] := (k1.block _ (by omega)).trans hY0
  have hB1 := hB0.trans (k1.mono (by omega))
  have hva : VAt u0.heap.size u1 (.iface 9 (.string s)) (.text s) := rfl
  have HA := Lib.hid hva
  have hc1 := hV1.at (i := 0) rfl
  have hf1 := hV1.free 0
  clear cx k1 hS0 hV0 hY0 hB0 hva
  go_wp2_with fail
  change _ ∧ _
  refine ⟨hS1, ?_⟩
  refine wpAnyH_all (rs := [6]) (by kernel_rfl) (by simp) ?_
  intro i hi
  obtain rfl := List.mem_singleton.1 hi
  refine Reg.wpOp_list rfl ?_
  go_wp2_with fail
  change _ ∧ _
  have hS2 : Blk.Is (u1.setCell ⟨w.heap.size + 1, 0, none⟩ (.iface 9 (.string s))) w.heap.size 26 #[.int .i64 1, .string s, .int .i64 n, .bool b, .slice ac lc.length cc, .slice aa la.length ca, .slice ap lp.length cp] := hS1.setOther _ (by simp)
  refine ⟨hS2, ?_⟩
  have hV2 := hV1.set 0 (.iface 9 (.string s))
  have hY2 : Blk.Is (u1.setCell ⟨w.heap.size + 1, 0, none⟩ (.iface 9 (.string s))) (w.heap.size + 1 + 1) 32 #[.string ⟨#[]⟩, .string ⟨#[]⟩, .int .i64 0, .bool false, .slice none 0 0, .slice none 0 0, .slice none 0 0] := hY1.setOther _ (by simp)
  have hB2 : Below w.heap.size w (u1.setCell ⟨w.heap.size + 1, 0, none⟩ (.iface 9 (.string s))) := hB1.setCell (Nat.le_succ _) _
  have HA2 := Lib.hid (HA.out.on ((Blk.Chg.refl _ u1).setAt (b := w.heap.size + 1) (o := 0) (u := .iface 9 (.string s)) (show w.heap.size + 1 < u0.heap.size by omega)))
  clear hS1 hV1 hY1 hB1 HA hc1 hf1
  generalize u1.setCell ⟨w.heap.size + 1, 0, none⟩ (.iface 9 (.string s)) = u2 at *
  have hi7 : (Tryz.prog.info? 32).map (·.size) = some 7 := by kernel_rfl
  refine wpAnyH_all (rs := [7]) (by kernel_rfl) (by simp) ?_
  intro i hi
  obtain rfl := List.mem_singleton.1 hi
  refine Reg.wpOp_list rfl ?_
  refine wpList_store_row rfl 32 (.tmp 3) (.tmp 13) rfl (w.heap.size + 1 + 1) #[.string ⟨#[116, 101, 120, 116]⟩, .string s, .int .i64 0, .bool false, .slice none 0 0, .slice none 0 0, .slice none 0 0] rfl rfl 32 #[.string ⟨#[]⟩, .string ⟨#[]⟩, .int .i64 0, .bool false, .slice none 0 0, .slice none 0 0, .slice none 0 0] hY2 hi7 (by rfl) (by simp [Value.oneCell']) ?_
  have hV3 : Blk.Is (u2.setRow (w.heap.size + 1 + 1) #[.string ⟨#[116, 101, 120, 116]⟩, .string s, .int .i64 0, .bool false, .slice none 0 0, .slice none 0 0, .slice none 0 0]) (w.heap.size + 1) 30 #[.iface 9 (.string s)] := hV2.rowOther _ (by omega)
  have hY3 : Blk.Is (u2.setRow (w.heap.size + 1 + 1) #[.string ⟨#[116, 101, 120, 116]⟩, .string s, .int .i64 0, .bool false, .slice none 0 0, .slice none 0 0, .slice none 0 0]) (w.heap.size + 1 + 1) 32 #[.string ⟨#[116, 101, 120, 116]⟩, .string s, .int .i64 0, .bool false, .slice none 0 0, .slice none 0 0, .slice none 0 0] := hY2.row _
  have hB3 : Below w.heap.size w (u2.setRow (w.heap.size + 1 + 1) #[.string ⟨#[116, 101, 120, 116]⟩, .string s, .int .i64 0, .bool false, .slice none 0 0, .slice none 0 0, .slice none 0 0]) := below_row hB2 (by omega) _
  have HA3 := Lib.hid ((HA2.out.on ((Blk.Chg.refl _ u2).setRow (S := fun k => k < u0.heap.size) (g := w.heap.size + 1 + 1) (show w.heap.size + 1 + 1 < u0.heap.size by omega) #[.string ⟨#[116, 101, 120, 116]⟩, .string s, .int .i64 0, .bool false, .slice none 0 0, .slice none 0 0, .slice none 0 0])).mono (show w.heap.size ≤ u0.heap.size by omega))
  have hS3 : Blk.Is (u2.setRow (w.heap.size + 1 + 1) #[.string ⟨#[116, 101, 120, 116]⟩, .string s, .int .i64 0, .bool false, .slice none 0 0, .slice none 0 0, .slice none 0 0]) w.heap.size 26 #[.int .i64 1, .string s, .int .i64 n, .bool b, .slice ac lc.length cc, .slice aa la.length ca, .slice ap lp.length cp] := hS2.rowOther _ (by omega)
  clear hS2 hV2 hY2 hB2 HA2
  generalize u2.setRow (w.heap.size + 1 + 1) #[.string ⟨#[116, 101, 120, 116]⟩, .string s, .int .i64 0, .bool false, .slice none 0 0, .slice none 0 0, .slice none 0 0] = u3 at *
  change _ ∧ _
  refine ⟨hS3, ?_⟩
  refine wpAnyH_done (by kernel_rfl) ?_ _
  have v0 := hV3.at (i := 0) rfl
  have y0 := hY3.at (i := 0) rfl
  have y1 := hY3.at (i := 1) rfl
  have y2 := hY3.at (i := 2) rfl
  have y3 := hY3.at (i := 3) rfl
  have y4 := hY3.at (i := 4) rfl
  have y5 := hY3.at (i := 5) rfl
  have y6 := hY3.at (i := 6) rfl
  clear hS3 hV3 hY3
  simp only [Act.put, List.getElem_toArray, List.getElem_cons_zero, List.getElem_cons_succ, List.setIfInBounds_toArray, List.set_cons_zero, List.set_cons_succ]
  go_wp2_with fail
  refine bodyPost_ret (v := .tuple #[.agg #[.iface 9 (.string s)], .agg #[.string ⟨#[116, 101, 120, 116]⟩, .string s, .int .i64 0, .bool false, .slice none 0 0, .slice none 0 0, .slice none 0 0]]) ?_ rfl ?_
  · simp [results, Tryz.results10, go_sem, v0, y0, y1, y2, y3, y4, y5, y6]
  · exact ⟨_, _, rfl, HA3.out, ⟨_, _, _, rfl, nilC _, nilA _, nilP _⟩, hB3⟩
set_option maxRecDepth 100000 in
set_option maxHeartbeats 4000000 in
theorem made_count (s : ByteArray) (n : Int) (b : Bool) (vc va vp : Value) (lc : List (List At)) (la : List At) (lp : List Pv) (w : World) (hH : Has w vc va vp lc la lp) :
    Calls Tryz.prog 10 #[.agg #[.int .i64 2, .string s, .int .i64 n, .bool b, vc, va, vp]] w fun e w' => ∃ iv rv, e = .returned (.tuple #[.agg #[iv], rv]) ∧ VAt w.heap.size w' iv (.count n) ∧ YAt w' rv (.count n) ∧ Below w.heap.size w w' := by
  obtain ⟨ac, cc, e4⟩ := hH.1.1.shape
  obtain ⟨aa, ca, e5⟩ := hH.2.1.1.shape
  obtain ⟨ap, cp, e6⟩ := hH.2.2.1.shape
  subst e4 e5 e6
  obtain ⟨W, hW, hB, hsz, hA, hV, hY⟩ := three_new w 26 30 32 #[.int .i64 2, .string s, .int .i64 n, .bool b, .slice ac lc.length cc, .slice aa la.length ca, .slice ap lp.length cp] #[.nilIface] #[.string ⟨#[]⟩, .string ⟨#[]⟩, .int .i64 0, .bool false, .slice none 0 0, .slice none 0 0, .slice none 0 0]
  have HH := Lib.hid (hH.below hB)
  have H0 := Lib.hid hH
  clear hH
  go_enter Tryz.func10, Tryz.ntmps10
  have hk : W.cell? ⟨w.heap.size, 0, none⟩ = some (.int .i64 2) := hA.at (i := 0) rfl
  go_wp2_with fail
  clear hW hk
  refine wp_region_held (S := fun u => Blk.Is u w.heap.size 26 #[.int .i64 2, .string s, .int .i64 n, .bool b, .slice ac lc.length cc, .slice aa la.length ca, .slice ap lp.length cp]) (by kernel_rfl) ?_
  have hS0 : Blk.Is W.drew w.heap.size 26 #[.int .i64 2, .string s, .int .i64 n, .bool b, .slice ac lc.length cc, .slice aa la.length ca, .slice ap lp.length cp] := hA
  have hV0 : Blk.Is W.drew (w.heap.size + 1) 30 #[.nilIface] := hV
  have hY0 : Blk.Is W.drew (w.heap.size + 1 + 1) 32 #[.string ⟨#[]⟩, .string ⟨#[]⟩, .int .i64 0, .bool false, .slice none 0 0, .slice none 0 0, .slice none 0 0] := hY
  have hB0 : Below w.heap.size w W.drew := hB.drew
  have hs0 : W.drew.heap.size = w.heap.size + 3 := hsz
  have hD : Below W.heap.size W W.drew := (Below.refl _ _).drew
  have HH0 := Lib.hid (HH.out.below hD)
  clear hA hV hY hB hsz hD HH
  change wpAnyH _ _ _ _ _ 8 _ _ W.drew
  generalize W.drew = u0 at *
  refine wpAnyH_take (i := 0) (v := .pointer (some ⟨w.heap.size, 2, none⟩)) rfl (by kernel_rfl) (by kernel_rfl) (by kernel_rfl) (fun _ _ _ h => h) (.inl ⟨rfl, fun w _ => rfl⟩) hS0 ?_
  simp only [Act.put, List.getElem_toArray, List.getElem_cons_zero, List.getElem_cons_succ, List.setIfInBounds_toArray, List.set_cons_zero, List.set_cons_succ]
  refine wpAnyH_take (i := 1) (v := .int .i64 n) rfl (by kernel_rfl) (by kernel_rfl) (by kernel_rfl) (fun _ _ _ h => h) (Reg.yields_load_one rfl 3 _ rfl w.heap.size 2 rfl (.int .i64 n) (fun x hx => hx.at rfl) Tryz.isAgg3) hS0 ?_
  simp only [Act.put, List.getElem_toArray, List.getElem_cons_zero, List.getElem_cons_succ, List.setIfInBounds_toArray, List.set_cons_zero, List.set_cons_succ]
  refine wpAnyH_take (i := 3) (v := .pointer (some ⟨w.heap.size, 2, none⟩)) rfl (by kernel_rfl) (by kernel_rfl) (by kernel_rfl) (fun _ _ _ h => h) (.inl ⟨rfl, fun w _ => rfl⟩) hS0 ?_
  simp only [Act.put, List.getElem_toArray, List.getElem_cons_zero, List.getElem_cons_succ, List.setIfInBounds_toArray, List.set_cons_zero, List.set_cons_succ]
  refine wpAnyH_take (i := 4) (v := .int .i64 n) rfl (by kernel_rfl) (by kernel_rfl) (by kernel_rfl) (fun _ _ _ h => h) (Reg.yields_load_one rfl 3 _ rfl w.heap.size 2 rfl (.int .i64 n) (fun x hx => hx.at rfl) Tryz.isAgg3) hS0 ?_
  simp only [Act.put, List.getElem_toArray, List.getElem_cons_zero, List.getElem_cons_succ, List.setIfInBounds_toArray, List.set_cons_zero, List.set_cons_succ]
  refine wpAnyH_take (i := 5) (v := .agg #[.string ⟨#[99, 111, 117, 110, 116]⟩, .string ⟨#[]⟩, .int .i64 n, .bool false, .slice none 0 0, .slice none 0 0, .slice none 0 0]) rfl (by kernel_rfl) (by kernel_rfl) (by kernel_rfl) (fun _ _ _ h => h) (.inl ⟨rfl, fun w _ => by kernel_rfl⟩) hS0 ?_
  simp only [Act.put, List.getElem_toArray, List.getElem_cons_zero, List.getElem_cons_succ, List.setIfInBounds_toArray, List.set_cons_zero, List.set_cons_succ]
  have cx := ofCount_any (.int .i64 n) u0
  refine wpAnyH_all (rs := [2]) (by kernel_rfl) (by simp) ?_
  intro i hi
  obtain rfl := List.mem_singleton.1 hi
  refine Reg.wpOp_list rfl ?_
  go_wp2_with fail
  refine cx.mono ?_
  rintro e u1 ⟨rfl, k1⟩
  have hS1 : Blk.Is u1 w.heap.size 26 #[.int .i64 2, .string s, .int .i64 n, .bool b, .slice ac lc.length cc, .slice aa la.length ca, .slice ap lp.length cp] := (k1.block _ (by omega)).trans hS0
  have hV1 : Blk.Is u1 (w.heap.size + 1) 30 #[.nilIface] := (k1.block _ (by omega)).trans hV0
  have hY1 : Blk.Is u1 (w.heap.size + 1 + 1) 32 #[.string ⟨#[]⟩, .string ⟨#[]⟩, .int .i64 0, .bool false, .slice none 0 0, .slice none 0 0, .slice none 0 0] := (k1.block _ (by omega)).trans hY0
  have hB1 := hB0.trans (k1.mono (by omega))
  have hva : VAt u0.heap.size u1 (.iface 3 (.int .i64 n)) (.count n) := rfl
  have HA := Lib.hid hva
  have hc1 := hV1.at (i := 0) rfl
  have hf1 := hV1.free 0
  clear cx k1 hS0 hV0 hY0 hB0 hva
  go_wp2_with fail
  change _ ∧ _
  refine ⟨hS1, ?_⟩
  refine wpAnyH_all (rs := [6]) (by kernel_rfl) (by simp) ?_
  intro i hi
  obtain rfl := List.mem_singleton.1 hi
  refine Reg.wpOp_list rfl ?_
  go_wp2_with fail
  change _ ∧ _
  have hS2 : Blk.Is (u1.setCell ⟨w.heap.size + 1, 0, none⟩ (.iface 3 (.int .i64 n))) w.heap.size 26 #[.int .i64 2, .string s, .int .i64 n, .bool b, .slice ac lc.length cc, .slice aa la.length ca, .slice ap lp.length cp] := hS1.setOther _ (by simp)
  refine ⟨hS2, ?_⟩
  have hV2 := hV1.set 0 (.iface 3 (.int .i64 n))
  have hY2 : Blk.Is (u1.setCell ⟨w.heap.size + 1, 0, none⟩ (.iface 3 (.int .i64 n))) (w.heap.size + 1 + 1) 32 #[.string ⟨#[]⟩, .string ⟨#[]⟩, .int .i64 0, .bool false, .slice none 0 0, .slice none 0 0, .slice none 0 0] := hY1.setOther _ (by simp)
  have hB2 : Below w.heap.size w (u1.setCell ⟨w.heap.size + 1, 0, none⟩ (.iface 3 (.int .i64 n))) := hB1.setCell (Nat.le_succ _) _
  have HA2 := Lib.hid (HA.out.on ((Blk.Chg.refl _ u1).setAt (b := w.heap.size + 1) (o := 0) (u := .iface 3 (.int .i64 n)) (show w.heap.size + 1 < u0.heap.size by omega)))
  clear hS1 hV1 hY1 hB1 HA hc1 hf1
  generalize u1.setCell ⟨w.heap.size + 1, 0, none⟩ (.iface 3 (.int .i64 n)) = u2 at *
  have hi7 : (Tryz.prog.info? 32).map (·.size) = some 7 := by kernel_rfl
  refine wpAnyH_all (rs := [7]) (by kernel_rfl) (by simp) ?_
  intro i hi
  obtain rfl := List.mem_singleton.1 hi
  refine Reg.wpOp_list rfl ?_
  refine wpList_store_row rfl 32 (.tmp 3) (.tmp 21) rfl (w.heap.size + 1 + 1) #[.string ⟨#[99, 111, 117, 110, 116]⟩, .string ⟨#[]⟩, .int .i64 n, .bool false, .slice none 0 0, .slice none 0 0, .slice none 0 0] rfl rfl 32 #[.string ⟨#[]⟩, .string ⟨#[]⟩, .int .i64 0, .bool false, .slice none 0 0, .slice none 0 0, .slice none 0 0] hY2 hi7 (by rfl) (by simp [Value.oneCell']) ?_
  have hV3 : Blk.Is (u2.setRow (w.heap.size + 1 + 1) #[.string ⟨#[99, 111, 117, 110, 116]⟩, .string ⟨#[]⟩, .int .i64 n, .bool false, .slice none 0 0, .slice none 0 0, .slice none 0 0]) (w.heap.size + 1) 30 #[.iface 3 (.int .i64 n)] := hV2.rowOther _ (by omega)
  have hY3 : Blk.Is (u2.setRow (w.heap.size + 1 + 1) #[.string ⟨#[99, 111, 117, 110, 116]⟩, .string ⟨#[]⟩, .int .i64 n, .bool false, .slice none 0 0, .slice none 0 0, .slice none 0 0]) (w.heap.size + 1 + 1) 32 #[.string ⟨#[99, 111, 117, 110, 116]⟩, .string ⟨#[]⟩, .int .i64 n, .bool false, .slice none 0 0, .slice none 0 0, .slice none 0 0] := hY2.row _
  have hB3 : Below w.heap.size w (u2.setRow (w.heap.size + 1 + 1) #[.string ⟨#[99, 111, 117, 110, 116]⟩, .string ⟨#[]⟩, .int .i64 n, .bool false, .slice none 0 0, .slice none 0 0, .slice none 0 0]) := below_row hB2 (by omega) _
  have HA3 := Lib.hid ((HA2.out.on ((Blk.Chg.refl _ u2).setRow (S := fun k => k < u0.heap.size) (g := w.heap.size + 1 + 1) (show w.heap.size + 1 + 1 < u0.heap.size by omega) #[.string ⟨#[99, 111, 117, 110, 116]⟩, .string ⟨#[]⟩, .int .i64 n, .bool false, .slice none 0 0, .slice none 0 0, .slice none 0 0])).mono (show w.heap.size ≤ u0.heap.size by omega))
  have hS3 : Blk.Is (u2.setRow (w.heap.size + 1 + 1) #[.string ⟨#[99, 111, 117, 110, 116]⟩, .string ⟨#[]⟩, .int .i64 n, .bool false, .slice none 0 0, .slice none 0 0, .slice none 0 0]) w.heap.size 26 #[.int .i64 2, .string s, .int .i64 n, .bool b, .slice ac lc.length cc, .slice aa la.length ca, .slice ap lp.length cp] := hS2.rowOther _ (by omega)
  clear hS2 hV2 hY2 hB2 HA2
  generalize u2.setRow (w.heap.size + 1 + 1) #[.string ⟨#[99, 111, 117, 110, 116]⟩, .string ⟨#[]⟩, .int .i64 n, .bool false, .slice none 0 0, .slice none 0 0, .slice none 0 0] = u3 at *
  change _ ∧ _
  refine ⟨hS3, ?_⟩
  refine wpAnyH_done (by kernel_rfl) ?_ _
  have v0 := hV3.at (i := 0) rfl
  have y0 := hY3.at (i := 0) rfl
  have y1 := hY3.at (i := 1) rfl
  have y2 := hY3.at (i := 2) rfl
  have y3 := hY3.at (i := 3) rfl
  have y4 := hY3.at (i := 4) rfl
  have y5 := hY3.at (i := 5) rfl
  have y6 := hY3.at (i := 6) rfl
  clear hS3 hV3 hY3
  simp only [Act.put, List.getElem_toArray, List.getElem_cons_zero, List.getElem_cons_succ, List.setIfInBounds_toArray, List.set_cons_zero, List.set_cons_succ]
  go_wp2_with fail
  refine bodyPost_ret (v := .tuple #[.agg #[.iface 3 (.int .i64 n)], .agg #[.string ⟨#[99, 111, 117, 110, 116]⟩, .string ⟨#[]⟩, .int .i64 n, .bool false, .slice none 0 0, .slice none 0 0, .slice none 0 0]]) ?_ rfl ?_
  · simp [results, Tryz.results10, go_sem, v0, y0, y1, y2, y3, y4, y5, y6]
  · exact ⟨_, _, rfl, HA3.out, ⟨_, _, _, rfl, nilC _, nilA _, nilP _⟩, hB3⟩
set_option maxRecDepth 100000 in
set_option maxHeartbeats 4000000 in
theorem made_yes (s : ByteArray) (n : Int) (b : Bool) (vc va vp : Value) (lc : List (List At)) (la : List At) (lp : List Pv) (w : World) (hH : Has w vc va vp lc la lp) :
    Calls Tryz.prog 10 #[.agg #[.int .i64 3, .string s, .int .i64 n, .bool b, vc, va, vp]] w fun e w' => ∃ iv rv, e = .returned (.tuple #[.agg #[iv], rv]) ∧ VAt w.heap.size w' iv (.yes b) ∧ YAt w' rv (.yes b) ∧ Below w.heap.size w w' := by
  obtain ⟨ac, cc, e4⟩ := hH.1.1.shape
  obtain ⟨aa, ca, e5⟩ := hH.2.1.1.shape
  obtain ⟨ap, cp, e6⟩ := hH.2.2.1.shape
  subst e4 e5 e6
  obtain ⟨W, hW, hB, hsz, hA, hV, hY⟩ := three_new w 26 30 32 #[.int .i64 3, .string s, .int .i64 n, .bool b, .slice ac lc.length cc, .slice aa la.length ca, .slice ap lp.length cp] #[.nilIface] #[.string ⟨#[]⟩, .string ⟨#[]⟩, .int .i64 0, .bool false, .slice none 0 0, .slice none 0 0, .slice none 0 0]
  have HH := Lib.hid (hH.below hB)
  have H0 := Lib.hid hH
  clear hH
  go_enter Tryz.func10, Tryz.ntmps10
  have hk : W.cell? ⟨w.heap.size, 0, none⟩ = some (.int .i64 3) := hA.at (i := 0) rfl
  go_wp2_with fail
  clear hW hk
  refine wp_region_held (S := fun u => Blk.Is u w.heap.size 26 #[.int .i64 3, .string s, .int .i64 n, .bool b, .slice ac lc.length cc, .slice aa la.length ca, .slice ap lp.length cp]) (by kernel_rfl) ?_
  have hS0 : Blk.Is W.drew w.heap.size 26 #[.int .i64 3, .string s, .int .i64 n, .bool b, .slice ac lc.length cc, .slice aa la.length ca, .slice ap lp.length cp] := hA
  have hV0 : Blk.Is W.drew (w.heap.size + 1) 30 #[.nilIface] := hV
  have hY0 : Blk.Is W.drew (w.heap.size + 1 + 1) 32 #[.string ⟨#[]⟩, .string ⟨#[]⟩, .int .i64 0, .bool false, .slice none 0 0, .slice none 0 0, .slice none 0 0] := hY
  have hB0 : Below w.heap.size w W.drew := hB.drew
  have hs0 : W.drew.heap.size = w.heap.size + 3 := hsz
  have hD : Below W.heap.size W W.drew := (Below.refl _ _).drew
  have HH0 := Lib.hid (HH.out.below hD)
  clear hA hV hY hB hsz hD HH
  change wpAnyH _ _ _ _ _ 8 _ _ W.drew
  generalize W.drew = u0 at *
  refine wpAnyH_take (i := 0) (v := .pointer (some ⟨w.heap.size, 3, none⟩)) rfl (by kernel_rfl) (by kernel_rfl) (by kernel_rfl) (fun _ _ _ h => h) (.inl ⟨rfl, fun w _ => rfl⟩) hS0 ?_
  simp only [Act.put, List.getElem_toArray, List.getElem_cons_zero, List.getElem_cons_succ, List.setIfInBounds_toArray, List.set_cons_zero, List.set_cons_succ]
  refine wpAnyH_take (i := 1) (v := .bool b) rfl (by kernel_rfl) (by kernel_rfl) (by kernel_rfl) (fun _ _ _ h => h) (Reg.yields_load_one rfl 4 _ rfl w.heap.size 3 rfl (.bool b) (fun x hx => hx.at rfl) Tryz.isAgg4) hS0 ?_
  simp only [Act.put, List.getElem_toArray, List.getElem_cons_zero, List.getElem_cons_succ, List.setIfInBounds_toArray, List.set_cons_zero, List.set_cons_succ]
  refine wpAnyH_take (i := 3) (v := .pointer (some ⟨w.heap.size, 3, none⟩)) rfl (by kernel_rfl) (by kernel_rfl) (by kernel_rfl) (fun _ _ _ h => h) (.inl ⟨rfl, fun w _ => rfl⟩) hS0 ?_
  simp only [Act.put, List.getElem_toArray, List.getElem_cons_zero, List.getElem_cons_succ, List.setIfInBounds_toArray, List.set_cons_zero, List.set_cons_succ]
  refine wpAnyH_take (i := 4) (v := .bool b) rfl (by kernel_rfl) (by kernel_rfl) (by kernel_rfl) (fun _ _ _ h => h) (Reg.yields_load_one rfl 4 _ rfl w.heap.size 3 rfl (.bool b) (fun x hx => hx.at rfl) Tryz.isAgg4) hS0 ?_
  simp only [Act.put, List.getElem_toArray, List.getElem_cons_zero, List.getElem_cons_succ, List.setIfInBounds_toArray, List.set_cons_zero, List.set_cons_succ]
  refine wpAnyH_take (i := 5) (v := .agg #[.string ⟨#[121, 101, 115]⟩, .string ⟨#[]⟩, .int .i64 0, .bool b, .slice none 0 0, .slice none 0 0, .slice none 0 0]) rfl (by kernel_rfl) (by kernel_rfl) (by kernel_rfl) (fun _ _ _ h => h) (.inl ⟨rfl, fun w _ => by kernel_rfl⟩) hS0 ?_
  simp only [Act.put, List.getElem_toArray, List.getElem_cons_zero, List.getElem_cons_succ, List.setIfInBounds_toArray, List.set_cons_zero, List.set_cons_succ]
  have cx := ofYes_any (.bool b) u0
  refine wpAnyH_all (rs := [2]) (by kernel_rfl) (by simp) ?_
  intro i hi
  obtain rfl := List.mem_singleton.1 hi
  refine Reg.wpOp_list rfl ?_
  go_wp2_with fail
  refine cx.mono ?_
  rintro e u1 ⟨rfl, k1⟩
  have hS1 : Blk.Is u1 w.heap.size 26 #[.int .i64 3, .string s, .int .i64 n, .bool b, .slice ac lc.length cc, .slice aa la.length ca, .slice ap lp.length cp] := (k1.block _ (by omega)).trans hS0
  have hV1 : Blk.Is u1 (w.heap.size + 1) 30 #[.nilIface] := (k1.block _ (by omega)).trans hV0
  have hY1 : Blk.Is u1 (w.heap.size + 1 + 1) 32 #[.string ⟨#[]⟩, .string ⟨#[]⟩, .int .i64 0, .bool false, .slice none 0 0, .slice none 0 0, .slice none 0 0] := (k1.block _ (by omega)).trans hY0
  have hB1 := hB0.trans (k1.mono (by omega))
  have hva : VAt u0.heap.size u1 (.iface 4 (.bool b)) (.yes b) := rfl
  have HA := Lib.hid hva
  have hc1 := hV1.at (i := 0) rfl
  have hf1 := hV1.free 0
  clear cx k1 hS0 hV0 hY0 hB0 hva
  go_wp2_with fail
  change _ ∧ _
  refine ⟨hS1, ?_⟩
  refine wpAnyH_all (rs := [6]) (by kernel_rfl) (by simp) ?_
  intro i hi
  obtain rfl := List.mem_singleton.1 hi
  refine Reg.wpOp_list rfl ?_
  go_wp2_with fail
  change _ ∧ _
  have hS2 : Blk.Is (u1.setCell ⟨w.heap.size + 1, 0, none⟩ (.iface 4 (.bool b))) w.heap.size 26 #[.int .i64 3, .string s, .int .i64 n, .bool b, .slice ac lc.length cc, .slice aa la.length ca, .slice ap lp.length cp] := hS1.setOther _ (by simp)
  refine ⟨hS2, ?_⟩
  have hV2 := hV1.set 0 (.iface 4 (.bool b))
  have hY2 : Blk.Is (u1.setCell ⟨w.heap.size + 1, 0, none⟩ (.iface 4 (.bool b))) (w.heap.size + 1 + 1) 32 #[.string ⟨#[]⟩, .string ⟨#[]⟩, .int .i64 0, .bool false, .slice none 0 0, .slice none 0 0, .slice none 0 0] := hY1.setOther _ (by simp)
  have hB2 : Below w.heap.size w (u1.setCell ⟨w.heap.size + 1, 0, none⟩ (.iface 4 (.bool b))) := hB1.setCell (Nat.le_succ _) _
  have HA2 := Lib.hid (HA.out.on ((Blk.Chg.refl _ u1).setAt (b := w.heap.size + 1) (o := 0) (u := .iface 4 (.bool b)) (show w.heap.size + 1 < u0.heap.size by omega)))
  clear hS1 hV1 hY1 hB1 HA hc1 hf1
  generalize u1.setCell ⟨w.heap.size + 1, 0, none⟩ (.iface 4 (.bool b)) = u2 at *
  have hi7 : (Tryz.prog.info? 32).map (·.size) = some 7 := by kernel_rfl
  refine wpAnyH_all (rs := [7]) (by kernel_rfl) (by simp) ?_
  intro i hi
  obtain rfl := List.mem_singleton.1 hi
  refine Reg.wpOp_list rfl ?_
  refine wpList_store_row rfl 32 (.tmp 3) (.tmp 29) rfl (w.heap.size + 1 + 1) #[.string ⟨#[121, 101, 115]⟩, .string ⟨#[]⟩, .int .i64 0, .bool b, .slice none 0 0, .slice none 0 0, .slice none 0 0] rfl rfl 32 #[.string ⟨#[]⟩, .string ⟨#[]⟩, .int .i64 0, .bool false, .slice none 0 0, .slice none 0 0, .slice none 0 0] hY2 hi7 (by rfl) (by simp [Value.oneCell']) ?_
  have hV3 : Blk.Is (u2.setRow (w.heap.size + 1 + 1) #[.string ⟨#[121, 101, 115]⟩, .string ⟨#[]⟩, .int .i64 0, .bool b, .slice none 0 0, .slice none 0 0, .slice none 0 0]) (w.heap.size + 1) 30 #[.iface 4 (.bool b)] := hV2.rowOther _ (by omega)
  have hY3 : Blk.Is (u2.setRow (w.heap.size + 1 + 1) #[.string ⟨#[121, 101, 115]⟩, .string ⟨#[]⟩, .int .i64 0, .bool b, .slice none 0 0, .slice none 0 0, .slice none 0 0]) (w.heap.size + 1 + 1) 32 #[.string ⟨#[121, 101, 115]⟩, .string ⟨#[]⟩, .int .i64 0, .bool b, .slice none 0 0, .slice none 0 0, .slice none 0 0] := hY2.row _
  have hB3 : Below w.heap.size w (u2.setRow (w.heap.size + 1 + 1) #[.string ⟨#[121, 101, 115]⟩, .string ⟨#[]⟩, .int .i64 0, .bool b, .slice none 0 0, .slice none 0 0, .slice none 0 0]) := below_row hB2 (by omega) _
  have HA3 := Lib.hid ((HA2.out.on ((Blk.Chg.refl _ u2).setRow (S := fun k => k < u0.heap.size) (g := w.heap.size + 1 + 1) (show w.heap.size + 1 + 1 < u0.heap.size by omega) #[.string ⟨#[121, 101, 115]⟩, .string ⟨#[]⟩, .int .i64 0, .bool b, .slice none 0 0, .slice none 0 0, .slice none 0 0])).mono (show w.heap.size ≤ u0.heap.size by omega))
  have hS3 : Blk.Is (u2.setRow (w.heap.size + 1 + 1) #[.string ⟨#[121, 101, 115]⟩, .string ⟨#[]⟩, .int .i64 0, .bool b, .slice none 0 0, .slice none 0 0, .slice none 0 0]) w.heap.size 26 #[.int .i64 3, .string s, .int .i64 n, .bool b, .slice ac lc.length cc, .slice aa la.length ca, .slice ap lp.length cp] := hS2.rowOther _ (by omega)
  clear hS2 hV2 hY2 hB2 HA2
  generalize u2.setRow (w.heap.size + 1 + 1) #[.string ⟨#[121, 101, 115]⟩, .string ⟨#[]⟩, .int .i64 0, .bool b, .slice none 0 0, .slice none 0 0, .slice none 0 0] = u3 at *
  change _ ∧ _
  refine ⟨hS3, ?_⟩
  refine wpAnyH_done (by kernel_rfl) ?_ _
  have v0 := hV3.at (i := 0) rfl
  have y0 := hY3.at (i := 0) rfl
  have y1 := hY3.at (i := 1) rfl
  have y2 := hY3.at (i := 2) rfl
  have y3 := hY3.at (i := 3) rfl
  have y4 := hY3.at (i := 4) rfl
  have y5 := hY3.at (i := 5) rfl
  have y6 := hY3.at (i := 6) rfl
  clear hS3 hV3 hY3
  simp only [Act.put, List.getElem_toArray, List.getElem_cons_zero, List.getElem_cons_succ, List.setIfInBounds_toArray, List.set_cons_zero, List.set_cons_succ]
  go_wp2_with fail
  refine bodyPost_ret (v := .tuple #[.agg #[.iface 4 (.bool b)], .agg #[.string ⟨#[121, 101, 115]⟩, .string ⟨#[]⟩, .int .i64 0, .bool b, .slice none 0 0, .slice none 0 0, .slice none 0 0]]) ?_ rfl ?_
  · simp [results, Tryz.results10, go_sem, v0, y0, y1, y2, y3, y4, y5, y6]
  · exact ⟨_, _, rfl, HA3.out, ⟨_, _, _, rfl, nilC _, nilA _, nilP _⟩, hB3⟩
set_option maxRecDepth 100000 in
set_option maxHeartbeats 4000000 in
theorem made_clauses (s : ByteArray) (n : Int) (b : Bool) (vc va vp : Value) (lc : List (List At)) (la : List At) (lp : List Pv) (w : World) (hH : Has w vc va vp lc la lp) :
    Calls Tryz.prog 10 #[.agg #[.int .i64 4, .string s, .int .i64 n, .bool b, vc, va, vp]] w fun e w' => ∃ iv rv, e = .returned (.tuple #[.agg #[iv], rv]) ∧ VAt w.heap.size w' iv (.clauses lc) ∧ YAt w' rv (.clauses lc) ∧ Below w.heap.size w w' := by
  obtain ⟨ac, cc, e4⟩ := hH.1.1.shape
  obtain ⟨aa, ca, e5⟩ := hH.2.1.1.shape
  obtain ⟨ap, cp, e6⟩ := hH.2.2.1.shape
  subst e4 e5 e6
  obtain ⟨W, hW, hB, hsz, hA, hV, hY⟩ := three_new w 26 30 32 #[.int .i64 4, .string s, .int .i64 n, .bool b, .slice ac lc.length cc, .slice aa la.length ca, .slice ap lp.length cp] #[.nilIface] #[.string ⟨#[]⟩, .string ⟨#[]⟩, .int .i64 0, .bool false, .slice none 0 0, .slice none 0 0, .slice none 0 0]
  have HH := Lib.hid (hH.below hB)
  have H0 := Lib.hid hH
  clear hH
  go_enter Tryz.func10, Tryz.ntmps10
  have hk : W.cell? ⟨w.heap.size, 0, none⟩ = some (.int .i64 4) := hA.at (i := 0) rfl
  go_wp2_with fail
  clear hW hk
  refine wp_region_held (S := fun u => Blk.Is u w.heap.size 26 #[.int .i64 4, .string s, .int .i64 n, .bool b, .slice ac lc.length cc, .slice aa la.length ca, .slice ap lp.length cp]) (by kernel_rfl) ?_
  have hS0 : Blk.Is W.drew w.heap.size 26 #[.int .i64 4, .string s, .int .i64 n, .bool b, .slice ac lc.length cc, .slice aa la.length ca, .slice ap lp.length cp] := hA
  have hV0 : Blk.Is W.drew (w.heap.size + 1) 30 #[.nilIface] := hV
  have hY0 : Blk.Is W.drew (w.heap.size + 1 + 1) 32 #[.string ⟨#[]⟩, .string ⟨#[]⟩, .int .i64 0, .bool false, .slice none 0 0, .slice none 0 0, .slice none 0 0] := hY
  have hB0 : Below w.heap.size w W.drew := hB.drew
  have hs0 : W.drew.heap.size = w.heap.size + 3 := hsz
  have hD : Below W.heap.size W W.drew := (Below.refl _ _).drew
  have HH0 := Lib.hid (HH.out.below hD)
  clear hA hV hY hB hsz hD HH
  change wpAnyH _ _ _ _ _ 8 _ _ W.drew
  generalize W.drew = u0 at *
  refine wpAnyH_take (i := 0) (v := .pointer (some ⟨w.heap.size, 4, none⟩)) rfl (by kernel_rfl) (by kernel_rfl) (by kernel_rfl) (fun _ _ _ h => h) (.inl ⟨rfl, fun w _ => rfl⟩) hS0 ?_
  simp only [Act.put, List.getElem_toArray, List.getElem_cons_zero, List.getElem_cons_succ, List.setIfInBounds_toArray, List.set_cons_zero, List.set_cons_succ]
  refine wpAnyH_take (i := 1) (v := .slice ac lc.length cc) rfl (by kernel_rfl) (by kernel_rfl) (by kernel_rfl) (fun _ _ _ h => h) (Reg.yields_load_one rfl 22 _ rfl w.heap.size 4 rfl (.slice ac lc.length cc) (fun x hx => hx.at rfl) Tryz.isAgg22) hS0 ?_
  simp only [Act.put, List.getElem_toArray, List.getElem_cons_zero, List.getElem_cons_succ, List.setIfInBounds_toArray, List.set_cons_zero, List.set_cons_succ]
  refine wpAnyH_take (i := 3) (v := .pointer (some ⟨w.heap.size, 4, none⟩)) rfl (by kernel_rfl) (by kernel_rfl) (by kernel_rfl) (fun _ _ _ h => h) (.inl ⟨rfl, fun w _ => rfl⟩) hS0 ?_
  simp only [Act.put, List.getElem_toArray, List.getElem_cons_zero, List.getElem_cons_succ, List.setIfInBounds_toArray, List.set_cons_zero, List.set_cons_succ]
  refine wpAnyH_take (i := 4) (v := .slice ac lc.length cc) rfl (by kernel_rfl) (by kernel_rfl) (by kernel_rfl) (fun _ _ _ h => h) (Reg.yields_load_one rfl 22 _ rfl w.heap.size 4 rfl (.slice ac lc.length cc) (fun x hx => hx.at rfl) Tryz.isAgg22) hS0 ?_
  simp only [Act.put, List.getElem_toArray, List.getElem_cons_zero, List.getElem_cons_succ, List.setIfInBounds_toArray, List.set_cons_zero, List.set_cons_succ]
  refine wpAnyH_take (i := 5) (v := .agg #[.string ⟨#[99, 108, 97, 117, 115, 101, 115]⟩, .string ⟨#[]⟩, .int .i64 0, .bool false, .slice ac lc.length cc, .slice none 0 0, .slice none 0 0]) rfl (by kernel_rfl) (by kernel_rfl) (by kernel_rfl) (fun _ _ _ h => h) (.inl ⟨rfl, fun w _ => by kernel_rfl⟩) hS0 ?_
  simp only [Act.put, List.getElem_toArray, List.getElem_cons_zero, List.getElem_cons_succ, List.setIfInBounds_toArray, List.set_cons_zero, List.set_cons_succ]
  have cx := ofClauses_any _ _ u0 HH0.out.1.1 (by have := H0.out.1.2.1; omega) (fun c hc => by have := H0.out.1.2.2 c hc; omega)
  refine wpAnyH_all (rs := [2]) (by kernel_rfl) (by simp) ?_
  intro i hi
  obtain rfl := List.mem_singleton.1 hi
  refine Reg.wpOp_list rfl ?_
  go_wp2_with fail
  refine cx.mono ?_
  rintro e u1 ⟨iv, rfl, _, hva, k1⟩
  have hS1 : Blk.Is u1 w.heap.size 26 #[.int .i64 4, .string s, .int .i64 n, .bool b, .slice ac lc.length cc, .slice aa la.length ca, .slice ap lp.length cp] := (k1.block _ (by omega)).trans hS0
  have hV1 : Blk.Is u1 (w.heap.size + 1) 30 #[.nilIface] := (k1.block _ (by omega)).trans hV0
  have hY1 : Blk.Is u1 (w.heap.size + 1 + 1) 32 #[.string ⟨#[]⟩, .string ⟨#[]⟩, .int .i64 0, .bool false, .slice none 0 0, .slice none 0 0, .slice none 0 0] := (k1.block _ (by omega)).trans hY0
  have hB1 := hB0.trans (k1.mono (by omega))
  obtain ⟨v1, rfl, _⟩ := id hva
  have HA := Lib.hid hva
  have hc1 := hV1.at (i := 0) rfl
  have hf1 := hV1.free 0
  clear cx k1 hS0 hV0 hY0 hB0 hva
  go_wp2_with fail
  change _ ∧ _
  refine ⟨hS1, ?_⟩
  refine wpAnyH_all (rs := [6]) (by kernel_rfl) (by simp) ?_
  intro i hi
  obtain rfl := List.mem_singleton.1 hi
  refine Reg.wpOp_list rfl ?_
  go_wp2_with fail
  change _ ∧ _
  have hS2 : Blk.Is (u1.setCell ⟨w.heap.size + 1, 0, none⟩ (.iface 22 v1)) w.heap.size 26 #[.int .i64 4, .string s, .int .i64 n, .bool b, .slice ac lc.length cc, .slice aa la.length ca, .slice ap lp.length cp] := hS1.setOther _ (by simp)
  refine ⟨hS2, ?_⟩
  have hV2 := hV1.set 0 (.iface 22 v1)
  have hY2 : Blk.Is (u1.setCell ⟨w.heap.size + 1, 0, none⟩ (.iface 22 v1)) (w.heap.size + 1 + 1) 32 #[.string ⟨#[]⟩, .string ⟨#[]⟩, .int .i64 0, .bool false, .slice none 0 0, .slice none 0 0, .slice none 0 0] := hY1.setOther _ (by simp)
  have hB2 : Below w.heap.size w (u1.setCell ⟨w.heap.size + 1, 0, none⟩ (.iface 22 v1)) := hB1.setCell (Nat.le_succ _) _
  have HA2 := Lib.hid (HA.out.on ((Blk.Chg.refl _ u1).setAt (b := w.heap.size + 1) (o := 0) (u := .iface 22 v1) (show w.heap.size + 1 < u0.heap.size by omega)))
  clear hS1 hV1 hY1 hB1 HA hc1 hf1
  generalize u1.setCell ⟨w.heap.size + 1, 0, none⟩ (.iface 22 v1) = u2 at *
  have hi7 : (Tryz.prog.info? 32).map (·.size) = some 7 := by kernel_rfl
  refine wpAnyH_all (rs := [7]) (by kernel_rfl) (by simp) ?_
  intro i hi
  obtain rfl := List.mem_singleton.1 hi
  refine Reg.wpOp_list rfl ?_
  refine wpList_store_row rfl 32 (.tmp 3) (.tmp 37) rfl (w.heap.size + 1 + 1) #[.string ⟨#[99, 108, 97, 117, 115, 101, 115]⟩, .string ⟨#[]⟩, .int .i64 0, .bool false, .slice ac lc.length cc, .slice none 0 0, .slice none 0 0] rfl rfl 32 #[.string ⟨#[]⟩, .string ⟨#[]⟩, .int .i64 0, .bool false, .slice none 0 0, .slice none 0 0, .slice none 0 0] hY2 hi7 (by rfl) (by simp [Value.oneCell']) ?_
  have hV3 : Blk.Is (u2.setRow (w.heap.size + 1 + 1) #[.string ⟨#[99, 108, 97, 117, 115, 101, 115]⟩, .string ⟨#[]⟩, .int .i64 0, .bool false, .slice ac lc.length cc, .slice none 0 0, .slice none 0 0]) (w.heap.size + 1) 30 #[.iface 22 v1] := hV2.rowOther _ (by omega)
  have hY3 : Blk.Is (u2.setRow (w.heap.size + 1 + 1) #[.string ⟨#[99, 108, 97, 117, 115, 101, 115]⟩, .string ⟨#[]⟩, .int .i64 0, .bool false, .slice ac lc.length cc, .slice none 0 0, .slice none 0 0]) (w.heap.size + 1 + 1) 32 #[.string ⟨#[99, 108, 97, 117, 115, 101, 115]⟩, .string ⟨#[]⟩, .int .i64 0, .bool false, .slice ac lc.length cc, .slice none 0 0, .slice none 0 0] := hY2.row _
  have hB3 : Below w.heap.size w (u2.setRow (w.heap.size + 1 + 1) #[.string ⟨#[99, 108, 97, 117, 115, 101, 115]⟩, .string ⟨#[]⟩, .int .i64 0, .bool false, .slice ac lc.length cc, .slice none 0 0, .slice none 0 0]) := below_row hB2 (by omega) _
  have HA3 := Lib.hid ((HA2.out.on ((Blk.Chg.refl _ u2).setRow (S := fun k => k < u0.heap.size) (g := w.heap.size + 1 + 1) (show w.heap.size + 1 + 1 < u0.heap.size by omega) #[.string ⟨#[99, 108, 97, 117, 115, 101, 115]⟩, .string ⟨#[]⟩, .int .i64 0, .bool false, .slice ac lc.length cc, .slice none 0 0, .slice none 0 0])).mono (show w.heap.size ≤ u0.heap.size by omega))
  have hS3 : Blk.Is (u2.setRow (w.heap.size + 1 + 1) #[.string ⟨#[99, 108, 97, 117, 115, 101, 115]⟩, .string ⟨#[]⟩, .int .i64 0, .bool false, .slice ac lc.length cc, .slice none 0 0, .slice none 0 0]) w.heap.size 26 #[.int .i64 4, .string s, .int .i64 n, .bool b, .slice ac lc.length cc, .slice aa la.length ca, .slice ap lp.length cp] := hS2.rowOther _ (by omega)
  clear hS2 hV2 hY2 hB2 HA2
  generalize u2.setRow (w.heap.size + 1 + 1) #[.string ⟨#[99, 108, 97, 117, 115, 101, 115]⟩, .string ⟨#[]⟩, .int .i64 0, .bool false, .slice ac lc.length cc, .slice none 0 0, .slice none 0 0] = u3 at *
  change _ ∧ _
  refine ⟨hS3, ?_⟩
  refine wpAnyH_done (by kernel_rfl) ?_ _
  have v0 := hV3.at (i := 0) rfl
  have y0 := hY3.at (i := 0) rfl
  have y1 := hY3.at (i := 1) rfl
  have y2 := hY3.at (i := 2) rfl
  have y3 := hY3.at (i := 3) rfl
  have y4 := hY3.at (i := 4) rfl
  have y5 := hY3.at (i := 5) rfl
  have y6 := hY3.at (i := 6) rfl
  clear hS3 hV3 hY3
  simp only [Act.put, List.getElem_toArray, List.getElem_cons_zero, List.getElem_cons_succ, List.setIfInBounds_toArray, List.set_cons_zero, List.set_cons_succ]
  go_wp2_with fail
  refine bodyPost_ret (v := .tuple #[.agg #[.iface 22 v1], .agg #[.string ⟨#[99, 108, 97, 117, 115, 101, 115]⟩, .string ⟨#[]⟩, .int .i64 0, .bool false, .slice ac lc.length cc, .slice none 0 0, .slice none 0 0]]) ?_ rfl ?_
  · simp [results, Tryz.results10, go_sem, v0, y0, y1, y2, y3, y4, y5, y6]
  · exact ⟨_, _, rfl, HA3.out, ⟨_, _, _, rfl, (H0.out.below hB3).1.1, nilA _, nilP _⟩, hB3⟩
set_option maxRecDepth 100000 in
set_option maxHeartbeats 4000000 in
theorem made_atoms (s : ByteArray) (n : Int) (b : Bool) (vc va vp : Value) (lc : List (List At)) (la : List At) (lp : List Pv) (w : World) (hH : Has w vc va vp lc la lp) :
    Calls Tryz.prog 10 #[.agg #[.int .i64 5, .string s, .int .i64 n, .bool b, vc, va, vp]] w fun e w' => ∃ iv rv, e = .returned (.tuple #[.agg #[iv], rv]) ∧ VAt w.heap.size w' iv (.atoms la) ∧ YAt w' rv (.atoms la) ∧ Below w.heap.size w w' := by
  obtain ⟨ac, cc, e4⟩ := hH.1.1.shape
  obtain ⟨aa, ca, e5⟩ := hH.2.1.1.shape
  obtain ⟨ap, cp, e6⟩ := hH.2.2.1.shape
  subst e4 e5 e6
  obtain ⟨W, hW, hB, hsz, hA, hV, hY⟩ := three_new w 26 30 32 #[.int .i64 5, .string s, .int .i64 n, .bool b, .slice ac lc.length cc, .slice aa la.length ca, .slice ap lp.length cp] #[.nilIface] #[.string ⟨#[]⟩, .string ⟨#[]⟩, .int .i64 0, .bool false, .slice none 0 0, .slice none 0 0, .slice none 0 0]
  have HH := Lib.hid (hH.below hB)
  have H0 := Lib.hid hH
  clear hH
  go_enter Tryz.func10, Tryz.ntmps10
  have hk : W.cell? ⟨w.heap.size, 0, none⟩ = some (.int .i64 5) := hA.at (i := 0) rfl
  go_wp2_with fail
  clear hW hk
  refine wp_region_held (S := fun u => Blk.Is u w.heap.size 26 #[.int .i64 5, .string s, .int .i64 n, .bool b, .slice ac lc.length cc, .slice aa la.length ca, .slice ap lp.length cp]) (by kernel_rfl) ?_
  have hS0 : Blk.Is W.drew w.heap.size 26 #[.int .i64 5, .string s, .int .i64 n, .bool b, .slice ac lc.length cc, .slice aa la.length ca, .slice ap lp.length cp] := hA
  have hV0 : Blk.Is W.drew (w.heap.size + 1) 30 #[.nilIface] := hV
  have hY0 : Blk.Is W.drew (w.heap.size + 1 + 1) 32 #[.string ⟨#[]⟩, .string ⟨#[]⟩, .int .i64 0, .bool false, .slice none 0 0, .slice none 0 0, .slice none 0 0] := hY
  have hB0 : Below w.heap.size w W.drew := hB.drew
  have hs0 : W.drew.heap.size = w.heap.size + 3 := hsz
  have hD : Below W.heap.size W W.drew := (Below.refl _ _).drew
  have HH0 := Lib.hid (HH.out.below hD)
  clear hA hV hY hB hsz hD HH
  change wpAnyH _ _ _ _ _ 8 _ _ W.drew
  generalize W.drew = u0 at *
  refine wpAnyH_take (i := 0) (v := .pointer (some ⟨w.heap.size, 5, none⟩)) rfl (by kernel_rfl) (by kernel_rfl) (by kernel_rfl) (fun _ _ _ h => h) (.inl ⟨rfl, fun w _ => rfl⟩) hS0 ?_
  simp only [Act.put, List.getElem_toArray, List.getElem_cons_zero, List.getElem_cons_succ, List.setIfInBounds_toArray, List.set_cons_zero, List.set_cons_succ]
  refine wpAnyH_take (i := 1) (v := .slice aa la.length ca) rfl (by kernel_rfl) (by kernel_rfl) (by kernel_rfl) (fun _ _ _ h => h) (Reg.yields_load_one rfl 23 _ rfl w.heap.size 5 rfl (.slice aa la.length ca) (fun x hx => hx.at rfl) Tryz.isAgg23) hS0 ?_
  simp only [Act.put, List.getElem_toArray, List.getElem_cons_zero, List.getElem_cons_succ, List.setIfInBounds_toArray, List.set_cons_zero, List.set_cons_succ]
  refine wpAnyH_take (i := 3) (v := .pointer (some ⟨w.heap.size, 5, none⟩)) rfl (by kernel_rfl) (by kernel_rfl) (by kernel_rfl) (fun _ _ _ h => h) (.inl ⟨rfl, fun w _ => rfl⟩) hS0 ?_
  simp only [Act.put, List.getElem_toArray, List.getElem_cons_zero, List.getElem_cons_succ, List.setIfInBounds_toArray, List.set_cons_zero, List.set_cons_succ]
  refine wpAnyH_take (i := 4) (v := .slice aa la.length ca) rfl (by kernel_rfl) (by kernel_rfl) (by kernel_rfl) (fun _ _ _ h => h) (Reg.yields_load_one rfl 23 _ rfl w.heap.size 5 rfl (.slice aa la.length ca) (fun x hx => hx.at rfl) Tryz.isAgg23) hS0 ?_
  simp only [Act.put, List.getElem_toArray, List.getElem_cons_zero, List.getElem_cons_succ, List.setIfInBounds_toArray, List.set_cons_zero, List.set_cons_succ]
  refine wpAnyH_take (i := 5) (v := .agg #[.string ⟨#[97, 116, 111, 109, 115]⟩, .string ⟨#[]⟩, .int .i64 0, .bool false, .slice none 0 0, .slice aa la.length ca, .slice none 0 0]) rfl (by kernel_rfl) (by kernel_rfl) (by kernel_rfl) (fun _ _ _ h => h) (.inl ⟨rfl, fun w _ => by kernel_rfl⟩) hS0 ?_
  simp only [Act.put, List.getElem_toArray, List.getElem_cons_zero, List.getElem_cons_succ, List.setIfInBounds_toArray, List.set_cons_zero, List.set_cons_succ]
  have cx := ofAtoms_any _ _ u0 HH0.out.2.1.1 (by have := H0.out.2.1.2; omega)
  refine wpAnyH_all (rs := [2]) (by kernel_rfl) (by simp) ?_
  intro i hi
  obtain rfl := List.mem_singleton.1 hi
  refine Reg.wpOp_list rfl ?_
  go_wp2_with fail
  refine cx.mono ?_
  rintro e u1 ⟨iv, rfl, _, hva, k1⟩
  have hS1 : Blk.Is u1 w.heap.size 26 #[.int .i64 5, .string s, .int .i64 n, .bool b, .slice ac lc.length cc, .slice aa la.length ca, .slice ap lp.length cp] := (k1.block _ (by omega)).trans hS0
  have hV1 : Blk.Is u1 (w.heap.size + 1) 30 #[.nilIface] := (k1.block _ (by omega)).trans hV0
  have hY1 : Blk.Is u1 (w.heap.size + 1 + 1) 32 #[.string ⟨#[]⟩, .string ⟨#[]⟩, .int .i64 0, .bool false, .slice none 0 0, .slice none 0 0, .slice none 0 0] := (k1.block _ (by omega)).trans hY0
  have hB1 := hB0.trans (k1.mono (by omega))
  obtain ⟨v1, rfl, _⟩ := id hva
  have HA := Lib.hid hva
  have hc1 := hV1.at (i := 0) rfl
  have hf1 := hV1.free 0
  clear cx k1 hS0 hV0 hY0 hB0 hva
  go_wp2_with fail
  change _ ∧ _
  refine ⟨hS1, ?_⟩
  refine wpAnyH_all (rs := [6]) (by kernel_rfl) (by simp) ?_
  intro i hi
  obtain rfl := List.mem_singleton.1 hi
  refine Reg.wpOp_list rfl ?_
  go_wp2_with fail
  change _ ∧ _
  have hS2 : Blk.Is (u1.setCell ⟨w.heap.size + 1, 0, none⟩ (.iface 23 v1)) w.heap.size 26 #[.int .i64 5, .string s, .int .i64 n, .bool b, .slice ac lc.length cc, .slice aa la.length ca, .slice ap lp.length cp] := hS1.setOther _ (by simp)
  refine ⟨hS2, ?_⟩
  have hV2 := hV1.set 0 (.iface 23 v1)
  have hY2 : Blk.Is (u1.setCell ⟨w.heap.size + 1, 0, none⟩ (.iface 23 v1)) (w.heap.size + 1 + 1) 32 #[.string ⟨#[]⟩, .string ⟨#[]⟩, .int .i64 0, .bool false, .slice none 0 0, .slice none 0 0, .slice none 0 0] := hY1.setOther _ (by simp)
  have hB2 : Below w.heap.size w (u1.setCell ⟨w.heap.size + 1, 0, none⟩ (.iface 23 v1)) := hB1.setCell (Nat.le_succ _) _
  have HA2 := Lib.hid (HA.out.on ((Blk.Chg.refl _ u1).setAt (b := w.heap.size + 1) (o := 0) (u := .iface 23 v1) (show w.heap.size + 1 < u0.heap.size by omega)))
  clear hS1 hV1 hY1 hB1 HA hc1 hf1
  generalize u1.setCell ⟨w.heap.size + 1, 0, none⟩ (.iface 23 v1) = u2 at *
  have hi7 : (Tryz.prog.info? 32).map (·.size) = some 7 := by kernel_rfl
  refine wpAnyH_all (rs := [7]) (by kernel_rfl) (by simp) ?_
  intro i hi
  obtain rfl := List.mem_singleton.1 hi
  refine Reg.wpOp_list rfl ?_
  refine wpList_store_row rfl 32 (.tmp 3) (.tmp 45) rfl (w.heap.size + 1 + 1) #[.string ⟨#[97, 116, 111, 109, 115]⟩, .string ⟨#[]⟩, .int .i64 0, .bool false, .slice none 0 0, .slice aa la.length ca, .slice none 0 0] rfl rfl 32 #[.string ⟨#[]⟩, .string ⟨#[]⟩, .int .i64 0, .bool false, .slice none 0 0, .slice none 0 0, .slice none 0 0] hY2 hi7 (by rfl) (by simp [Value.oneCell']) ?_
  have hV3 : Blk.Is (u2.setRow (w.heap.size + 1 + 1) #[.string ⟨#[97, 116, 111, 109, 115]⟩, .string ⟨#[]⟩, .int .i64 0, .bool false, .slice none 0 0, .slice aa la.length ca, .slice none 0 0]) (w.heap.size + 1) 30 #[.iface 23 v1] := hV2.rowOther _ (by omega)
  have hY3 : Blk.Is (u2.setRow (w.heap.size + 1 + 1) #[.string ⟨#[97, 116, 111, 109, 115]⟩, .string ⟨#[]⟩, .int .i64 0, .bool false, .slice none 0 0, .slice aa la.length ca, .slice none 0 0]) (w.heap.size + 1 + 1) 32 #[.string ⟨#[97, 116, 111, 109, 115]⟩, .string ⟨#[]⟩, .int .i64 0, .bool false, .slice none 0 0, .slice aa la.length ca, .slice none 0 0] := hY2.row _
  have hB3 : Below w.heap.size w (u2.setRow (w.heap.size + 1 + 1) #[.string ⟨#[97, 116, 111, 109, 115]⟩, .string ⟨#[]⟩, .int .i64 0, .bool false, .slice none 0 0, .slice aa la.length ca, .slice none 0 0]) := below_row hB2 (by omega) _
  have HA3 := Lib.hid ((HA2.out.on ((Blk.Chg.refl _ u2).setRow (S := fun k => k < u0.heap.size) (g := w.heap.size + 1 + 1) (show w.heap.size + 1 + 1 < u0.heap.size by omega) #[.string ⟨#[97, 116, 111, 109, 115]⟩, .string ⟨#[]⟩, .int .i64 0, .bool false, .slice none 0 0, .slice aa la.length ca, .slice none 0 0])).mono (show w.heap.size ≤ u0.heap.size by omega))
  have hS3 : Blk.Is (u2.setRow (w.heap.size + 1 + 1) #[.string ⟨#[97, 116, 111, 109, 115]⟩, .string ⟨#[]⟩, .int .i64 0, .bool false, .slice none 0 0, .slice aa la.length ca, .slice none 0 0]) w.heap.size 26 #[.int .i64 5, .string s, .int .i64 n, .bool b, .slice ac lc.length cc, .slice aa la.length ca, .slice ap lp.length cp] := hS2.rowOther _ (by omega)
  clear hS2 hV2 hY2 hB2 HA2
  generalize u2.setRow (w.heap.size + 1 + 1) #[.string ⟨#[97, 116, 111, 109, 115]⟩, .string ⟨#[]⟩, .int .i64 0, .bool false, .slice none 0 0, .slice aa la.length ca, .slice none 0 0] = u3 at *
  change _ ∧ _
  refine ⟨hS3, ?_⟩
  refine wpAnyH_done (by kernel_rfl) ?_ _
  have v0 := hV3.at (i := 0) rfl
  have y0 := hY3.at (i := 0) rfl
  have y1 := hY3.at (i := 1) rfl
  have y2 := hY3.at (i := 2) rfl
  have y3 := hY3.at (i := 3) rfl
  have y4 := hY3.at (i := 4) rfl
  have y5 := hY3.at (i := 5) rfl
  have y6 := hY3.at (i := 6) rfl
  clear hS3 hV3 hY3
  simp only [Act.put, List.getElem_toArray, List.getElem_cons_zero, List.getElem_cons_succ, List.setIfInBounds_toArray, List.set_cons_zero, List.set_cons_succ]
  go_wp2_with fail
  refine bodyPost_ret (v := .tuple #[.agg #[.iface 23 v1], .agg #[.string ⟨#[97, 116, 111, 109, 115]⟩, .string ⟨#[]⟩, .int .i64 0, .bool false, .slice none 0 0, .slice aa la.length ca, .slice none 0 0]]) ?_ rfl ?_
  · simp [results, Tryz.results10, go_sem, v0, y0, y1, y2, y3, y4, y5, y6]
  · exact ⟨_, _, rfl, HA3.out, ⟨_, _, _, rfl, nilC _, (H0.out.below hB3).2.1.1, nilP _⟩, hB3⟩
set_option maxRecDepth 100000 in
set_option maxHeartbeats 4000000 in
theorem made_provides (s : ByteArray) (n : Int) (b : Bool) (vc va vp : Value) (lc : List (List At)) (la : List At) (lp : List Pv) (w : World) (hH : Has w vc va vp lc la lp) :
    Calls Tryz.prog 10 #[.agg #[.int .i64 6, .string s, .int .i64 n, .bool b, vc, va, vp]] w fun e w' => ∃ iv rv, e = .returned (.tuple #[.agg #[iv], rv]) ∧ VAt w.heap.size w' iv (.provs lp) ∧ YAt w' rv (.provs lp) ∧ Below w.heap.size w w' := by
  obtain ⟨ac, cc, e4⟩ := hH.1.1.shape
  obtain ⟨aa, ca, e5⟩ := hH.2.1.1.shape
  obtain ⟨ap, cp, e6⟩ := hH.2.2.1.shape
  subst e4 e5 e6
  obtain ⟨W, hW, hB, hsz, hA, hV, hY⟩ := three_new w 26 30 32 #[.int .i64 6, .string s, .int .i64 n, .bool b, .slice ac lc.length cc, .slice aa la.length ca, .slice ap lp.length cp] #[.nilIface] #[.string ⟨#[]⟩, .string ⟨#[]⟩, .int .i64 0, .bool false, .slice none 0 0, .slice none 0 0, .slice none 0 0]
  have HH := Lib.hid (hH.below hB)
  have H0 := Lib.hid hH
  clear hH
  go_enter Tryz.func10, Tryz.ntmps10
  have hk : W.cell? ⟨w.heap.size, 0, none⟩ = some (.int .i64 6) := hA.at (i := 0) rfl
  go_wp2_with fail
  clear hW hk
  refine wp_region_held (S := fun u => Blk.Is u w.heap.size 26 #[.int .i64 6, .string s, .int .i64 n, .bool b, .slice ac lc.length cc, .slice aa la.length ca, .slice ap lp.length cp]) (by kernel_rfl) ?_
  have hS0 : Blk.Is W.drew w.heap.size 26 #[.int .i64 6, .string s, .int .i64 n, .bool b, .slice ac lc.length cc, .slice aa la.length ca, .slice ap lp.length cp] := hA
  have hV0 : Blk.Is W.drew (w.heap.size + 1) 30 #[.nilIface] := hV
  have hY0 : Blk.Is W.drew (w.heap.size + 1 + 1) 32 #[.string ⟨#[]⟩, .string ⟨#[]⟩, .int .i64 0, .bool false, .slice none 0 0, .slice none 0 0, .slice none 0 0] := hY
  have hB0 : Below w.heap.size w W.drew := hB.drew
  have hs0 : W.drew.heap.size = w.heap.size + 3 := hsz
  have hD : Below W.heap.size W W.drew := (Below.refl _ _).drew
  have HH0 := Lib.hid (HH.out.below hD)
  clear hA hV hY hB hsz hD HH
  change wpAnyH _ _ _ _ _ 8 _ _ W.drew
  generalize W.drew = u0 at *
  refine wpAnyH_take (i := 0) (v := .pointer (some ⟨w.heap.size, 6, none⟩)) rfl (by kernel_rfl) (by kernel_rfl) (by kernel_rfl) (fun _ _ _ h => h) (.inl ⟨rfl, fun w _ => rfl⟩) hS0 ?_
  simp only [Act.put, List.getElem_toArray, List.getElem_cons_zero, List.getElem_cons_succ, List.setIfInBounds_toArray, List.set_cons_zero, List.set_cons_succ]
  refine wpAnyH_take (i := 1) (v := .slice ap lp.length cp) rfl (by kernel_rfl) (by kernel_rfl) (by kernel_rfl) (fun _ _ _ h => h) (Reg.yields_load_one rfl 24 _ rfl w.heap.size 6 rfl (.slice ap lp.length cp) (fun x hx => hx.at rfl) Tryz.isAgg24) hS0 ?_
  simp only [Act.put, List.getElem_toArray, List.getElem_cons_zero, List.getElem_cons_succ, List.setIfInBounds_toArray, List.set_cons_zero, List.set_cons_succ]
  refine wpAnyH_take (i := 3) (v := .pointer (some ⟨w.heap.size, 6, none⟩)) rfl (by kernel_rfl) (by kernel_rfl) (by kernel_rfl) (fun _ _ _ h => h) (.inl ⟨rfl, fun w _ => rfl⟩) hS0 ?_
  simp only [Act.put, List.getElem_toArray, List.getElem_cons_zero, List.getElem_cons_succ, List.setIfInBounds_toArray, List.set_cons_zero, List.set_cons_succ]
  refine wpAnyH_take (i := 4) (v := .slice ap lp.length cp) rfl (by kernel_rfl) (by kernel_rfl) (by kernel_rfl) (fun _ _ _ h => h) (Reg.yields_load_one rfl 24 _ rfl w.heap.size 6 rfl (.slice ap lp.length cp) (fun x hx => hx.at rfl) Tryz.isAgg24) hS0 ?_
  simp only [Act.put, List.getElem_toArray, List.getElem_cons_zero, List.getElem_cons_succ, List.setIfInBounds_toArray, List.set_cons_zero, List.set_cons_succ]
  refine wpAnyH_take (i := 5) (v := .agg #[.string ⟨#[112, 114, 111, 118, 105, 100, 101, 115]⟩, .string ⟨#[]⟩, .int .i64 0, .bool false, .slice none 0 0, .slice none 0 0, .slice ap lp.length cp]) rfl (by kernel_rfl) (by kernel_rfl) (by kernel_rfl) (fun _ _ _ h => h) (.inl ⟨rfl, fun w _ => by kernel_rfl⟩) hS0 ?_
  simp only [Act.put, List.getElem_toArray, List.getElem_cons_zero, List.getElem_cons_succ, List.setIfInBounds_toArray, List.set_cons_zero, List.set_cons_succ]
  have cx := ofProvides_any _ _ u0 HH0.out.2.2.1 (by have := H0.out.2.2.2; omega)
  refine wpAnyH_all (rs := [2]) (by kernel_rfl) (by simp) ?_
  intro i hi
  obtain rfl := List.mem_singleton.1 hi
  refine Reg.wpOp_list rfl ?_
  go_wp2_with fail
  refine cx.mono ?_
  rintro e u1 ⟨iv, rfl, _, hva, k1⟩
  have hS1 : Blk.Is u1 w.heap.size 26 #[.int .i64 6, .string s, .int .i64 n, .bool b, .slice ac lc.length cc, .slice aa la.length ca, .slice ap lp.length cp] := (k1.block _ (by omega)).trans hS0
  have hV1 : Blk.Is u1 (w.heap.size + 1) 30 #[.nilIface] := (k1.block _ (by omega)).trans hV0
  have hY1 : Blk.Is u1 (w.heap.size + 1 + 1) 32 #[.string ⟨#[]⟩, .string ⟨#[]⟩, .int .i64 0, .bool false, .slice none 0 0, .slice none 0 0, .slice none 0 0] := (k1.block _ (by omega)).trans hY0
  have hB1 := hB0.trans (k1.mono (by omega))
  obtain ⟨v1, rfl, _⟩ := id hva
  have HA := Lib.hid hva
  have hc1 := hV1.at (i := 0) rfl
  have hf1 := hV1.free 0
  clear cx k1 hS0 hV0 hY0 hB0 hva
  go_wp2_with fail
  change _ ∧ _
  refine ⟨hS1, ?_⟩
  refine wpAnyH_all (rs := [6]) (by kernel_rfl) (by simp) ?_
  intro i hi
  obtain rfl := List.mem_singleton.1 hi
  refine Reg.wpOp_list rfl ?_
  go_wp2_with fail
  change _ ∧ _
  have hS2 : Blk.Is (u1.setCell ⟨w.heap.size + 1, 0, none⟩ (.iface 24 v1)) w.heap.size 26 #[.int .i64 6, .string s, .int .i64 n, .bool b, .slice ac lc.length cc, .slice aa la.length ca, .slice ap lp.length cp] := hS1.setOther _ (by simp)
  refine ⟨hS2, ?_⟩
  have hV2 := hV1.set 0 (.iface 24 v1)
  have hY2 : Blk.Is (u1.setCell ⟨w.heap.size + 1, 0, none⟩ (.iface 24 v1)) (w.heap.size + 1 + 1) 32 #[.string ⟨#[]⟩, .string ⟨#[]⟩, .int .i64 0, .bool false, .slice none 0 0, .slice none 0 0, .slice none 0 0] := hY1.setOther _ (by simp)
  have hB2 : Below w.heap.size w (u1.setCell ⟨w.heap.size + 1, 0, none⟩ (.iface 24 v1)) := hB1.setCell (Nat.le_succ _) _
  have HA2 := Lib.hid (HA.out.on ((Blk.Chg.refl _ u1).setAt (b := w.heap.size + 1) (o := 0) (u := .iface 24 v1) (show w.heap.size + 1 < u0.heap.size by omega)))
  clear hS1 hV1 hY1 hB1 HA hc1 hf1
  generalize u1.setCell ⟨w.heap.size + 1, 0, none⟩ (.iface 24 v1) = u2 at *
  have hi7 : (Tryz.prog.info? 32).map (·.size) = some 7 := by kernel_rfl
  refine wpAnyH_all (rs := [7]) (by kernel_rfl) (by simp) ?_
  intro i hi
  obtain rfl := List.mem_singleton.1 hi
  refine Reg.wpOp_list rfl ?_
  refine wpList_store_row rfl 32 (.tmp 3) (.tmp 53) rfl (w.heap.size + 1 + 1) #[.string ⟨#[112, 114, 111, 118, 105, 100, 101, 115]⟩, .string ⟨#[]⟩, .int .i64 0, .bool false, .slice none 0 0, .slice none 0 0, .slice ap lp.length cp] rfl rfl 32 #[.string ⟨#[]⟩, .string ⟨#[]⟩, .int .i64 0, .bool false, .slice none 0 0, .slice none 0 0, .slice none 0 0] hY2 hi7 (by rfl) (by simp [Value.oneCell']) ?_
  have hV3 : Blk.Is (u2.setRow (w.heap.size + 1 + 1) #[.string ⟨#[112, 114, 111, 118, 105, 100, 101, 115]⟩, .string ⟨#[]⟩, .int .i64 0, .bool false, .slice none 0 0, .slice none 0 0, .slice ap lp.length cp]) (w.heap.size + 1) 30 #[.iface 24 v1] := hV2.rowOther _ (by omega)
  have hY3 : Blk.Is (u2.setRow (w.heap.size + 1 + 1) #[.string ⟨#[112, 114, 111, 118, 105, 100, 101, 115]⟩, .string ⟨#[]⟩, .int .i64 0, .bool false, .slice none 0 0, .slice none 0 0, .slice ap lp.length cp]) (w.heap.size + 1 + 1) 32 #[.string ⟨#[112, 114, 111, 118, 105, 100, 101, 115]⟩, .string ⟨#[]⟩, .int .i64 0, .bool false, .slice none 0 0, .slice none 0 0, .slice ap lp.length cp] := hY2.row _
  have hB3 : Below w.heap.size w (u2.setRow (w.heap.size + 1 + 1) #[.string ⟨#[112, 114, 111, 118, 105, 100, 101, 115]⟩, .string ⟨#[]⟩, .int .i64 0, .bool false, .slice none 0 0, .slice none 0 0, .slice ap lp.length cp]) := below_row hB2 (by omega) _
  have HA3 := Lib.hid ((HA2.out.on ((Blk.Chg.refl _ u2).setRow (S := fun k => k < u0.heap.size) (g := w.heap.size + 1 + 1) (show w.heap.size + 1 + 1 < u0.heap.size by omega) #[.string ⟨#[112, 114, 111, 118, 105, 100, 101, 115]⟩, .string ⟨#[]⟩, .int .i64 0, .bool false, .slice none 0 0, .slice none 0 0, .slice ap lp.length cp])).mono (show w.heap.size ≤ u0.heap.size by omega))
  have hS3 : Blk.Is (u2.setRow (w.heap.size + 1 + 1) #[.string ⟨#[112, 114, 111, 118, 105, 100, 101, 115]⟩, .string ⟨#[]⟩, .int .i64 0, .bool false, .slice none 0 0, .slice none 0 0, .slice ap lp.length cp]) w.heap.size 26 #[.int .i64 6, .string s, .int .i64 n, .bool b, .slice ac lc.length cc, .slice aa la.length ca, .slice ap lp.length cp] := hS2.rowOther _ (by omega)
  clear hS2 hV2 hY2 hB2 HA2
  generalize u2.setRow (w.heap.size + 1 + 1) #[.string ⟨#[112, 114, 111, 118, 105, 100, 101, 115]⟩, .string ⟨#[]⟩, .int .i64 0, .bool false, .slice none 0 0, .slice none 0 0, .slice ap lp.length cp] = u3 at *
  change _ ∧ _
  refine ⟨hS3, ?_⟩
  refine wpAnyH_done (by kernel_rfl) ?_ _
  have v0 := hV3.at (i := 0) rfl
  have y0 := hY3.at (i := 0) rfl
  have y1 := hY3.at (i := 1) rfl
  have y2 := hY3.at (i := 2) rfl
  have y3 := hY3.at (i := 3) rfl
  have y4 := hY3.at (i := 4) rfl
  have y5 := hY3.at (i := 5) rfl
  have y6 := hY3.at (i := 6) rfl
  clear hS3 hV3 hY3
  simp only [Act.put, List.getElem_toArray, List.getElem_cons_zero, List.getElem_cons_succ, List.setIfInBounds_toArray, List.set_cons_zero, List.set_cons_succ]
  go_wp2_with fail
  refine bodyPost_ret (v := .tuple #[.agg #[.iface 24 v1], .agg #[.string ⟨#[112, 114, 111, 118, 105, 100, 101, 115]⟩, .string ⟨#[]⟩, .int .i64 0, .bool false, .slice none 0 0, .slice none 0 0, .slice ap lp.length cp]]) ?_ rfl ?_
  · simp [results, Tryz.results10, go_sem, v0, y0, y1, y2, y3, y4, y5, y6]
  · exact ⟨_, _, rfl, HA3.out, ⟨_, _, _, rfl, nilC _, nilA _, (H0.out.below hB3).2.2.1⟩, hB3⟩
set_option maxRecDepth 100000 in
set_option maxHeartbeats 4000000 in
theorem made_none (k : Int) (hk : k < 1 ∨ 6 < k) (s : ByteArray) (n : Int) (b : Bool) (vc va vp : Value) (lc : List (List At)) (la : List At) (lp : List Pv) (w : World) (hH : Has w vc va vp lc la lp) :
    Calls Tryz.prog 10 #[.agg #[.int .i64 k, .string s, .int .i64 n, .bool b, vc, va, vp]] w fun e w' => ∃ iv rv, e = .returned (.tuple #[.agg #[iv], rv]) ∧ VAt w.heap.size w' iv .none ∧ YAt w' rv .none ∧ Below w.heap.size w w' := by
  obtain ⟨ac, cc, e4⟩ := hH.1.1.shape
  obtain ⟨aa, ca, e5⟩ := hH.2.1.1.shape
  obtain ⟨ap, cp, e6⟩ := hH.2.2.1.shape
  subst e4 e5 e6
  have n1 : (k == 1) = false := beq_eq_false_iff_ne.2 (by omega)
  have n2 : (k == 2) = false := beq_eq_false_iff_ne.2 (by omega)
  have n3 : (k == 3) = false := beq_eq_false_iff_ne.2 (by omega)
  have n4 : (k == 4) = false := beq_eq_false_iff_ne.2 (by omega)
  have n5 : (k == 5) = false := beq_eq_false_iff_ne.2 (by omega)
  have n6 : (k == 6) = false := beq_eq_false_iff_ne.2 (by omega)
  clear hk
  obtain ⟨W, hW, hB, hsz, hA, hV, hY⟩ := three_new w 26 30 32 #[.int .i64 k, .string s, .int .i64 n, .bool b, .slice ac lc.length cc, .slice aa la.length ca, .slice ap lp.length cp] #[.nilIface] #[.string ⟨#[]⟩, .string ⟨#[]⟩, .int .i64 0, .bool false, .slice none 0 0, .slice none 0 0, .slice none 0 0]
  clear hH
  have hk : W.cell? ⟨w.heap.size, 0, none⟩ = some (.int .i64 k) := hA.at (i := 0) rfl
  have hc : W.cell? ⟨w.heap.size + 1, 0, none⟩ = some .nilIface := hV.at (i := 0) rfl
  have hf := hV.free 0
  have hY1 : Blk.Is (W.setCell ⟨w.heap.size + 1, 0, none⟩ .nilIface) (w.heap.size + 1 + 1) 32 #[.string ⟨#[]⟩, .string ⟨#[]⟩, .int .i64 0, .bool false, .slice none 0 0, .slice none 0 0, .slice none 0 0] := hY.setOther _ (by simp)
  have hV1 := hV.set 0 .nilIface
  have hB1 : Below w.heap.size w (W.setCell ⟨w.heap.size + 1, 0, none⟩ .nilIface) := hB.setCell (Nat.le_succ _) _
  have HV1 := Lib.hid hV1
  have HY1 := Lib.hid hY1
  have HB1 := Lib.hid hB1
  have hi7 : (Tryz.prog.info? 32).map (·.size) = some 7 := by kernel_rfl
  clear hY1 hV1 hB1 hA hV hY hB hsz
  go_enter Tryz.func10, Tryz.ntmps10
  go_wp2_with (refine wpList_store_row rfl 32 (.tmp 3) (.tmp 55) rfl (w.heap.size + 1 + 1) #[.string ⟨#[110, 111, 110, 101]⟩, .string ⟨#[]⟩, .int .i64 0, .bool false, .slice none 0 0, .slice none 0 0, .slice none 0 0] rfl rfl 32 #[.string ⟨#[]⟩, .string ⟨#[]⟩, .int .i64 0, .bool false, .slice none 0 0, .slice none 0 0, .slice none 0 0] HY1.out hi7 (by rfl) (by simp [Value.oneCell']) ?_)
  clear hW hk hc hf
  have hV3 : Blk.Is ((W.setCell ⟨w.heap.size + 1, 0, none⟩ .nilIface).setRow (w.heap.size + 1 + 1) #[.string ⟨#[110, 111, 110, 101]⟩, .string ⟨#[]⟩, .int .i64 0, .bool false, .slice none 0 0, .slice none 0 0, .slice none 0 0]) (w.heap.size + 1) 30 #[.nilIface] := HV1.out.rowOther _ (by omega)
  have hY3 : Blk.Is ((W.setCell ⟨w.heap.size + 1, 0, none⟩ .nilIface).setRow (w.heap.size + 1 + 1) #[.string ⟨#[110, 111, 110, 101]⟩, .string ⟨#[]⟩, .int .i64 0, .bool false, .slice none 0 0, .slice none 0 0, .slice none 0 0]) (w.heap.size + 1 + 1) 32 #[.string ⟨#[110, 111, 110, 101]⟩, .string ⟨#[]⟩, .int .i64 0, .bool false, .slice none 0 0, .slice none 0 0, .slice none 0 0] := HY1.out.row _
  have hB3 : Below w.heap.size w ((W.setCell ⟨w.heap.size + 1, 0, none⟩ .nilIface).setRow (w.heap.size + 1 + 1) #[.string ⟨#[110, 111, 110, 101]⟩, .string ⟨#[]⟩, .int .i64 0, .bool false, .slice none 0 0, .slice none 0 0, .slice none 0 0]) := below_row HB1.out (by omega) _
  generalize (W.setCell ⟨w.heap.size + 1, 0, none⟩ .nilIface).setRow (w.heap.size + 1 + 1) #[.string ⟨#[110, 111, 110, 101]⟩, .string ⟨#[]⟩, .int .i64 0, .bool false, .slice none 0 0, .slice none 0 0, .slice none 0 0] = u3 at *
  have v0 := hV3.at (i := 0) rfl
  have y0 := hY3.at (i := 0) rfl
  have y1 := hY3.at (i := 1) rfl
  have y2 := hY3.at (i := 2) rfl
  have y3 := hY3.at (i := 3) rfl
  have y4 := hY3.at (i := 4) rfl
  have y5 := hY3.at (i := 5) rfl
  have y6 := hY3.at (i := 6) rfl
  clear hV3 hY3
  refine bodyPost_ret (v := .tuple #[.agg #[.nilIface], .agg #[.string ⟨#[110, 111, 110, 101]⟩, .string ⟨#[]⟩, .int .i64 0, .bool false, .slice none 0 0, .slice none 0 0, .slice none 0 0]]) ?_ rfl ?_
  · simp [results, Tryz.results10, go_sem, v0, y0, y1, y2, y3, y4, y5, y6]
  · exact ⟨_, _, rfl, rfl, ⟨_, _, _, rfl, nilC _, nilA _, nilP _⟩, hB3⟩
/-- Which value these make. -/
def mk (k : Int) (s : ByteArray) (n : Int) (b : Bool) (lc : List (List At)) (la : List At) (lp : List Pv) : Vl :=
  if k = 1 then .text s else if k = 2 then .count n else if k = 3 then .yes b else if k = 4 then .clauses lc else if k = 5 then .atoms la else if k = 6 then .provs lp else .none
theorem made_any (k : Int) (s : ByteArray) (n : Int) (b : Bool) (vc va vp : Value) (lc : List (List At)) (la : List At) (lp : List Pv) (w : World) (hH : Has w vc va vp lc la lp) :
    Calls Tryz.prog 10 #[.agg #[.int .i64 k, .string s, .int .i64 n, .bool b, vc, va, vp]] w fun e w' => ∃ iv rv, e = .returned (.tuple #[.agg #[iv], rv]) ∧ VAt w.heap.size w' iv (mk k s n b lc la lp) ∧ YAt w' rv (mk k s n b lc la lp) ∧ Below w.heap.size w w' := by
  by_cases h1 : k = 1
  · subst h1; exact made_text s n b vc va vp lc la lp w hH
  by_cases h2 : k = 2
  · subst h2; exact made_count s n b vc va vp lc la lp w hH
  by_cases h3 : k = 3
  · subst h3; exact made_yes s n b vc va vp lc la lp w hH
  by_cases h4 : k = 4
  · subst h4; exact made_clauses s n b vc va vp lc la lp w hH
  by_cases h5 : k = 5
  · subst h5; exact made_atoms s n b vc va vp lc la lp w hH
  by_cases h6 : k = 6
  · subst h6; exact made_provides s n b vc va vp lc la lp w hH
  have e : mk k s n b lc la lp = .none := by unfold mk; rw [if_neg h1, if_neg h2, if_neg h3, if_neg h4, if_neg h5, if_neg h6]
  rw [e]
  exact made_none k (by omega) s n b vc va vp lc la lp w hH
end Va
end Go.Proofs.YtapmpdljapbpeaaGreatDoor
namespace Go.Proofs.YtapmpdljapbpeaaGreatDoor
open Go.RowKit
set_option linter.unusedSimpArgs false
set_option linter.unusedVariables false
namespace Va
open Ver (Bs li li_len S S_size S_li)
open Rl (At Pv Ats Pvs Clss Cls)
def Vl.isT : Vl → Bool
  | .text _ => true
  | _ => false
def Vl.isN : Vl → Bool
  | .count _ => true
  | _ => false
def Vl.isY : Vl → Bool
  | .yes _ => true
  | _ => false
def Vl.isC : Vl → Bool
  | .clauses _ => true
  | _ => false
def Vl.isA : Vl → Bool
  | .atoms _ => true
  | _ => false
def Vl.isP : Vl → Bool
  | .provs _ => true
  | _ => false
/-- Its lists are not too long. -/
def Vl.Small (x : Vl) : Prop := (x.cls.length ≤ 60000 ∧ ∀ c ∈ x.cls, c.length ≤ 60000) ∧ x.ats.length ≤ 60000 ∧ x.pvs.length ≤ 60000
theorem VAt.one {B : Nat} {w : World} {iv : Value} {x : Vl} (h : VAt B w iv x) : iv.oneCell' = true := by
  rcases h.ok.is with rfl | ⟨t, y, rfl⟩ <;> rfl
theorem VAt.kindI {B : Nat} {w : World} {iv : Value} {x : Vl} (h : VAt B w iv x) : kindI iv = x.kind := by
  cases x with
  | none => obtain rfl := h; rfl
  | text s => obtain rfl := h; rfl
  | count n => obtain rfl := h; rfl
  | yes b => obtain rfl := h; rfl
  | clauses l => obtain ⟨v, rfl, _⟩ := h; rfl
  | atoms l => obtain ⟨v, rfl, _⟩ := h; rfl
  | provs l => obtain ⟨v, rfl, _⟩ := h; rfl
theorem kind_x {B : Nat} {iv : Value} {x : Vl} {w : World} (h : VAt B w iv x) :
    Calls Tryz.prog 17 #[.agg #[iv]] w fun e w' => e = .returned (.string x.kind) ∧ Below w.heap.size w w' := by
  have c := kind_any iv h.ok w
  rwa [h.kindI] at c
theorem as_text_x {B : Nat} {w : World} {iv : Value} {x : Vl} (h : VAt B w iv x) : asT 9 (.string .empty) iv = .string x.txt ∧ asB 9 iv = x.isT := by
  cases x with
  | none => obtain rfl := h; exact ⟨rfl, rfl⟩
  | text s => obtain rfl := h; exact ⟨rfl, rfl⟩
  | count n => obtain rfl := h; exact ⟨rfl, rfl⟩
  | yes b => obtain rfl := h; exact ⟨rfl, rfl⟩
  | clauses l => obtain ⟨v, rfl, _⟩ := h; exact ⟨rfl, rfl⟩
  | atoms l => obtain ⟨v, rfl, _⟩ := h; exact ⟨rfl, rfl⟩
  | provs l => obtain ⟨v, rfl, _⟩ := h; exact ⟨rfl, rfl⟩
theorem text_x {B : Nat} {iv : Value} {x : Vl} {w : World} (h : VAt B w iv x) :
    Calls Tryz.prog 11 #[.agg #[iv]] w fun e w' => e = .returned (.tuple #[.string x.txt, .bool x.isT]) ∧ Below w.heap.size w w' := by
  have c := text_any iv h.ok.is w
  rwa [(as_text_x h).1, (as_text_x h).2] at c
theorem as_count_x {B : Nat} {w : World} {iv : Value} {x : Vl} (h : VAt B w iv x) : asT 3 (.int .i64 0) iv = .int .i64 x.cnt ∧ asB 3 iv = x.isN := by
  cases x with
  | none => obtain rfl := h; exact ⟨rfl, rfl⟩
  | text s => obtain rfl := h; exact ⟨rfl, rfl⟩
  | count n => obtain rfl := h; exact ⟨rfl, rfl⟩
  | yes b => obtain rfl := h; exact ⟨rfl, rfl⟩
  | clauses l => obtain ⟨v, rfl, _⟩ := h; exact ⟨rfl, rfl⟩
  | atoms l => obtain ⟨v, rfl, _⟩ := h; exact ⟨rfl, rfl⟩
  | provs l => obtain ⟨v, rfl, _⟩ := h; exact ⟨rfl, rfl⟩
theorem count_x {B : Nat} {iv : Value} {x : Vl} {w : World} (h : VAt B w iv x) :
    Calls Tryz.prog 12 #[.agg #[iv]] w fun e w' => e = .returned (.tuple #[.int .i64 x.cnt, .bool x.isN]) ∧ Below w.heap.size w w' := by
  have c := count_any iv h.ok.is w
  rwa [(as_count_x h).1, (as_count_x h).2] at c
theorem as_yes_x {B : Nat} {w : World} {iv : Value} {x : Vl} (h : VAt B w iv x) : asT 4 (.bool false) iv = .bool x.ye ∧ asB 4 iv = x.isY := by
  cases x with
  | none => obtain rfl := h; exact ⟨rfl, rfl⟩
  | text s => obtain rfl := h; exact ⟨rfl, rfl⟩
  | count n => obtain rfl := h; exact ⟨rfl, rfl⟩
  | yes b => obtain rfl := h; exact ⟨rfl, rfl⟩
  | clauses l => obtain ⟨v, rfl, _⟩ := h; exact ⟨rfl, rfl⟩
  | atoms l => obtain ⟨v, rfl, _⟩ := h; exact ⟨rfl, rfl⟩
  | provs l => obtain ⟨v, rfl, _⟩ := h; exact ⟨rfl, rfl⟩
theorem yes_x {B : Nat} {iv : Value} {x : Vl} {w : World} (h : VAt B w iv x) :
    Calls Tryz.prog 13 #[.agg #[iv]] w fun e w' => e = .returned (.tuple #[.bool x.ye, .bool x.isY]) ∧ Below w.heap.size w w' := by
  have c := yes_any iv h.ok.is w
  rwa [(as_yes_x h).1, (as_yes_x h).2] at c
theorem as_clauses_x {B : Nat} {w : World} {iv : Value} {x : Vl} (h : VAt B w iv x) : ∃ v, asT 22 (.slice none 0 0) iv = v ∧ asB 22 iv = x.isC ∧ Clss w v x.cls := by
  cases x with
  | none => obtain rfl := h; exact ⟨_, rfl, rfl, nilC _⟩
  | text s => obtain rfl := h; exact ⟨_, rfl, rfl, nilC _⟩
  | count n => obtain rfl := h; exact ⟨_, rfl, rfl, nilC _⟩
  | yes b => obtain rfl := h; exact ⟨_, rfl, rfl, nilC _⟩
  | clauses l => obtain ⟨v, rfl, hv⟩ := h; exact ⟨_, rfl, rfl, hv.here⟩
  | atoms l => obtain ⟨v, rfl, _⟩ := h; exact ⟨_, rfl, rfl, nilC _⟩
  | provs l => obtain ⟨v, rfl, _⟩ := h; exact ⟨_, rfl, rfl, nilC _⟩
theorem clauses_x {B : Nat} {iv : Value} {x : Vl} {w : World} (h : VAt B w iv x) (hs : x.Small) :
    Calls Tryz.prog 14 #[.agg #[iv]] w fun e w' => ∃ u, e = .returned (.tuple #[u, .bool x.isC]) ∧ Hi w.heap.size w' (fun z => Clss z u x.cls) ∧ Below w.heap.size w w' := by
  obtain ⟨v, e1, e2, hv⟩ := as_clauses_x h
  exact clauses_any iv v x.isC x.cls h.ok.is e1 e2 w hv hs.1.1 hs.1.2
theorem as_atoms_x {B : Nat} {w : World} {iv : Value} {x : Vl} (h : VAt B w iv x) : ∃ v, asT 23 (.slice none 0 0) iv = v ∧ asB 23 iv = x.isA ∧ Ats w v x.ats := by
  cases x with
  | none => obtain rfl := h; exact ⟨_, rfl, rfl, nilA _⟩
  | text s => obtain rfl := h; exact ⟨_, rfl, rfl, nilA _⟩
  | count n => obtain rfl := h; exact ⟨_, rfl, rfl, nilA _⟩
  | yes b => obtain rfl := h; exact ⟨_, rfl, rfl, nilA _⟩
  | clauses l => obtain ⟨v, rfl, _⟩ := h; exact ⟨_, rfl, rfl, nilA _⟩
  | atoms l => obtain ⟨v, rfl, hv⟩ := h; exact ⟨_, rfl, rfl, hv.here⟩
  | provs l => obtain ⟨v, rfl, _⟩ := h; exact ⟨_, rfl, rfl, nilA _⟩
theorem atoms_x {B : Nat} {iv : Value} {x : Vl} {w : World} (h : VAt B w iv x) (hs : x.Small) :
    Calls Tryz.prog 15 #[.agg #[iv]] w fun e w' => ∃ u, e = .returned (.tuple #[u, .bool x.isA]) ∧ Hi w.heap.size w' (fun z => Ats z u x.ats) ∧ Below w.heap.size w w' := by
  obtain ⟨v, e1, e2, hv⟩ := as_atoms_x h
  exact atoms_any iv v x.isA x.ats h.ok.is e1 e2 w hv hs.2.1
theorem as_provs_x {B : Nat} {w : World} {iv : Value} {x : Vl} (h : VAt B w iv x) : ∃ v, asT 24 (.slice none 0 0) iv = v ∧ asB 24 iv = x.isP ∧ Pvs w v x.pvs := by
  cases x with
  | none => obtain rfl := h; exact ⟨_, rfl, rfl, nilP _⟩
  | text s => obtain rfl := h; exact ⟨_, rfl, rfl, nilP _⟩
  | count n => obtain rfl := h; exact ⟨_, rfl, rfl, nilP _⟩
  | yes b => obtain rfl := h; exact ⟨_, rfl, rfl, nilP _⟩
  | clauses l => obtain ⟨v, rfl, _⟩ := h; exact ⟨_, rfl, rfl, nilP _⟩
  | atoms l => obtain ⟨v, rfl, _⟩ := h; exact ⟨_, rfl, rfl, nilP _⟩
  | provs l => obtain ⟨v, rfl, hv⟩ := h; exact ⟨_, rfl, rfl, hv.here⟩
theorem provs_x {B : Nat} {iv : Value} {x : Vl} {w : World} (h : VAt B w iv x) (hs : x.Small) :
    Calls Tryz.prog 16 #[.agg #[iv]] w fun e w' => ∃ u, e = .returned (.tuple #[u, .bool x.isP]) ∧ Hi w.heap.size w' (fun z => Pvs z u x.pvs) ∧ Below w.heap.size w w' := by
  obtain ⟨v, e1, e2, hv⟩ := as_provs_x h
  exact provides_any iv v x.isP x.pvs h.ok.is e1 e2 w hv hs.2.2
theorem small_mk {k : Int} {s : ByteArray} {n : Int} {b : Bool} {lc : List (List At)} {la : List At} {lp : List Pv} (h : (lc.length ≤ 30 ∧ ∀ c ∈ lc, c.length ≤ 30) ∧ la.length ≤ 30 ∧ lp.length ≤ 30) : (mk k s n b lc la lp).Small := by
  unfold mk
  repeat' split
  all_goals
    refine ⟨⟨?_, ?_⟩, ?_, ?_⟩
    all_goals simp only [Vl.cls, Vl.ats, Vl.pvs, List.length_nil, List.not_mem_nil, false_implies, implies_true, Nat.zero_le]
    all_goals first
      | omega
      | exact fun c hc => by have := h.1.2 c hc; omega
end Va
end Go.Proofs.YtapmpdljapbpeaaGreatDoor
namespace Go.Proofs.YtapmpdljapbpeaaGreatDoor
open Go.RowKit
set_option linter.unusedSimpArgs false
set_option linter.unusedVariables false
namespace Va
open Ver (Bs li li_len S S_size S_li)
open Rl (At Pv Ats Pvs Clss Cls)
def light8 (lc : List (List At)) (la : List At) (lp : List Pv) : Bool := decide (lc.length ≤ 30) && decide (la.length ≤ 30) && decide (lp.length ≤ 30) && lc.all fun c => decide (c.length ≤ 30)
theorem light8_cnt {lc : List (List At)} {la : List At} {lp : List Pv} (h : light8 lc la lp = true) : (lc.length ≤ 30 ∧ ∀ c ∈ lc, c.length ≤ 30) ∧ la.length ≤ 30 ∧ lp.length ≤ 30 := by
  simp only [light8, Bool.and_eq_true, decide_eq_true_eq, List.all_eq_true] at h
  exact ⟨⟨h.1.1.1, h.2⟩, h.1.1.2, h.1.2⟩
theorem light8_many {lc : List (List At)} {la : List At} {lp : List Pv} (h : 30 < lc.length ∨ 30 < la.length ∨ 30 < lp.length) : light8 lc la lp = false := by
  unfold light8
  rcases h with h | h | h
  · rw [decide_eq_false (by omega : ¬ lc.length ≤ 30)]; rfl
  · rw [decide_eq_false (by omega : ¬ la.length ≤ 30), Bool.and_false]; rfl
  · rw [decide_eq_false (by omega : ¬ lp.length ≤ 30), Bool.and_false]; rfl
theorem light8_at {lc : List (List At)} {la : List At} {lp : List Pv} {i : Nat} (hi : i < lc.length) (h : 30 < (lc.getD i []).length) : light8 lc la lp = false := by
  unfold light8
  rw [Bool.and_eq_false_iff]
  right
  rw [List.all_eq_false]
  exact ⟨lc[i], List.getElem_mem hi, by rw [show lc[i] = lc.getD i [] by simp [List.getD, List.getElem?_eq_getElem hi]]; simp only [decide_eq_true_eq]; omega⟩
theorem light8_yes {lc : List (List At)} {la : List At} {lp : List Pv} (h1 : lc.length ≤ 30) (h2 : la.length ≤ 30) (h3 : lp.length ≤ 30) (h : ∀ i, i < lc.length → (lc.getD i []).length ≤ 30) : light8 lc la lp = true := by
  unfold light8
  rw [decide_eq_true h1, decide_eq_true h2, decide_eq_true h3, Bool.true_and, Bool.true_and, Bool.true_and, List.all_eq_true]
  intro s hs
  obtain ⟨i, hi, rfl⟩ := List.mem_iff_getElem.1 hs
  have := h i hi
  simpa [List.getD, List.getElem?_eq_getElem hi] using this
set_option maxRecDepth 100000 in
set_option maxHeartbeats 4000000 in
theorem light_any (k n : Int) (s : ByteArray) (b : Bool) (vc va vp : Value) (lc : List (List At)) (la : List At) (lp : List Pv) (w : World) (h1 : Clss w vc lc) (h2 : Ats w va la) (h3 : Pvs w vp lp) :
    Calls Tryz.prog 8 #[.agg #[.int .i64 k, .string s, .int .i64 n, .bool b, vc, va, vp]] w fun e w' => e = .returned (.bool (light8 lc la lp)) ∧ Below w.heap.size w w' := by
  obtain ⟨aa, ca, rfl⟩ := h2.shape
  obtain ⟨ap, cp, rfl⟩ := h3.shape
  obtain ⟨hmx, a, cap, rfl, hcap, hread⟩ := id h1
  have hA := Blk.Is.new w 26 #[.int .i64 k, .string s, .int .i64 n, .bool b, .slice a lc.length cap, .slice aa la.length ca, .slice ap lp.length cp]
  have hB : Below w.heap.size w (w.alloc (.cells #[.int .i64 k, .string s, .int .i64 n, .bool b, .slice a lc.length cap, .slice aa la.length ca, .slice ap lp.length cp] 26)) := (Below.refl _ _).alloc (Nat.le_refl _) _
  have HR := Lib.hid (fun (h0 : 0 < lc.length) => hread h0)
  have HB := Lib.hid hB
  obtain ⟨N, hN⟩ : ∃ N, lc.length = N := ⟨_, rfl⟩
  obtain ⟨M, hM⟩ : ∃ M, la.length = M := ⟨_, rfl⟩
  obtain ⟨L, hL⟩ : ∃ L, lp.length = L := ⟨_, rfl⟩
  have HN := Lib.hid (⟨hN, hM, hL⟩ : _ ∧ _ ∧ _)
  obtain ⟨G, hG⟩ : ∃ G, light8 lc la lp = G := ⟨_, rfl⟩
  have HG := Lib.hid hG
  rw [hG]
  rw [hN] at hcap hmx
  rw [hN, hM, hL] at hA HB ⊢
  obtain ⟨W, hW⟩ : ∃ W, w.alloc (.cells #[.int .i64 k, .string s, .int .i64 n, .bool b, .slice a N cap, .slice aa M ca, .slice ap L cp] 26) = W := ⟨_, rfl⟩
  rw [hW] at hA HB
  have y4 := hA.at (i := 4) (v := .slice a N cap) rfl
  have y5 := hA.at (i := 5) (v := .slice aa M ca) rfl
  have y6 := hA.at (i := 6) (v := .slice ap L cp) rfl
  have l2 := h2.1
  have l3 := h3.1
  rw [hM] at l2
  rw [hL] at l3
  clear hread hN hM hL hG h1 h2 h3 hA hB
  have N0 : (0 : Int) ≤ N := by omega
  have M0 : (0 : Int) ≤ M := by omega
  have L0 : (0 : Int) ≤ L := by omega
  by_cases c1 : N ≤ 30
  · by_cases c2 : M ≤ 30
    · by_cases c3 : L ≤ 30
      · have d1 : ¬ (30 : Int) < N := by omega
        have d2 : ¬ (30 : Int) < M := by omega
        have d3 : ¬ (30 : Int) < L := by omega
        go_enter Tryz.func8, Tryz.ntmps8
        go_wp2_with fail
        clear hW
        go_loopw [24] (fun i u => ∃ k : Nat, k ≤ N ∧ i = .int .i64 k ∧ Hid (∀ j, j < k → (lc.getD j []).length ≤ 30) ∧ u = W) (fun i _ => N - (intOf i).toNat)
        case atStart => exact ⟨0, by omega, rfl, Lib.hid (fun j hj => absurd hj (by omega)), rfl⟩
        case round =>
          obtain ⟨k, hk, rfl, HP, rfl⟩ := hrel
          by_cases hlt : k < N
          · have hkl : k < lc.length := by rw [HN.out.1]; exact hlt
            obtain ⟨g, off, rfl, hat⟩ := HR.out (by omega)
            obtain ⟨u, x0, hc⟩ := hat k hkl
            obtain ⟨_, fa, fc, rfl, hfc, _⟩ := id hc
            obtain ⟨F, hF⟩ : ∃ F, (lc.getD k []).length = F := ⟨_, rfl⟩
            have hF60 := hc.1
            have HF := Lib.hid hF
            have HKL := Lib.hid hkl
            rw [hF] at x0 hfc hF60
            rw [Nat.one_mul] at x0
            have x0' := Rl.cell_on x0 HB.out
            have k0 : (0 : Int) ≤ k := by omega
            have k1 : (k : Int) < N := by omega
            clear hat hc hF hkl x0
            by_cases h60 : 30 < F
            · have h60' : (30 : Int) < F := by omega
              go_wp2_with fail
              go_ret
              refine ⟨?_, HB.out⟩
              rw [← HG.out, light8_at HKL.out (by rw [HF.out]; exact h60)]
              rfl
            · have h60' : ¬ (30 : Int) < F := by omega
              go_wp2_with fail
              refine ⟨⟨k + 1, by omega, by go_num, Lib.hid (fun j hj => ?_), trivial⟩, by simp [intOf]; omega⟩
              by_cases hj' : j < k
              · exact HP.out j hj'
              · obtain rfl : j = k := by omega
                rw [HF.out]
                omega
          · obtain rfl : k = N := by omega
            have k1 : ¬ (k : Int) < k := by omega
            go_wp2_with fail
            go_ret
            refine ⟨?_, HB.out⟩
            rw [← HG.out, light8_yes (by rw [HN.out.1]; exact c1) (by rw [HN.out.2.1]; exact c2) (by rw [HN.out.2.2]; exact c3) (fun i hi => HP.out i (by rw [← HN.out.1]; exact hi))]
            rfl
      · have d1 : ¬ (30 : Int) < N := by omega
        have d2 : ¬ (30 : Int) < M := by omega
        have d3 : (30 : Int) < L := by omega
        have hg : G = false := by rw [← HG.out]; exact light8_many (.inr (.inr (by rw [HN.out.2.2]; omega)))
        subst hg
        go_enter Tryz.func8, Tryz.ntmps8
        go_wp2_with fail
        go_ret
        exact ⟨rfl, HB.out⟩
    · have d1 : ¬ (30 : Int) < N := by omega
      have d2 : (30 : Int) < M := by omega
      have hg : G = false := by rw [← HG.out]; exact light8_many (.inr (.inl (by rw [HN.out.2.1]; omega)))
      subst hg
      go_enter Tryz.func8, Tryz.ntmps8
      go_wp2_with fail
      go_ret
      exact ⟨rfl, HB.out⟩
  · have d1 : (30 : Int) < N := by omega
    have hg : G = false := by rw [← HG.out]; exact light8_many (.inl (by rw [HN.out.1]; omega))
    subst hg
    go_enter Tryz.func8, Tryz.ntmps8
    go_wp2_with fail
    go_ret
    exact ⟨rfl, HB.out⟩
end Va
end Go.Proofs.YtapmpdljapbpeaaGreatDoor

/-
The walk of the law ValueReads.
-/
import Derived.Test.YtapmpdljapbpeaaGreatDoorValYRead
import Derived.OrdersHeld
namespace Go.Proofs.YtapmpdljapbpeaaGreatDoor
open Go.RowKit
set_option linter.unusedSimpArgs false
set_option linter.unusedVariables false
namespace Va
open Ver (Bs li li_len S S_self S_size S_li)
open Rl (At Pv Ats Pvs Clss Cls Vars whole rdC rdA rdP)
theorem rd_ne {k : Nat} {s : ByteArray} {e : Int} (h : rd k s = .error e) : e ≠ 0 := by
  unfold rd at h
  repeat' split at h
  all_goals first
    | (cases h; done)
    | (cases h; decide)
    | skip
  · cases hq : whole rdC (li s) with
    | ok xs => rw [hq] at h; cases h
    | error e' => rw [hq] at h; cases h; exact er_ne (fun l e h => Rl.rdC_err h) hq
  · cases hq : whole rdA (li s) with
    | ok xs => rw [hq] at h; cases h
    | error e' => rw [hq] at h; cases h; exact er_ne (fun l e h => Rl.rdA_er l e h) hq
  · cases hq : whole rdP (li s) with
    | ok xs => rw [hq] at h; cases h
    | error e' => rw [hq] at h; cases h; exact er_ne (fun l e h => rdP_er l e h) hq
theorem rd_small {k : Nat} {s : ByteArray} {x : Vl} (h : rd k s = .ok x) : x.Small := by
  have triv : ∀ {y : Vl}, y.cls = [] → y.ats = [] → y.pvs = [] → y.Small := fun h1 h2 h3 => ⟨⟨by rw [h1]; simp, by rw [h1]; simp⟩, by rw [h2]; simp, by rw [h3]; simp⟩
  unfold rd at h
  repeat' split at h
  all_goals first
    | (cases h; exact triv rfl rfl rfl)
    | (cases h; done)
    | skip
  · cases hq : whole rdC (li s) with
    | ok xs =>
      rw [hq] at h; cases h
      have h1 := Rl.whole_len hq
      have h2 := Rl.whole_clen hq
      exact ⟨⟨show xs.length ≤ 60000 by omega, fun c hc => by have := h2 c hc; omega⟩, Nat.zero_le _, Nat.zero_le _⟩
    | error e' => rw [hq] at h; cases h
  · cases hq : whole rdA (li s) with
    | ok xs =>
      rw [hq] at h; cases h
      have h1 := Rl.whole_len hq
      exact ⟨⟨Nat.zero_le _, fun c hc => by cases hc⟩, show xs.length ≤ 60000 by omega, Nat.zero_le _⟩
    | error e' => rw [hq] at h; cases h
  · cases hq : whole rdP (li s) with
    | ok xs =>
      rw [hq] at h; cases h
      have h1 := Rl.whole_len hq
      exact ⟨⟨Nat.zero_le _, fun c hc => by cases hc⟩, Nat.zero_le _, show xs.length ≤ 60000 by omega⟩
    | error e' => rw [hq] at h; cases h
set_option maxRecDepth 100000 in
set_option maxHeartbeats 16000000 in
theorem reads_walk (name s : ByteArray) (hn : name.size ≤ 140737488351232) (hs : s.size ≤ 140737488351232) (w : World) (hv : Vars w) :
    Calls Tryz.prog 5 #[.string name, .string s] w fun e w' => e = .returned (.bool true) ∧ Below w.heap.size w w' := by
  have ca := fun w => awake_any w
  have c1 := read_any name s (by omega) w hv
  have c2 := fun w => yread_any name s (by omega) (by omega) w
  have hne := fun e => rd_ne (k := knd name) (s := s) (e := e)
  have hsm := fun x => rd_small (k := knd name) (s := s) (x := x)
  have hi1 : (Tryz.prog.info? 30).map (·.size) = some 1 := by kernel_rfl
  have hi7 : (Tryz.prog.info? 32).map (·.size) = some 7 := by kernel_rfl
  clear hv hn hs
  generalize rd (knd name) s = O at *
  have HN := Lib.hid hne
  have HSM := Lib.hid hsm
  clear hne hsm
  go_enter Tryz.func5, Tryz.ntmps5
  go_wp2_with fail
  refine c1.mono ?_
  rintro e w1 ⟨v, er, rfl, hI, k1, hA⟩
  have ho : v.oneCell' = true := by rcases hI with rfl | ⟨t, y, rfl⟩ <;> rfl
  have j0 := Blk.Is.new w1 30 #[.nilIface]
  have q1 : Below w1.heap.size w1 ((w1.alloc (.cells #[.nilIface] 30)).setRow w1.heap.size #[v]) := below_row ((Below.refl _ _).alloc (Nat.le_refl _) _) (Nat.le_refl _) _
  have J0 := Lib.hid j0
  clear c1 hI j0
  go_wp2_with (refine wpList_store_row rfl 30 (.tmp 5) (.tmp 25) rfl w1.heap.size #[v] rfl rfl 30 #[.nilIface] J0.out hi1 (by rfl) (by simp [ho]) ?_)
  have j1 := J0.out.row #[v]
  have b1 := k1.trans (q1.mono k1.size)
  generalize (w1.alloc (.cells #[.nilIface] 30)).setRow w1.heap.size #[v] = W1 at *
  refine (c2 W1).mono ?_
  rintro e w2 ⟨rv, er2, rfl, k2, hY⟩
  have b2 := b1.trans (k2.mono b1.size)
  have j1 := Rl.is_on j1 k2
  clear c2 J0 k1 b1
  cases O with
  | error er0 =>
    obtain ⟨rfl, rfl⟩ := hA
    obtain ⟨rfl, rfl⟩ := hY
    have hne : (er2 != 0) = true := by simp [HN.out er2 rfl]
    have hee : (er2 != er2) = false := by simp
    have j2 := Blk.Is.new w2 32 #[.string ⟨#[]⟩, .string ⟨#[]⟩, .int .i64 0, .bool false, .slice none 0 0, .slice none 0 0, .slice none 0 0]
    have J2 := Lib.hid j2
    have q3 : Below w2.heap.size w2 ((w2.alloc (.cells #[.string ⟨#[]⟩, .string ⟨#[]⟩, .int .i64 0, .bool false, .slice none 0 0, .slice none 0 0, .slice none 0 0] 32)).setRow w2.heap.size #[.string ⟨#[]⟩, .string ⟨#[]⟩, .int .i64 0, .bool false, .slice none 0 0, .slice none 0 0, .slice none 0 0]) := below_row ((Below.refl _ _).alloc (Nat.le_refl _) _) (Nat.le_refl _) _
    obtain ⟨W3, hW3⟩ : ∃ W3, (w2.alloc (.cells #[.string ⟨#[]⟩, .string ⟨#[]⟩, .int .i64 0, .bool false, .slice none 0 0, .slice none 0 0, .slice none 0 0] 32)).setRow w2.heap.size #[.string ⟨#[]⟩, .string ⟨#[]⟩, .int .i64 0, .bool false, .slice none 0 0, .slice none 0 0, .slice none 0 0] = W3 := ⟨_, rfl⟩
    rw [hW3] at q3
    have b3 := b2.trans (q3.mono b2.size)
    have v0 : W3.cell? ⟨w1.heap.size, 0, none⟩ = some .nilIface := (Rl.is_on j1 q3).at (i := 0) rfl
    have ck := kind_x (B := 0) (iv := .nilIface) (x := .none) (w := W3) rfl
    clear q3 q1 j2 k2 b2 HN HSM
    go_wp2_with (refine wpList_store_row rfl 32 (.tmp 7) (.tmp 31) rfl w2.heap.size #[.string ⟨#[]⟩, .string ⟨#[]⟩, .int .i64 0, .bool false, .slice none 0 0, .slice none 0 0, .slice none 0 0] rfl rfl 32 #[.string ⟨#[]⟩, .string ⟨#[]⟩, .int .i64 0, .bool false, .slice none 0 0, .slice none 0 0, .slice none 0 0] J2.out hi7 (by rfl) (by simp [Value.oneCell']) ?_)
    refine ck.mono ?_
    rintro e w4 ⟨rfl, k4⟩
    have b4 := b3.trans (k4.mono b3.size)
    clear ck k4 b3 v0 hW3
    unfold Vl.kind
    go_wp2_with fail
    refine (ca _).mono ?_
    rintro e w5 ⟨rfl, k5⟩
    have b5 := b4.trans (k5.mono b4.size)
    clear ca k5 b4
    go_wp2_with fail
    go_ret
    exact ⟨rfl, b5⟩
  | ok x =>
    obtain ⟨rfl, hV⟩ := hA
    obtain ⟨rfl, uc, ua, up, rfl, hC, hA, hP⟩ := hY
    have hsm := HSM.out x rfl
    have hV := (hV.below q1).below k2
    obtain ⟨d1, d2, e1⟩ := hC.shape
    obtain ⟨d3, d4, e2⟩ := hA.shape
    obtain ⟨d5, d6, e3⟩ := hP.shape
    subst e1 e2 e3
    have j2 := Blk.Is.new w2 32 #[.string ⟨#[]⟩, .string ⟨#[]⟩, .int .i64 0, .bool false, .slice none 0 0, .slice none 0 0, .slice none 0 0]
    have J2 := Lib.hid j2
    have q3 : Below w2.heap.size w2 ((w2.alloc (.cells #[.string ⟨#[]⟩, .string ⟨#[]⟩, .int .i64 0, .bool false, .slice none 0 0, .slice none 0 0, .slice none 0 0] 32)).setRow w2.heap.size #[.string x.kind, .string x.txt, .int .i64 x.cnt, .bool x.ye, .slice d1 x.cls.length d2, .slice d3 x.ats.length d4, .slice d5 x.pvs.length d6]) := below_row ((Below.refl _ _).alloc (Nat.le_refl _) _) (Nat.le_refl _) _
    have j2 := j2.row #[.string x.kind, .string x.txt, .int .i64 x.cnt, .bool x.ye, .slice d1 x.cls.length d2, .slice d3 x.ats.length d4, .slice d5 x.pvs.length d6]
    obtain ⟨W3, hW3⟩ : ∃ W3, (w2.alloc (.cells #[.string ⟨#[]⟩, .string ⟨#[]⟩, .int .i64 0, .bool false, .slice none 0 0, .slice none 0 0, .slice none 0 0] 32)).setRow w2.heap.size #[.string x.kind, .string x.txt, .int .i64 x.cnt, .bool x.ye, .slice d1 x.cls.length d2, .slice d3 x.ats.length d4, .slice d5 x.pvs.length d6] = W3 := ⟨_, rfl⟩
    rw [hW3] at q3 j2
    have b3 := b2.trans (q3.mono b2.size)
    have j1 := Rl.is_on j1 q3
    have hV := hV.below q3
    have HY := Lib.hid (⟨hC.below q3, hA.below q3, hP.below q3⟩ : _ ∧ _ ∧ _)
    have v0 : W3.cell? ⟨w1.heap.size, 0, none⟩ = some v := j1.at (i := 0) rfl
    clear hC hA hP q3 q1 k2 b2 HN HSM
    go_wp2_with (refine wpList_store_row rfl 32 (.tmp 7) (.tmp 31) rfl w2.heap.size #[.string x.kind, .string x.txt, .int .i64 x.cnt, .bool x.ye, .slice d1 x.cls.length d2, .slice d3 x.ats.length d4, .slice d5 x.pvs.length d6] rfl rfl 32 #[.string ⟨#[]⟩, .string ⟨#[]⟩, .int .i64 0, .bool false, .slice none 0 0, .slice none 0 0, .slice none 0 0] J2.out hi7 (by rfl) (by simp [Value.oneCell']) ?_)
    clear hW3 J2
    refine (text_x hV).mono ?_
    rintro e w4 ⟨rfl, k4⟩
    have j1 := Rl.is_on j1 k4
    have j2 := Rl.is_on j2 k4
    have b4 := b3.trans (k4.mono b3.size)
    have hV := hV.below k4
    have HY := Lib.hid (⟨HY.out.1.below k4, HY.out.2.1.below k4, HY.out.2.2.below k4⟩ : _ ∧ _ ∧ _)
    have v0 : w4.cell? ⟨w1.heap.size, 0, none⟩ = some v := j1.at (i := 0) rfl
    clear k4 b3
    go_wp2_with fail
    refine (count_x hV).mono ?_
    rintro e w5 ⟨rfl, k5⟩
    have j1 := Rl.is_on j1 k5
    have j2 := Rl.is_on j2 k5
    have b5 := b4.trans (k5.mono b4.size)
    have hV := hV.below k5
    have HY := Lib.hid (⟨HY.out.1.below k5, HY.out.2.1.below k5, HY.out.2.2.below k5⟩ : _ ∧ _ ∧ _)
    have v0 : w5.cell? ⟨w1.heap.size, 0, none⟩ = some v := j1.at (i := 0) rfl
    clear k5 b4
    go_wp2_with fail
    refine (yes_x hV).mono ?_
    rintro e w6 ⟨rfl, k6⟩
    have j1 := Rl.is_on j1 k6
    have j2 := Rl.is_on j2 k6
    have b6 := b5.trans (k6.mono b5.size)
    have hV := hV.below k6
    have HY := Lib.hid (⟨HY.out.1.below k6, HY.out.2.1.below k6, HY.out.2.2.below k6⟩ : _ ∧ _ ∧ _)
    have v0 : w6.cell? ⟨w1.heap.size, 0, none⟩ = some v := j1.at (i := 0) rfl
    clear k6 b5
    go_wp2_with fail
    refine (clauses_x hV hsm).mono ?_
    rintro e w7 ⟨uC, rfl, huC, k7⟩
    have j1 := Rl.is_on j1 k7
    have j2 := Rl.is_on j2 k7
    have b7 := b6.trans (k7.mono b6.size)
    have hV := hV.below k7
    have HY := Lib.hid (⟨HY.out.1.below k7, HY.out.2.1.below k7, HY.out.2.2.below k7⟩ : _ ∧ _ ∧ _)
    have HuC := Lib.hid huC.here
    have v0 : w7.cell? ⟨w1.heap.size, 0, none⟩ = some v := j1.at (i := 0) rfl
    obtain ⟨uCa, uCc, rfl⟩ := huC.here.shape
    clear k7 b6 huC
    go_wp2_with fail
    refine (atoms_x hV hsm).mono ?_
    rintro e w8 ⟨uA, rfl, huA, k8⟩
    have j1 := Rl.is_on j1 k8
    have j2 := Rl.is_on j2 k8
    have b8 := b7.trans (k8.mono b7.size)
    have hV := hV.below k8
    have HY := Lib.hid (⟨HY.out.1.below k8, HY.out.2.1.below k8, HY.out.2.2.below k8⟩ : _ ∧ _ ∧ _)
    have HuA := Lib.hid huA.here
    have HuC := Lib.hid (HuC.out.below k8)
    have v0 : w8.cell? ⟨w1.heap.size, 0, none⟩ = some v := j1.at (i := 0) rfl
    obtain ⟨uAa, uAc, rfl⟩ := huA.here.shape
    clear k8 b7 huA
    go_wp2_with fail
    refine (provs_x hV hsm).mono ?_
    rintro e w9 ⟨uP, rfl, huP, k9⟩
    have j1 := Rl.is_on j1 k9
    have j2 := Rl.is_on j2 k9
    have b9 := b8.trans (k9.mono b8.size)
    have hV := hV.below k9
    have HY := Lib.hid (⟨HY.out.1.below k9, HY.out.2.1.below k9, HY.out.2.2.below k9⟩ : _ ∧ _ ∧ _)
    have HuP := Lib.hid huP.here
    have HuC := Lib.hid (HuC.out.below k9)
    have HuA := Lib.hid (HuA.out.below k9)
    have v0 : w9.cell? ⟨w1.heap.size, 0, none⟩ = some v := j1.at (i := 0) rfl
    obtain ⟨uPa, uPc, rfl⟩ := huP.here.shape
    clear k9 b8 huP
    go_wp2_with fail
    have HALL := Lib.hid (⟨j1, j2, hV⟩ : _ ∧ _ ∧ _)
    have HB := Lib.hid b9
    clear j1 j2 hV v0 b9 hsm ho
    refine wp_region_held (S := fun u => Below w9.heap.size w9 u) (by kernel_rfl) ?_
    have hS0 : Below w9.heap.size w9 w9.drew := (Below.refl _ _).drew
    have KT : (x.kind.toList == x.kind.toList) = true := beq_self_eq_true _
    have XT : (x.txt.toList == x.txt.toList) = true := beq_self_eq_true _
    have XN : (x.cnt == x.cnt) = true := beq_self_eq_true _
    have XY : (x.ye == x.ye) = true := beq_self_eq_true _
    change wpAnyH _ _ _ _ _ 45 _ _ w9.drew
    generalize w9.drew = u0 at *
    refine wpAnyH_take (i := 2) (v := .pointer (some ⟨w2.heap.size, 0, none⟩)) rfl (by kernel_rfl) (by kernel_rfl) (by kernel_rfl) (fun _ _ _ h => h) (.inl ⟨rfl, fun w _ => rfl⟩) hS0 ?_
    simp only [Act.put, List.getElem_toArray, List.getElem_cons_zero, List.getElem_cons_succ, List.setIfInBounds_toArray, List.set_cons_zero, List.set_cons_succ]
    refine wpAnyH_take (i := 3) (v := .string x.kind) rfl (by kernel_rfl) (by kernel_rfl) (by kernel_rfl) (fun _ _ _ h => h) (Reg.yields_load_one rfl 9 _ rfl w2.heap.size 0 rfl (.string x.kind) (fun u hu => (Rl.is_on HALL.out.2.1 hu).at (i := 0) rfl) Tryz.isAgg9) hS0 ?_
    simp only [Act.put, List.getElem_toArray, List.getElem_cons_zero, List.getElem_cons_succ, List.setIfInBounds_toArray, List.set_cons_zero, List.set_cons_succ]
    have v0 := (Rl.is_on HALL.out.1 hS0).at (i := 0) rfl
    refine wpAnyH_all (rs := [0]) (by kernel_rfl) (by simp) ?_
    intro i hi
    obtain rfl := List.mem_singleton.1 hi
    refine Reg.wpOp_list rfl ?_
    go_wp2_with fail
    change _ ∧ _
    refine ⟨hS0, ?_⟩
    have cx := kind_x (HALL.out.2.2.below hS0)
    clear v0
    refine wpAnyH_all (rs := [1]) (by kernel_rfl) (by simp) ?_
    intro i hi
    obtain rfl := List.mem_singleton.1 hi
    refine Reg.wpOp_list rfl ?_
    go_wp2_with fail
    refine cx.mono ?_
    rintro e u1 ⟨rfl, k1⟩
    go_wp2_with fail
    change _ ∧ _
    have hS1 : Below w9.heap.size w9 u1 := hS0.trans (k1.mono hS0.size)
    refine ⟨hS1, ?_⟩
    clear cx k1 hS0
    refine wpAnyH_all (rs := [4]) (by kernel_rfl) (by simp) ?_
    intro i hi
    obtain rfl := List.mem_singleton.1 hi
    refine Reg.wpOp_list rfl ?_
    go_wp2_with fail
    change _ ∧ _
    refine ⟨hS1, ?_⟩
    refine wpAnyH_all (rs := [5]) (by kernel_rfl) (by simp) ?_
    intro i hi
    obtain rfl := List.mem_singleton.1 hi
    refine Reg.wpOp_list rfl ?_
    go_wp2_with fail
    change _ ∧ _
    refine ⟨hS1, ?_⟩
    refine wpAnyH_take (i := 6) (v := .string x.txt) rfl (by kernel_rfl) (by kernel_rfl) (by kernel_rfl) (fun _ _ _ h => h) (.inl ⟨rfl, fun w _ => rfl⟩) hS1 ?_
    simp only [Act.put, List.getElem_toArray, List.getElem_cons_zero, List.getElem_cons_succ, List.setIfInBounds_toArray, List.set_cons_zero, List.set_cons_succ]
    refine wpAnyH_take (i := 7) (v := .pointer (some ⟨w2.heap.size, 1, none⟩)) rfl (by kernel_rfl) (by kernel_rfl) (by kernel_rfl) (fun _ _ _ h => h) (.inl ⟨rfl, fun w _ => rfl⟩) hS1 ?_
    simp only [Act.put, List.getElem_toArray, List.getElem_cons_zero, List.getElem_cons_succ, List.setIfInBounds_toArray, List.set_cons_zero, List.set_cons_succ]
    refine wpAnyH_take (i := 8) (v := .string x.txt) rfl (by kernel_rfl) (by kernel_rfl) (by kernel_rfl) (fun _ _ _ h => h) (Reg.yields_load_one rfl 9 _ rfl w2.heap.size 1 rfl (.string x.txt) (fun u hu => (Rl.is_on HALL.out.2.1 hu).at (i := 1) rfl) Tryz.isAgg9) hS1 ?_
    simp only [Act.put, List.getElem_toArray, List.getElem_cons_zero, List.getElem_cons_succ, List.setIfInBounds_toArray, List.set_cons_zero, List.set_cons_succ]
    refine wpAnyH_all (rs := [9]) (by kernel_rfl) (by simp) ?_
    intro i hi
    obtain rfl := List.mem_singleton.1 hi
    refine Reg.wpOp_list rfl ?_
    go_wp2_with fail
    change _ ∧ _
    refine ⟨hS1, ?_⟩
    refine wpAnyH_all (rs := [10]) (by kernel_rfl) (by simp) ?_
    intro i hi
    obtain rfl := List.mem_singleton.1 hi
    refine Reg.wpOp_list rfl ?_
    go_wp2_with fail
    change _ ∧ _
    refine ⟨hS1, ?_⟩
    refine wpAnyH_all (rs := [11]) (by kernel_rfl) (by simp) ?_
    intro i hi
    obtain rfl := List.mem_singleton.1 hi
    refine Reg.wpOp_list rfl ?_
    go_wp2_with fail
    change _ ∧ _
    refine ⟨hS1, ?_⟩
    refine wpAnyH_take (i := 12) (v := .int .i64 x.cnt) rfl (by kernel_rfl) (by kernel_rfl) (by kernel_rfl) (fun _ _ _ h => h) (.inl ⟨rfl, fun w _ => rfl⟩) hS1 ?_
    simp only [Act.put, List.getElem_toArray, List.getElem_cons_zero, List.getElem_cons_succ, List.setIfInBounds_toArray, List.set_cons_zero, List.set_cons_succ]
    refine wpAnyH_take (i := 13) (v := .pointer (some ⟨w2.heap.size, 2, none⟩)) rfl (by kernel_rfl) (by kernel_rfl) (by kernel_rfl) (fun _ _ _ h => h) (.inl ⟨rfl, fun w _ => rfl⟩) hS1 ?_
    simp only [Act.put, List.getElem_toArray, List.getElem_cons_zero, List.getElem_cons_succ, List.setIfInBounds_toArray, List.set_cons_zero, List.set_cons_succ]
    refine wpAnyH_take (i := 14) (v := .int .i64 x.cnt) rfl (by kernel_rfl) (by kernel_rfl) (by kernel_rfl) (fun _ _ _ h => h) (Reg.yields_load_one rfl 3 _ rfl w2.heap.size 2 rfl (.int .i64 x.cnt) (fun u hu => (Rl.is_on HALL.out.2.1 hu).at (i := 2) rfl) Tryz.isAgg3) hS1 ?_
    simp only [Act.put, List.getElem_toArray, List.getElem_cons_zero, List.getElem_cons_succ, List.setIfInBounds_toArray, List.set_cons_zero, List.set_cons_succ]
    refine wpAnyH_all (rs := [15]) (by kernel_rfl) (by simp) ?_
    intro i hi
    obtain rfl := List.mem_singleton.1 hi
    refine Reg.wpOp_list rfl ?_
    go_wp2_with fail
    change _ ∧ _
    refine ⟨hS1, ?_⟩
    refine wpAnyH_all (rs := [16]) (by kernel_rfl) (by simp) ?_
    intro i hi
    obtain rfl := List.mem_singleton.1 hi
    refine Reg.wpOp_list rfl ?_
    go_wp2_with fail
    change _ ∧ _
    refine ⟨hS1, ?_⟩
    refine wpAnyH_all (rs := [17]) (by kernel_rfl) (by simp) ?_
    intro i hi
    obtain rfl := List.mem_singleton.1 hi
    refine Reg.wpOp_list rfl ?_
    go_wp2_with fail
    change _ ∧ _
    refine ⟨hS1, ?_⟩
    refine wpAnyH_take (i := 18) (v := .bool x.ye) rfl (by kernel_rfl) (by kernel_rfl) (by kernel_rfl) (fun _ _ _ h => h) (.inl ⟨rfl, fun w _ => rfl⟩) hS1 ?_
    simp only [Act.put, List.getElem_toArray, List.getElem_cons_zero, List.getElem_cons_succ, List.setIfInBounds_toArray, List.set_cons_zero, List.set_cons_succ]
    refine wpAnyH_take (i := 19) (v := .pointer (some ⟨w2.heap.size, 3, none⟩)) rfl (by kernel_rfl) (by kernel_rfl) (by kernel_rfl) (fun _ _ _ h => h) (.inl ⟨rfl, fun w _ => rfl⟩) hS1 ?_
    simp only [Act.put, List.getElem_toArray, List.getElem_cons_zero, List.getElem_cons_succ, List.setIfInBounds_toArray, List.set_cons_zero, List.set_cons_succ]
    refine wpAnyH_take (i := 20) (v := .bool x.ye) rfl (by kernel_rfl) (by kernel_rfl) (by kernel_rfl) (fun _ _ _ h => h) (Reg.yields_load_one rfl 4 _ rfl w2.heap.size 3 rfl (.bool x.ye) (fun u hu => (Rl.is_on HALL.out.2.1 hu).at (i := 3) rfl) Tryz.isAgg4) hS1 ?_
    simp only [Act.put, List.getElem_toArray, List.getElem_cons_zero, List.getElem_cons_succ, List.setIfInBounds_toArray, List.set_cons_zero, List.set_cons_succ]
    refine wpAnyH_all (rs := [21]) (by kernel_rfl) (by simp) ?_
    intro i hi
    obtain rfl := List.mem_singleton.1 hi
    refine Reg.wpOp_list rfl ?_
    go_wp2_with fail
    change _ ∧ _
    refine ⟨hS1, ?_⟩
    refine wpAnyH_all (rs := [22]) (by kernel_rfl) (by simp) ?_
    intro i hi
    obtain rfl := List.mem_singleton.1 hi
    refine Reg.wpOp_list rfl ?_
    go_wp2_with fail
    change _ ∧ _
    refine ⟨hS1, ?_⟩
    refine wpAnyH_all (rs := [23]) (by kernel_rfl) (by simp) ?_
    intro i hi
    obtain rfl := List.mem_singleton.1 hi
    refine Reg.wpOp_list rfl ?_
    go_wp2_with fail
    change _ ∧ _
    refine ⟨hS1, ?_⟩
    refine wpAnyH_take (i := 24) (v := .slice uCa x.cls.length uCc) rfl (by kernel_rfl) (by kernel_rfl) (by kernel_rfl) (fun _ _ _ h => h) (.inl ⟨rfl, fun w _ => rfl⟩) hS1 ?_
    simp only [Act.put, List.getElem_toArray, List.getElem_cons_zero, List.getElem_cons_succ, List.setIfInBounds_toArray, List.set_cons_zero, List.set_cons_succ]
    refine wpAnyH_take (i := 25) (v := .pointer (some ⟨w2.heap.size, 4, none⟩)) rfl (by kernel_rfl) (by kernel_rfl) (by kernel_rfl) (fun _ _ _ h => h) (.inl ⟨rfl, fun w _ => rfl⟩) hS1 ?_
    simp only [Act.put, List.getElem_toArray, List.getElem_cons_zero, List.getElem_cons_succ, List.setIfInBounds_toArray, List.set_cons_zero, List.set_cons_succ]
    refine wpAnyH_take (i := 26) (v := .slice d1 x.cls.length d2) rfl (by kernel_rfl) (by kernel_rfl) (by kernel_rfl) (fun _ _ _ h => h) (Reg.yields_load_one rfl 22 _ rfl w2.heap.size 4 rfl (.slice d1 x.cls.length d2) (fun u hu => (Rl.is_on HALL.out.2.1 hu).at (i := 4) rfl) Tryz.isAgg22) hS1 ?_
    simp only [Act.put, List.getElem_toArray, List.getElem_cons_zero, List.getElem_cons_succ, List.setIfInBounds_toArray, List.set_cons_zero, List.set_cons_succ]
    have cx := Rl.sameClauses_any _ _ _ _ u1 (HuC.out.below hS1) (HY.out.1.below hS1)
    rw [decide_eq_true rfl] at cx
    refine wpAnyH_all (rs := [27]) (by kernel_rfl) (by simp) ?_
    intro i hi
    obtain rfl := List.mem_singleton.1 hi
    refine Reg.wpOp_list rfl ?_
    go_wp2_with fail
    refine cx.mono ?_
    rintro e u2 ⟨rfl, hd⟩
    have k2 := Rl.drewn_below hd
    go_wp2_with fail
    change _ ∧ _
    have hS2 : Below w9.heap.size w9 u2 := hS1.trans (k2.mono hS1.size)
    refine ⟨hS2, ?_⟩
    clear cx k2 hS1 hd
    refine wpAnyH_all (rs := [28]) (by kernel_rfl) (by simp) ?_
    intro i hi
    obtain rfl := List.mem_singleton.1 hi
    refine Reg.wpOp_list rfl ?_
    go_wp2_with fail
    change _ ∧ _
    refine ⟨hS2, ?_⟩
    refine wpAnyH_all (rs := [29]) (by kernel_rfl) (by simp) ?_
    intro i hi
    obtain rfl := List.mem_singleton.1 hi
    refine Reg.wpOp_list rfl ?_
    go_wp2_with fail
    change _ ∧ _
    refine ⟨hS2, ?_⟩
    refine wpAnyH_take (i := 30) (v := .slice uAa x.ats.length uAc) rfl (by kernel_rfl) (by kernel_rfl) (by kernel_rfl) (fun _ _ _ h => h) (.inl ⟨rfl, fun w _ => rfl⟩) hS2 ?_
    simp only [Act.put, List.getElem_toArray, List.getElem_cons_zero, List.getElem_cons_succ, List.setIfInBounds_toArray, List.set_cons_zero, List.set_cons_succ]
    refine wpAnyH_take (i := 31) (v := .pointer (some ⟨w2.heap.size, 5, none⟩)) rfl (by kernel_rfl) (by kernel_rfl) (by kernel_rfl) (fun _ _ _ h => h) (.inl ⟨rfl, fun w _ => rfl⟩) hS2 ?_
    simp only [Act.put, List.getElem_toArray, List.getElem_cons_zero, List.getElem_cons_succ, List.setIfInBounds_toArray, List.set_cons_zero, List.set_cons_succ]
    refine wpAnyH_take (i := 32) (v := .slice d3 x.ats.length d4) rfl (by kernel_rfl) (by kernel_rfl) (by kernel_rfl) (fun _ _ _ h => h) (Reg.yields_load_one rfl 23 _ rfl w2.heap.size 5 rfl (.slice d3 x.ats.length d4) (fun u hu => (Rl.is_on HALL.out.2.1 hu).at (i := 5) rfl) Tryz.isAgg23) hS2 ?_
    simp only [Act.put, List.getElem_toArray, List.getElem_cons_zero, List.getElem_cons_succ, List.setIfInBounds_toArray, List.set_cons_zero, List.set_cons_succ]
    have cx := Rl.sameAtoms_any _ _ _ _ u2 (HuA.out.below hS2) (HY.out.2.1.below hS2)
    rw [decide_eq_true rfl] at cx
    refine wpAnyH_all (rs := [33]) (by kernel_rfl) (by simp) ?_
    intro i hi
    obtain rfl := List.mem_singleton.1 hi
    refine Reg.wpOp_list rfl ?_
    go_wp2_with fail
    refine cx.mono ?_
    rintro e u3 ⟨rfl, hd⟩
    have k3 := Rl.drewn_below hd
    go_wp2_with fail
    change _ ∧ _
    have hS3 : Below w9.heap.size w9 u3 := hS2.trans (k3.mono hS2.size)
    refine ⟨hS3, ?_⟩
    clear cx k3 hS2 hd
    refine wpAnyH_all (rs := [34]) (by kernel_rfl) (by simp) ?_
    intro i hi
    obtain rfl := List.mem_singleton.1 hi
    refine Reg.wpOp_list rfl ?_
    go_wp2_with fail
    change _ ∧ _
    refine ⟨hS3, ?_⟩
    refine wpAnyH_all (rs := [35]) (by kernel_rfl) (by simp) ?_
    intro i hi
    obtain rfl := List.mem_singleton.1 hi
    refine Reg.wpOp_list rfl ?_
    go_wp2_with fail
    change _ ∧ _
    refine ⟨hS3, ?_⟩
    refine wpAnyH_take (i := 36) (v := .slice uPa x.pvs.length uPc) rfl (by kernel_rfl) (by kernel_rfl) (by kernel_rfl) (fun _ _ _ h => h) (.inl ⟨rfl, fun w _ => rfl⟩) hS3 ?_
    simp only [Act.put, List.getElem_toArray, List.getElem_cons_zero, List.getElem_cons_succ, List.setIfInBounds_toArray, List.set_cons_zero, List.set_cons_succ]
    refine wpAnyH_take (i := 37) (v := .pointer (some ⟨w2.heap.size, 6, none⟩)) rfl (by kernel_rfl) (by kernel_rfl) (by kernel_rfl) (fun _ _ _ h => h) (.inl ⟨rfl, fun w _ => rfl⟩) hS3 ?_
    simp only [Act.put, List.getElem_toArray, List.getElem_cons_zero, List.getElem_cons_succ, List.setIfInBounds_toArray, List.set_cons_zero, List.set_cons_succ]
    refine wpAnyH_take (i := 38) (v := .slice d5 x.pvs.length d6) rfl (by kernel_rfl) (by kernel_rfl) (by kernel_rfl) (fun _ _ _ h => h) (Reg.yields_load_one rfl 24 _ rfl w2.heap.size 6 rfl (.slice d5 x.pvs.length d6) (fun u hu => (Rl.is_on HALL.out.2.1 hu).at (i := 6) rfl) Tryz.isAgg24) hS3 ?_
    simp only [Act.put, List.getElem_toArray, List.getElem_cons_zero, List.getElem_cons_succ, List.setIfInBounds_toArray, List.set_cons_zero, List.set_cons_succ]
    have cx := Rl.sameProvides_any _ _ _ _ u3 (HuP.out.below hS3) (HY.out.2.2.below hS3)
    rw [decide_eq_true rfl] at cx
    refine wpAnyH_all (rs := [39]) (by kernel_rfl) (by simp) ?_
    intro i hi
    obtain rfl := List.mem_singleton.1 hi
    refine Reg.wpOp_list rfl ?_
    go_wp2_with fail
    refine cx.mono ?_
    rintro e u4 ⟨rfl, hd⟩
    have k4 := Rl.drewn_below hd
    go_wp2_with fail
    change _ ∧ _
    have hS4 : Below w9.heap.size w9 u4 := hS3.trans (k4.mono hS3.size)
    refine ⟨hS4, ?_⟩
    clear cx k4 hS3 hd
    refine wpAnyH_all (rs := [40]) (by kernel_rfl) (by simp) ?_
    intro i hi
    obtain rfl := List.mem_singleton.1 hi
    refine Reg.wpOp_list rfl ?_
    go_wp2_with fail
    change _ ∧ _
    refine ⟨hS4, ?_⟩
    refine wpAnyH_all (rs := [41]) (by kernel_rfl) (by simp) ?_
    intro i hi
    obtain rfl := List.mem_singleton.1 hi
    refine Reg.wpOp_list rfl ?_
    go_wp2_with fail
    change _ ∧ _
    refine ⟨hS4, ?_⟩
    have cx := ca u4
    refine wpAnyH_all (rs := [42]) (by kernel_rfl) (by simp) ?_
    intro i hi
    obtain rfl := List.mem_singleton.1 hi
    refine Reg.wpOp_list rfl ?_
    go_wp2_with fail
    refine cx.mono ?_
    rintro e u5 ⟨rfl, k5⟩
    go_wp2_with fail
    change _ ∧ _
    have hS5 : Below w9.heap.size w9 u5 := hS4.trans (k5.mono hS4.size)
    refine ⟨hS5, ?_⟩
    clear cx k5 hS4
    refine wpAnyH_all (rs := [43]) (by kernel_rfl) (by simp) ?_
    intro i hi
    obtain rfl := List.mem_singleton.1 hi
    refine Reg.wpOp_list rfl ?_
    go_wp2_with fail
    change _ ∧ _
    refine ⟨hS5, ?_⟩
    refine wpAnyH_all (rs := [44]) (by kernel_rfl) (by simp) ?_
    intro i hi
    obtain rfl := List.mem_singleton.1 hi
    refine Reg.wpOp_list rfl ?_
    go_wp2_with fail
    change _ ∧ _
    refine ⟨hS5, ?_⟩
    refine wpAnyH_done (by kernel_rfl) ?_ _
    have K9 := HB.out.trans (hS5.mono HB.out.size)
    go_wp2_with fail
    go_ret
    exact ⟨rfl, K9⟩
end Va
end Go.Proofs.YtapmpdljapbpeaaGreatDoor

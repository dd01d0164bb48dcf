/-
parse, Parse, ParseAtoms, ParseProvides, ParseAtom. ParseAtom.
-/
import Derived.Test.YtddfjndclgapcaaDoorRelListC
import Derived.Test.YtddfjndclgapcaaDoorRelListP
namespace Go.Proofs.YtddfjndclgapcaaDoor
open Go.RowKit
set_option linter.unusedSimpArgs false
set_option linter.unusedVariables false
namespace Rl
open Ver (Bs li li_len li_drop S S_self S_of S_size S_li below_drewN empty_is empty_no MaxLen Signs)
/-- What Parse tells. -/
def WholeC (w : World) (o : Except Int (List (List At))) (e : Ending) (w' : World) : Prop :=
  Below w.heap.size w w' ∧ match o with
    | .error er => e = .returned (.tuple #[.slice none 0 0, .int .i64 er])
    | .ok xs => ∃ v vs, e = .returned (.tuple #[v, .int .i64 0]) ∧ w'.ownsRow w.heap.size 39 1 v xs.length vs ∧ Cls w' w.heap.size vs xs
theorem chg_new {w u u' : World} {p : Nat} (hb : Below w.heap.size w u) (hp : w.heap.size ≤ p) (hc : Blk.Chg (fun k => k = p) u u') : Below w.heap.size w u' :=
  hb.trans (hc.below (fun k hk => by omega) hb.size)
set_option maxRecDepth 100000 in
set_option maxHeartbeats 4000000 in
theorem parseC_any (s : ByteArray) (w : World) (hs : s.size ≤ 4611686018427387904) (hv : Vars w) :
    Calls Tryd.prog 31 #[.string s, .func (.func 32) #[] #[]] w fun e w' => WholeC w (whole rdC (li s)) e w' := by
  have cn := fun w => new_any s w hs
  have hob := fun b => hv.off (b := b)
  have HOB := Lib.hid hob
  have HV := Lib.hid hv
  clear hv hob
  unfold whole
  by_cases h0 : skip (li s) = []
  · rw [if_pos h0]
    rw [h0] at cn
    clear h0
    go_enter Tryd.func31, Tryd.ntmps31
    go_wp2_with fail
    refine (cn _).mono ?_
    rintro e w1 ⟨p, rfl, k1, k2, k3⟩
    have cd := fun w h => done_any p [] w h
    simp only [decide_true] at cd
    go_wp2_with fail
    refine (cd _ k2).mono ?_
    rintro e w2 ⟨rfl, rfl⟩
    go_wp2_with fail
    go_ret2
    exact ⟨k3, _, [], rfl, World.ownsRow_nil _ _ _ 1, Cls.nil _ _⟩
  · rw [if_neg h0]
    obtain ⟨l, hl⟩ : ∃ l, skip (li s) = l := ⟨_, rfl⟩
    rw [hl] at h0 cn ⊢
    have cd0 := fun p w h => done_any p l w h
    simp only [decide_eq_false h0] at cd0
    have cl := fun p w h hv hp => listC_any p l 12 44 w h hv hp (by omega)
    clear hl h0
    cases hq : items rdC 44 12 l with
    | error er =>
      have her := items_er (fun l e => rdC_err) 44 12 l er hq
      have he0 : (er == 0) = false := by rw [beq_eq_false_iff_ne]; omega
      rw [hq] at cl
      unfold PostC at cl
      unfold WholeC
      simp only at cl ⊢
      clear her hq
      go_enter Tryd.func31, Tryd.ntmps31
      go_wp2_with fail
      refine (cn _).mono ?_
      rintro e w1 ⟨p, rfl, k1, k2, k3⟩
      go_wp2_with fail
      refine (cd0 p _ k2).mono ?_
      rintro e w2 ⟨rfl, rfl⟩
      go_wp2_with fail
      refine (cl p _ k2 (HV.out.on k3) (HOB.out p k1)).mono ?_
      rintro e w3 ⟨k4, rfl, k5⟩
      go_wp2_with fail
      go_ret2
      exact ⟨chg_new k3 k1 k4, rfl⟩
    | ok q =>
      obtain ⟨xs, r⟩ := q
      rw [hq] at cl
      unfold PostC at cl
      unfold WholeC
      simp only at cl ⊢
      clear hq
      by_cases hr : r = []
      · subst hr
        rw [if_pos rfl]
        simp only
        have cd1 := fun p w h => done_any p [] w h
        simp only [decide_true] at cd1
        go_enter Tryd.func31, Tryd.ntmps31
        go_wp2_with fail
        refine (cn _).mono ?_
        rintro e w1 ⟨p, rfl, k1, k2, k3⟩
        go_wp2_with fail
        refine (cd0 p _ k2).mono ?_
        rintro e w2 ⟨rfl, rfl⟩
        go_wp2_with fail
        refine (cl p _ k2 (HV.out.on k3) (HOB.out p k1)).mono ?_
        rintro e w3 ⟨k4, k5, v, vs, rfl, k6, k7⟩
        go_wp2_with fail
        refine (cd1 p _ k5).mono ?_
        rintro e w4 ⟨rfl, rfl⟩
        go_wp2_with fail
        go_ret2
        exact ⟨chg_new k3 k1 k4, _, _, rfl, own_mono k6 k3.size, k7.mono k3.size⟩
      · rw [if_neg hr]
        simp only
        have cd1 := fun p w h => done_any p r w h
        simp only [decide_eq_false hr] at cd1
        clear hr
        go_enter Tryd.func31, Tryd.ntmps31
        go_wp2_with fail
        refine (cn _).mono ?_
        rintro e w1 ⟨p, rfl, k1, k2, k3⟩
        go_wp2_with fail
        refine (cd0 p _ k2).mono ?_
        rintro e w2 ⟨rfl, rfl⟩
        go_wp2_with fail
        refine (cl p _ k2 (HV.out.on k3) (HOB.out p k1)).mono ?_
        rintro e w3 ⟨k4, k5, v, vs, rfl, k6, k7⟩
        go_wp2_with fail
        refine (cd1 p _ k5).mono ?_
        rintro e w4 ⟨rfl, rfl⟩
        go_wp2_with fail
        go_ret2
        exact ⟨chg_new k3 k1 k4, rfl⟩
/-- What ParseAtoms tells. -/
def WholeA (w : World) (o : Except Int (List At)) (e : Ending) (w' : World) : Prop :=
  Below w.heap.size w w' ∧ match o with
    | .error er => e = .returned (.tuple #[.slice none 0 0, .int .i64 er])
    | .ok xs => ∃ v, e = .returned (.tuple #[v, .int .i64 0]) ∧ w'.ownsRow w.heap.size 36 3 v xs.length (acells xs)
/-- What ParseProvides tells. -/
def WholeP (w : World) (o : Except Int (List Pv)) (e : Ending) (w' : World) : Prop :=
  Below w.heap.size w w' ∧ match o with
    | .error er => e = .returned (.tuple #[.slice none 0 0, .int .i64 er])
    | .ok xs => ∃ v, e = .returned (.tuple #[v, .int .i64 0]) ∧ w'.ownsRow w.heap.size 68 2 v xs.length (pcells xs)
set_option maxRecDepth 100000 in
set_option maxHeartbeats 4000000 in
theorem parseA_any (s : ByteArray) (w : World) (hs : s.size ≤ 4611686018427387904) (hv : Vars w) :
    Calls Tryd.prog 35 #[.string s, .func (.func 36) #[] #[]] w fun e w' => WholeA w (whole rdA (li s)) e w' := by
  have cn := fun w => new_any s w hs
  have hob := fun b => hv.off (b := b)
  have HOB := Lib.hid hob
  have HV := Lib.hid hv
  clear hv hob
  unfold whole
  by_cases h0 : skip (li s) = []
  · rw [if_pos h0]
    rw [h0] at cn
    clear h0
    go_enter Tryd.func35, Tryd.ntmps35
    go_wp2_with fail
    refine (cn _).mono ?_
    rintro e w1 ⟨p, rfl, k1, k2, k3⟩
    have cd := fun w h => done_any p [] w h
    simp only [decide_true] at cd
    go_wp2_with fail
    refine (cd _ k2).mono ?_
    rintro e w2 ⟨rfl, rfl⟩
    go_wp2_with fail
    go_ret2
    exact ⟨k3, _, rfl, World.ownsRow_nil _ _ _ 3⟩
  · rw [if_neg h0]
    obtain ⟨l, hl⟩ : ∃ l, skip (li s) = l := ⟨_, rfl⟩
    rw [hl] at h0 cn ⊢
    have cd0 := fun p w h => done_any p l w h
    simp only [decide_eq_false h0] at cd0
    have cl := fun p w h hv hp => listA_any p l 12 44 w h hv hp (by omega)
    clear hl h0
    cases hq : items rdA 44 12 l with
    | error er =>
      have her := items_er rdA_er 44 12 l er hq
      have he0 : (er == 0) = false := by rw [beq_eq_false_iff_ne]; omega
      rw [hq] at cl
      unfold PostA at cl
      unfold WholeA
      simp only at cl ⊢
      clear her hq
      go_enter Tryd.func35, Tryd.ntmps35
      go_wp2_with fail
      refine (cn _).mono ?_
      rintro e w1 ⟨p, rfl, k1, k2, k3⟩
      go_wp2_with fail
      refine (cd0 p _ k2).mono ?_
      rintro e w2 ⟨rfl, rfl⟩
      go_wp2_with fail
      refine (cl p _ k2 (HV.out.on k3) (HOB.out p k1)).mono ?_
      rintro e w3 ⟨k4, rfl, k5⟩
      go_wp2_with fail
      go_ret2
      exact ⟨chg_new k3 k1 k4, rfl⟩
    | ok q =>
      obtain ⟨xs, r⟩ := q
      rw [hq] at cl
      unfold PostA at cl
      unfold WholeA
      simp only at cl ⊢
      clear hq
      by_cases hr : r = []
      · subst hr
        rw [if_pos rfl]
        simp only
        have cd1 := fun p w h => done_any p [] w h
        simp only [decide_true] at cd1
        go_enter Tryd.func35, Tryd.ntmps35
        go_wp2_with fail
        refine (cn _).mono ?_
        rintro e w1 ⟨p, rfl, k1, k2, k3⟩
        go_wp2_with fail
        refine (cd0 p _ k2).mono ?_
        rintro e w2 ⟨rfl, rfl⟩
        go_wp2_with fail
        refine (cl p _ k2 (HV.out.on k3) (HOB.out p k1)).mono ?_
        rintro e w3 ⟨k4, k5, v, rfl, k6⟩
        go_wp2_with fail
        refine (cd1 p _ k5).mono ?_
        rintro e w4 ⟨rfl, rfl⟩
        go_wp2_with fail
        go_ret2
        exact ⟨chg_new k3 k1 k4, _, rfl, own_mono k6 k3.size⟩
      · rw [if_neg hr]
        simp only
        have cd1 := fun p w h => done_any p r w h
        simp only [decide_eq_false hr] at cd1
        clear hr
        go_enter Tryd.func35, Tryd.ntmps35
        go_wp2_with fail
        refine (cn _).mono ?_
        rintro e w1 ⟨p, rfl, k1, k2, k3⟩
        go_wp2_with fail
        refine (cd0 p _ k2).mono ?_
        rintro e w2 ⟨rfl, rfl⟩
        go_wp2_with fail
        refine (cl p _ k2 (HV.out.on k3) (HOB.out p k1)).mono ?_
        rintro e w3 ⟨k4, k5, v, rfl, k6⟩
        go_wp2_with fail
        refine (cd1 p _ k5).mono ?_
        rintro e w4 ⟨rfl, rfl⟩
        go_wp2_with fail
        go_ret2
        exact ⟨chg_new k3 k1 k4, rfl⟩
set_option maxRecDepth 100000 in
set_option maxHeartbeats 4000000 in
theorem parseP_any (s : ByteArray) (w : World) (hs : s.size ≤ 4611686018427387904) (hv : Vars w) :
    Calls Tryd.prog 37 #[.string s, .func (.func 38) #[] #[]] w fun e w' => WholeP w (whole rdP (li s)) e w' := by
  have cn := fun w => new_any s w hs
  have hob := fun b => hv.off (b := b)
  have HOB := Lib.hid hob
  have HV := Lib.hid hv
  clear hv hob
  unfold whole
  by_cases h0 : skip (li s) = []
  · rw [if_pos h0]
    rw [h0] at cn
    clear h0
    go_enter Tryd.func37, Tryd.ntmps37
    go_wp2_with fail
    refine (cn _).mono ?_
    rintro e w1 ⟨p, rfl, k1, k2, k3⟩
    have cd := fun w h => done_any p [] w h
    simp only [decide_true] at cd
    go_wp2_with fail
    refine (cd _ k2).mono ?_
    rintro e w2 ⟨rfl, rfl⟩
    go_wp2_with fail
    go_ret2
    exact ⟨k3, _, rfl, World.ownsRow_nil _ _ _ 2⟩
  · rw [if_neg h0]
    obtain ⟨l, hl⟩ : ∃ l, skip (li s) = l := ⟨_, rfl⟩
    rw [hl] at h0 cn ⊢
    have cd0 := fun p w h => done_any p l w h
    simp only [decide_eq_false h0] at cd0
    have cl := fun p w h hv hp => listP_any p l 12 44 w h hv hp (by omega)
    clear hl h0
    cases hq : items rdP 44 12 l with
    | error er =>
      have her := items_er (fun l e h => .inl (rdP_err h)) 44 12 l er hq
      have he0 : (er == 0) = false := by rw [beq_eq_false_iff_ne]; omega
      rw [hq] at cl
      unfold PostP at cl
      unfold WholeP
      simp only at cl ⊢
      clear her hq
      go_enter Tryd.func37, Tryd.ntmps37
      go_wp2_with fail
      refine (cn _).mono ?_
      rintro e w1 ⟨p, rfl, k1, k2, k3⟩
      go_wp2_with fail
      refine (cd0 p _ k2).mono ?_
      rintro e w2 ⟨rfl, rfl⟩
      go_wp2_with fail
      refine (cl p _ k2 (HV.out.on k3) (HOB.out p k1)).mono ?_
      rintro e w3 ⟨k4, rfl, k5⟩
      go_wp2_with fail
      go_ret2
      exact ⟨chg_new k3 k1 k4, rfl⟩
    | ok q =>
      obtain ⟨xs, r⟩ := q
      rw [hq] at cl
      unfold PostP at cl
      unfold WholeP
      simp only at cl ⊢
      clear hq
      by_cases hr : r = []
      · subst hr
        rw [if_pos rfl]
        simp only
        have cd1 := fun p w h => done_any p [] w h
        simp only [decide_true] at cd1
        go_enter Tryd.func37, Tryd.ntmps37
        go_wp2_with fail
        refine (cn _).mono ?_
        rintro e w1 ⟨p, rfl, k1, k2, k3⟩
        go_wp2_with fail
        refine (cd0 p _ k2).mono ?_
        rintro e w2 ⟨rfl, rfl⟩
        go_wp2_with fail
        refine (cl p _ k2 (HV.out.on k3) (HOB.out p k1)).mono ?_
        rintro e w3 ⟨k4, k5, v, rfl, k6⟩
        go_wp2_with fail
        refine (cd1 p _ k5).mono ?_
        rintro e w4 ⟨rfl, rfl⟩
        go_wp2_with fail
        go_ret2
        exact ⟨chg_new k3 k1 k4, _, rfl, own_mono k6 k3.size⟩
      · rw [if_neg hr]
        simp only
        have cd1 := fun p w h => done_any p r w h
        simp only [decide_eq_false hr] at cd1
        clear hr
        go_enter Tryd.func37, Tryd.ntmps37
        go_wp2_with fail
        refine (cn _).mono ?_
        rintro e w1 ⟨p, rfl, k1, k2, k3⟩
        go_wp2_with fail
        refine (cd0 p _ k2).mono ?_
        rintro e w2 ⟨rfl, rfl⟩
        go_wp2_with fail
        refine (cl p _ k2 (HV.out.on k3) (HOB.out p k1)).mono ?_
        rintro e w3 ⟨k4, k5, v, rfl, k6⟩
        go_wp2_with fail
        refine (cd1 p _ k5).mono ?_
        rintro e w4 ⟨rfl, rfl⟩
        go_wp2_with fail
        go_ret2
        exact ⟨chg_new k3 k1 k4, rfl⟩
theorem Parse_any (s : ByteArray) (w : World) (hs : s.size ≤ 4611686018427387904) (hv : Vars w) :
    Calls Tryd.prog 9 #[.string s] w fun e w' => WholeC w (whole rdC (li s)) e w' := by
  have c := parseC_any s w hs hv
  clear hv hs
  cases hq : whole rdC (li s) with
  | error er =>
    rw [hq] at c
    unfold WholeC at c ⊢
    simp only at c ⊢
    clear hq
    go_enter Tryd.func9, Tryd.ntmps9
    go_wp2_with fail
    refine c.mono ?_
    rintro e w1 ⟨k1, rfl⟩
    go_wp2_with fail
    go_ret2
    exact ⟨k1, rfl⟩
  | ok xs =>
    rw [hq] at c
    unfold WholeC at c ⊢
    simp only at c ⊢
    clear hq
    go_enter Tryd.func9, Tryd.ntmps9
    go_wp2_with fail
    refine c.mono ?_
    rintro e w1 ⟨k1, v, vs, rfl, k2, k3⟩
    go_wp2_with fail
    go_ret2
    exact ⟨k1, _, _, rfl, k2, k3⟩
theorem ParseAtoms_any (s : ByteArray) (w : World) (hs : s.size ≤ 4611686018427387904) (hv : Vars w) :
    Calls Tryd.prog 11 #[.string s] w fun e w' => WholeA w (whole rdA (li s)) e w' := by
  have c := parseA_any s w hs hv
  clear hv hs
  cases hq : whole rdA (li s) with
  | error er =>
    rw [hq] at c
    unfold WholeA at c ⊢
    simp only at c ⊢
    clear hq
    go_enter Tryd.func11, Tryd.ntmps11
    go_wp2_with fail
    refine c.mono ?_
    rintro e w1 ⟨k1, rfl⟩
    go_wp2_with fail
    go_ret2
    exact ⟨k1, rfl⟩
  | ok xs =>
    rw [hq] at c
    unfold WholeA at c ⊢
    simp only at c ⊢
    clear hq
    go_enter Tryd.func11, Tryd.ntmps11
    go_wp2_with fail
    refine c.mono ?_
    rintro e w1 ⟨k1, v, rfl, k2⟩
    go_wp2_with fail
    go_ret2
    exact ⟨k1, _, rfl, k2⟩
theorem ParseProvides_any (s : ByteArray) (w : World) (hs : s.size ≤ 4611686018427387904) (hv : Vars w) :
    Calls Tryd.prog 13 #[.string s] w fun e w' => WholeP w (whole rdP (li s)) e w' := by
  have c := parseP_any s w hs hv
  clear hv hs
  cases hq : whole rdP (li s) with
  | error er =>
    rw [hq] at c
    unfold WholeP at c ⊢
    simp only at c ⊢
    clear hq
    go_enter Tryd.func13, Tryd.ntmps13
    go_wp2_with fail
    refine c.mono ?_
    rintro e w1 ⟨k1, rfl⟩
    go_wp2_with fail
    go_ret2
    exact ⟨k1, rfl⟩
  | ok xs =>
    rw [hq] at c
    unfold WholeP at c ⊢
    simp only at c ⊢
    clear hq
    go_enter Tryd.func13, Tryd.ntmps13
    go_wp2_with fail
    refine c.mono ?_
    rintro e w1 ⟨k1, v, rfl, k2⟩
    go_wp2_with fail
    go_ret2
    exact ⟨k1, _, rfl, k2⟩
end Rl
end Go.Proofs.YtddfjndclgapcaaDoor
namespace Go.Proofs.YtddfjndclgapcaaDoor
open Go.RowKit
set_option linter.unusedSimpArgs false
set_option linter.unusedVariables false
namespace Rl
open Ver (Bs li li_len li_drop S S_self S_of S_size S_li below_drewN empty_is empty_no MaxLen Signs)
/-- A reader of the call's own and the place of the result, three cells. -/
structure St3 (w u : World) (p : Nat) (l : Bs) : Prop where
  np : w.heap.size < p
  rd : Rd u p l
  res : Blk.Is u w.heap.size 36 #[.string ⟨#[]⟩, .int .i64 0, .string ⟨#[]⟩]
  bel : Below w.heap.size w u
theorem St3.below {w u u' : World} {p : Nat} {l : Bs} (h : St3 w u p l) (hb : Below u.heap.size u u') : St3 w u' p l :=
  ⟨h.np, h.rd.below hb, is_on h.res hb, h.bel.trans (hb.mono h.bel.size)⟩
theorem St3.call {w u u' : World} {p : Nat} {l l' : Bs} (h : St3 w u p l) (hr : Rd u' p l') (hc : Blk.Chg (fun k => k = p) u u') : St3 w u' p l' := by
  have h1 := h.np
  exact ⟨h1, hr, hc.is h.res (by omega), chg_new h.bel (Nat.le_of_lt h1) hc⟩
theorem St3.rcells {w u : World} {p : Nat} {l : Bs} (h : St3 w u p l) : u.cell? ⟨w.heap.size, 0, none⟩ = some (.string ⟨#[]⟩) ∧ u.cell? ⟨w.heap.size, 1, none⟩ = some (.int .i64 0) ∧ u.cell? ⟨w.heap.size, 2, none⟩ = some (.string ⟨#[]⟩) ∧ u.frozen? ⟨w.heap.size, 0, none⟩ = false ∧ u.frozen? ⟨w.heap.size, 1, none⟩ = false ∧ u.frozen? ⟨w.heap.size, 2, none⟩ = false :=
  ⟨h.res.at rfl, h.res.at rfl, h.res.at rfl, h.res.free _, h.res.free _, h.res.free _⟩
theorem St3.fin {w u : World} {p : Nat} {l : Bs} (h : St3 w u p l) (x' y' z' : Value) :
    (((u.setCell ⟨w.heap.size, 0, none⟩ x').setCell ⟨w.heap.size, 1, none⟩ y').setCell ⟨w.heap.size, 2, none⟩ z').cell? ⟨w.heap.size, 0, none⟩ = some x' ∧
    (((u.setCell ⟨w.heap.size, 0, none⟩ x').setCell ⟨w.heap.size, 1, none⟩ y').setCell ⟨w.heap.size, 2, none⟩ z').cell? ⟨w.heap.size, 1, none⟩ = some y' ∧
    (((u.setCell ⟨w.heap.size, 0, none⟩ x').setCell ⟨w.heap.size, 1, none⟩ y').setCell ⟨w.heap.size, 2, none⟩ z').cell? ⟨w.heap.size, 2, none⟩ = some z' ∧
    Below w.heap.size w (((u.setCell ⟨w.heap.size, 0, none⟩ x').setCell ⟨w.heap.size, 1, none⟩ y').setCell ⟨w.heap.size, 2, none⟩ z') := by
  have h3 := ((h.res.set 0 x').set 1 y').set 2 z'
  exact ⟨h3.at rfl, h3.at rfl, h3.at rfl, ((h.bel.setCell (p := ⟨w.heap.size, 0, none⟩) (Nat.le_refl _) _).setCell (p := ⟨w.heap.size, 1, none⟩) (Nat.le_refl _) _).setCell (p := ⟨w.heap.size, 2, none⟩) (Nat.le_refl _) _⟩
def OneA (w : World) (o : Option At) (e : Ending) (w' : World) : Prop :=
  Below w.heap.size w w' ∧ match o with
    | none => e = .returned (.tuple #[zA, .int .i64 3])
    | some a => e = .returned (.tuple #[aV a, .int .i64 0])
set_option maxRecDepth 100000 in
set_option maxHeartbeats 4000000 in
theorem ParseAtom_any (s : ByteArray) (w : World) (hs : s.size ≤ 4611686018427387904) (hv : Vars w) :
    Calls Tryd.prog 18 #[.string s] w fun e w' => OneA w (one (li s)) e w' := by
  have cn := fun w => new_any s w hs
  have hob := fun b => hv.off (b := b)
  have hB0 : Below w.heap.size w (w.alloc (.cells #[.string ⟨#[]⟩, .int .i64 0, .string ⟨#[]⟩] 36)) := (Below.refl _ _).alloc (Nat.le_refl _) _
  have hI0 := Blk.Is.new w 36 #[.string ⟨#[]⟩, .int .i64 0, .string ⟨#[]⟩]
  have hst : ∀ u p l', (w.alloc (.cells #[.string ⟨#[]⟩, .int .i64 0, .string ⟨#[]⟩] 36)).heap.size ≤ p → Rd u p l' → Below (w.alloc (.cells #[.string ⟨#[]⟩, .int .i64 0, .string ⟨#[]⟩] 36)).heap.size (w.alloc (.cells #[.string ⟨#[]⟩, .int .i64 0, .string ⟨#[]⟩] 36)) u → St3 w u p l' ∧ Vars u ∧ Off p := by
    intro u p l' h1 h2 h3
    have hlt := hI0.lt
    exact ⟨⟨by omega, h2, is_on hI0 h3, hB0.trans (h3.mono hB0.size)⟩, (hv.on hB0).on h3, hob p (by omega)⟩
  have HST := Lib.hid hst
  clear hv hob hB0 hI0 hst
  unfold one
  generalize skip (li s) = l at *
  have ca := fun p w h hv hp => readAtom_any p l w h hv hp
  cases hat : atom l with
  | none =>
    rw [hat] at ca
    simp only [toldA, zA, nextA] at ca
    unfold OneA
    simp only [zA]
    clear hat
    go_enter Tryd.func18, Tryd.ntmps18
    go_wp2_with fail
    generalize w.alloc (.cells #[.string ⟨#[]⟩, .int .i64 0, .string ⟨#[]⟩] 36) = W at *
    refine (cn _).mono ?_
    rintro e w1 ⟨p, rfl, k1, k2, k3⟩
    obtain ⟨s1, v1, o1⟩ := HST.out _ _ _ k1 k2 k3
    have S1 := Lib.hid s1
    clear k1 k3 s1 HST
    go_wp2_with fail
    refine (ca p _ k2 v1 o1).mono ?_
    rintro e w2 ⟨rfl, k4, k5⟩
    obtain ⟨l1, k4⟩ := k4
    have s2 := (S1.out.call k4 k5).below ((Below.refl w2.heap.size w2).alloc (Nat.le_refl _) (.cells #[.string ⟨#[]⟩, .int .i64 0, .string ⟨#[]⟩] 36))
    clear k2 v1 k4 k5 S1
    obtain ⟨r0, r1, r2, g0, g1, g2⟩ := s2.rcells
    have E := s2.fin (.string ⟨#[]⟩) (.int .i64 0) (.string ⟨#[]⟩)
    clear s2
    go_wp2_with fail
    generalize ((((w2.alloc (.cells #[.string ⟨#[]⟩, .int .i64 0, .string ⟨#[]⟩] 36)).setCell ⟨w.heap.size, 0, none⟩ (.string ⟨#[]⟩)).setCell ⟨w.heap.size, 1, none⟩ (.int .i64 0)).setCell ⟨w.heap.size, 2, none⟩ (.string ⟨#[]⟩)) = V at *
    obtain ⟨j0, j1, j2, hb⟩ := E
    clear r0 r1 r2 g0 g1 g2
    refine bodyPost_ret (by simp [results, Tryd.results18, go_sem, j0, j1, j2]; try rfl) rfl ?_
    exact ⟨hb, rfl⟩
  | some q =>
    obtain ⟨⟨n, r, v⟩, l1⟩ := q
    rw [hat] at ca
    simp only [toldA, aV, nextA] at ca
    have cd := fun p w h => done_any p l1 w h
    clear hat
    cases l1 with
    | nil =>
      simp only [decide_true] at cd
      unfold OneA
      simp only [aV]
      go_enter Tryd.func18, Tryd.ntmps18
      go_wp2_with fail
      generalize w.alloc (.cells #[.string ⟨#[]⟩, .int .i64 0, .string ⟨#[]⟩] 36) = W at *
      refine (cn _).mono ?_
      rintro e w1 ⟨p, rfl, k1, k2, k3⟩
      obtain ⟨s1, v1, o1⟩ := HST.out _ _ _ k1 k2 k3
      have S1 := Lib.hid s1
      clear k1 k3 s1 HST
      go_wp2_with fail
      refine (ca p _ k2 v1 o1).mono ?_
      rintro e w2 ⟨rfl, k4, k5⟩
      have s2 := (S1.out.call k4 k5).below ((Below.refl w2.heap.size w2).alloc (Nat.le_refl _) (.cells #[.string (S n), .int .i64 r, .string (S v)] 36))
      obtain ⟨c0, c1, c2⟩ := cells3 (Blk.Is.new w2 36 #[.string (S n), .int .i64 r, .string (S v)])
      generalize hb : w2.heap.size = b at *
      clear k2 v1 k4 k5 S1
      go_wp2_with fail
      generalize w2.alloc (.cells #[.string (S n), .int .i64 r, .string (S v)] 36) = W2 at *
      refine (cd p _ s2.rd).mono ?_
      rintro e w3 ⟨rfl, rfl⟩
      obtain ⟨r0, r1, r2, g0, g1, g2⟩ := s2.rcells
      have E := s2.fin (.string (S n)) (.int .i64 r) (.string (S v))
      clear s2
      go_wp2_with fail
      generalize (((w3.setCell ⟨w.heap.size, 0, none⟩ (.string (S n))).setCell ⟨w.heap.size, 1, none⟩ (.int .i64 r)).setCell ⟨w.heap.size, 2, none⟩ (.string (S v))) = V at *
      obtain ⟨j0, j1, j2, hb⟩ := E
      clear r0 r1 r2 g0 g1 g2
      refine bodyPost_ret (by simp [results, Tryd.results18, go_sem, j0, j1, j2]; try rfl) rfl ?_
      exact ⟨hb, rfl⟩
    | cons c t =>
      have hct : decide (c :: t = []) = false := by simp
      simp only [hct] at cd
      clear hct
      unfold OneA
      simp only [zA]
      go_enter Tryd.func18, Tryd.ntmps18
      go_wp2_with fail
      generalize w.alloc (.cells #[.string ⟨#[]⟩, .int .i64 0, .string ⟨#[]⟩] 36) = W at *
      refine (cn _).mono ?_
      rintro e w1 ⟨p, rfl, k1, k2, k3⟩
      obtain ⟨s1, v1, o1⟩ := HST.out _ _ _ k1 k2 k3
      have S1 := Lib.hid s1
      clear k1 k3 s1 HST
      go_wp2_with fail
      refine (ca p _ k2 v1 o1).mono ?_
      rintro e w2 ⟨rfl, k4, k5⟩
      have s2 := (S1.out.call k4 k5).below ((Below.refl w2.heap.size w2).alloc (Nat.le_refl _) (.cells #[.string (S n), .int .i64 r, .string (S v)] 36))
      obtain ⟨c0, c1, c2⟩ := cells3 (Blk.Is.new w2 36 #[.string (S n), .int .i64 r, .string (S v)])
      generalize hb : w2.heap.size = b at *
      clear k2 v1 k4 k5 S1
      go_wp2_with fail
      generalize w2.alloc (.cells #[.string (S n), .int .i64 r, .string (S v)] 36) = W2 at *
      refine (cd p _ s2.rd).mono ?_
      rintro e w3 ⟨rfl, rfl⟩
      obtain ⟨r0, r1, r2, g0, g1, g2⟩ := s2.rcells
      have E := s2.fin (.string ⟨#[]⟩) (.int .i64 0) (.string ⟨#[]⟩)
      clear s2
      go_wp2_with fail
      generalize (((w3.setCell ⟨w.heap.size, 0, none⟩ (.string ⟨#[]⟩)).setCell ⟨w.heap.size, 1, none⟩ (.int .i64 0)).setCell ⟨w.heap.size, 2, none⟩ (.string ⟨#[]⟩)) = V at *
      obtain ⟨j0, j1, j2, hb⟩ := E
      clear r0 r1 r2 g0 g1 g2
      refine bodyPost_ret (by simp [results, Tryd.results18, go_sem, j0, j1, j2]; try rfl) rfl ?_
      exact ⟨hb, rfl⟩
end Rl
end Go.Proofs.YtddfjndclgapcaaDoor

/-
parse, Parse, ParseAtoms, ParseProvides, ParseAtom. ParseAtom.
-/
import Derived.Test.YtapmpdljapbpeaaGreatDoorRelLists
namespace Go.Proofs.YtapmpdljapbpeaaGreatDoor
open Go.RowKit
set_option linter.unusedSimpArgs false
set_option linter.unusedVariables false
namespace Rl
open Ver (Bs li li_len li_drop S S_self S_of S_size S_li below_drewN empty_is empty_no MaxLen Signs)
/-- What Parse tells. -/
def WholeC (w : World) (o : Except Int (List (List At))) (e : Ending) (w' : World) : Prop :=
  Below w.heap.size w w' ∧ match o with
    | .error er => e = .returned (.tuple #[.slice none 0 0, .int .i64 er])
    | .ok xs => ∃ v vs, e = .returned (.tuple #[v, .int .i64 0]) ∧ w'.ownsRow w.heap.size 67 1 v xs.length vs ∧ Cls w' w.heap.size vs xs
theorem chg_new {w u u' : World} {p : Nat} (hb : Below w.heap.size w u) (hp : w.heap.size ≤ p) (hc : Blk.Chg (fun k => k = p) u u') : Below w.heap.size w u' :=
  hb.trans (hc.below (fun k hk => by omega) hb.size)
set_option maxRecDepth 100000 in
set_option maxHeartbeats 4000000 in
theorem parseC_any (s : ByteArray) (w : World) (hs : s.size ≤ 4611686018427387904) (hv : Vars w) :
    Calls Tryz.prog 111 #[.string s, .func (.func 112) #[] #[]] w fun e w' => WholeC w (whole rdC (li s)) e w' := by
  have cn := fun w => new_any s w hs
  have hob := fun b => hv.off (b := b)
  have HOB := Lib.hid hob
  have HV := Lib.hid hv
  clear hv hob
  unfold whole
  by_cases h0 : skip (li s) = []
  · rw [if_pos h0]
    rw [h0] at cn
    clear h0
    go_enter Tryz.func111, Tryz.ntmps111
    go_wp2_with fail
    refine (cn _).mono ?_
    rintro e w1 ⟨p, rfl, k1, k2, k3⟩
    have cd := fun w h => done_any p [] w h
    simp only [decide_true] at cd
    go_wp2_with fail
    refine (cd _ k2).mono ?_
    rintro e w2 ⟨rfl, rfl⟩
    go_wp2_with fail
    go_ret2
    exact ⟨k3, _, [], rfl, World.ownsRow_nil _ _ _ 1, Cls.nil _ _⟩
  · rw [if_neg h0]
    obtain ⟨l, hl⟩ : ∃ l, skip (li s) = l := ⟨_, rfl⟩
    rw [hl] at h0 cn ⊢
    have cd0 := fun p w h => done_any p l w h
    simp only [decide_eq_false h0] at cd0
    have cl := fun p w h hv hp => listC_any p l 12 44 w h hv hp (by omega)
    clear hl h0
    cases hq : items rdC 44 12 l with
    | error er =>
      have her := items_er (fun l e => rdC_err) 44 12 l er hq
      have he0 : (er == 0) = false := by rw [beq_eq_false_iff_ne]; omega
      rw [hq] at cl
      unfold PostC at cl
      unfold WholeC
      simp only at cl ⊢
      clear her hq
      go_enter Tryz.func111, Tryz.ntmps111
      go_wp2_with fail
      refine (cn _).mono ?_
      rintro e w1 ⟨p, rfl, k1, k2, k3⟩
      go_wp2_with fail
      refine (cd0 p _ k2).mono ?_
      rintro e w2 ⟨rfl, rfl⟩
      go_wp2_with fail
      refine (cl p _ k2 (HV.out.on k3) (HOB.out p k1)).mono ?_
      rintro e w3 ⟨k4, rfl, k5⟩
      go_wp2_with fail
      go_ret2
      exact ⟨chg_new k3 k1 k4, rfl⟩
    | ok q =>
      obtain ⟨xs, r⟩ := q
      rw [hq] at cl
      unfold PostC at cl
      unfold WholeC
      simp only at cl ⊢
      clear hq
      by_cases hr : r = []
      · subst hr
        rw [if_pos rfl]
        simp only
        have cd1 := fun p w h => done_any p [] w h
        simp only [decide_true] at cd1
        go_enter Tryz.func111, Tryz.ntmps111
        go_wp2_with fail
        refine (cn _).mono ?_
        rintro e w1 ⟨p, rfl, k1, k2, k3⟩
        go_wp2_with fail
        refine (cd0 p _ k2).mono ?_
        rintro e w2 ⟨rfl, rfl⟩
        go_wp2_with fail
        refine (cl p _ k2 (HV.out.on k3) (HOB.out p k1)).mono ?_
        rintro e w3 ⟨k4, k5, v, vs, rfl, k6, k7⟩
        go_wp2_with fail
        refine (cd1 p _ k5).mono ?_
        rintro e w4 ⟨rfl, rfl⟩
        go_wp2_with fail
        go_ret2
        exact ⟨chg_new k3 k1 k4, _, _, rfl, own_mono k6 k3.size, k7.mono k3.size⟩
      · rw [if_neg hr]
        simp only
        have cd1 := fun p w h => done_any p r w h
        simp only [decide_eq_false hr] at cd1
        clear hr
        go_enter Tryz.func111, Tryz.ntmps111
        go_wp2_with fail
        refine (cn _).mono ?_
        rintro e w1 ⟨p, rfl, k1, k2, k3⟩
        go_wp2_with fail
        refine (cd0 p _ k2).mono ?_
        rintro e w2 ⟨rfl, rfl⟩
        go_wp2_with fail
        refine (cl p _ k2 (HV.out.on k3) (HOB.out p k1)).mono ?_
        rintro e w3 ⟨k4, k5, v, vs, rfl, k6, k7⟩
        go_wp2_with fail
        refine (cd1 p _ k5).mono ?_
        rintro e w4 ⟨rfl, rfl⟩
        go_wp2_with fail
        go_ret2
        exact ⟨chg_new k3 k1 k4, rfl⟩
/-- What ParseAtoms tells. -/
def WholeA (w : World) (o : Except Int (List At)) (e : Ending) (w' : World) : Prop :=
  Below w.heap.size w w' ∧ match o with
    | .error er => e = .returned (.tuple #[.slice none 0 0, .int .i64 er])
    | .ok xs => ∃ v, e = .returned (.tuple #[v, .int .i64 0]) ∧ w'.ownsRow w.heap.size 82 3 v xs.length (acells xs)
/-- What ParseProvides tells. -/
def WholeP (w : World) (o : Except Int (List Pv)) (e : Ending) (w' : World) : Prop :=
  Below w.heap.size w w' ∧ match o with
    | .error er => e = .returned (.tuple #[.slice none 0 0, .int .i64 er])
    | .ok xs => ∃ v, e = .returned (.tuple #[v, .int .i64 0]) ∧ w'.ownsRow w.heap.size 86 2 v xs.length (pcells xs)
set_option maxRecDepth 100000 in
set_option maxHeartbeats 4000000 in
theorem parseA_any (s : ByteArray) (w : World) (hs : s.size ≤ 4611686018427387904) (hv : Vars w) :
    Calls Tryz.prog 113 #[.string s, .func (.func 114) #[] #[]] w fun e w' => WholeA w (whole rdA (li s)) e w' := by
  have cn := fun w => new_any s w hs
  have hob := fun b => hv.off (b := b)
  have HOB := Lib.hid hob
  have HV := Lib.hid hv
  clear hv hob
  unfold whole
  by_cases h0 : skip (li s) = []
  · rw [if_pos h0]
    rw [h0] at cn
    clear h0
    go_enter Tryz.func113, Tryz.ntmps113
    go_wp2_with fail
    refine (cn _).mono ?_
    rintro e w1 ⟨p, rfl, k1, k2, k3⟩
    have cd := fun w h => done_any p [] w h
    simp only [decide_true] at cd
    go_wp2_with fail
    refine (cd _ k2).mono ?_
    rintro e w2 ⟨rfl, rfl⟩
    go_wp2_with fail
    go_ret2
    exact ⟨k3, _, rfl, World.ownsRow_nil _ _ _ 3⟩
  · rw [if_neg h0]
    obtain ⟨l, hl⟩ : ∃ l, skip (li s) = l := ⟨_, rfl⟩
    rw [hl] at h0 cn ⊢
    have cd0 := fun p w h => done_any p l w h
    simp only [decide_eq_false h0] at cd0
    have cl := fun p w h hv hp => listA_any p l 12 44 w h hv hp (by omega)
    clear hl h0
    cases hq : items rdA 44 12 l with
    | error er =>
      have her := items_er rdA_er 44 12 l er hq
      have he0 : (er == 0) = false := by rw [beq_eq_false_iff_ne]; omega
      rw [hq] at cl
      unfold PostA at cl
      unfold WholeA
      simp only at cl ⊢
      clear her hq
      go_enter Tryz.func113, Tryz.ntmps113
      go_wp2_with fail
      refine (cn _).mono ?_
      rintro e w1 ⟨p, rfl, k1, k2, k3⟩
      go_wp2_with fail
      refine (cd0 p _ k2).mono ?_
      rintro e w2 ⟨rfl, rfl⟩
      go_wp2_with fail
      refine (cl p _ k2 (HV.out.on k3) (HOB.out p k1)).mono ?_
      rintro e w3 ⟨k4, rfl, k5⟩
      go_wp2_with fail
      go_ret2
      exact ⟨chg_new k3 k1 k4, rfl⟩
    | ok q =>
      obtain ⟨xs, r⟩ := q
      rw [hq] at cl
      unfold PostA at cl
      unfold WholeA
      simp only at cl ⊢
      clear hq
      by_cases hr : r = []
      · subst hr
        rw [if_pos rfl]
        simp only
        have cd1 := fun p w h => done_any p [] w h
        simp only [decide_true] at cd1
        go_enter Tryz.func113, Tryz.ntmps113
        go_wp2_with fail
        refine (cn _).mono ?_
        rintro e w1 ⟨p, rfl, k1, k2, k3⟩
        go_wp2_with fail
        refine (cd0 p _ k2).mono ?_
        rintro e w2 ⟨rfl, rfl⟩
        go_wp2_with fail
        refine (cl p _ k2 (HV.out.on k3) (HOB.out p k1)).mono ?_
        rintro e w3 ⟨k4, k5, v, rfl, k6⟩
        go_wp2_with fail
        refine (cd1 p _ k5).mono ?_
        rintro e w4 ⟨rfl, rfl⟩
        go_wp2_with fail
        go_ret2
        exact ⟨chg_new k3 k1 k4, _, rfl, own_mono k6 k3.size⟩
      · rw [if_neg hr]
        simp only
        have cd1 := fun p w h => done_any p r w h
        simp only [decide_eq_false hr] at cd1
        clear hr
        go_enter Tryz.func113, Tryz.ntmps113
        go_wp2_with fail
        refine (cn _).mono ?_
        rintro e w1 ⟨p, rfl, k1, k2, k3⟩
        go_wp2_with fail
        refine (cd0 p _ k2).mono ?_
        rintro e w2 ⟨rfl, rfl⟩
        go_wp2_with fail
        refine (cl p _ k2 (HV.out.on k3) (HOB.out p k1)).mono ?_
        rintro e w3 ⟨k4, k5, v, rfl, k6⟩
        go_wp2_with fail
        refine (cd1 p _ k5).mono ?_
        rintro e w4 ⟨rfl, rfl⟩
        go_wp2_with fail
        go_ret2
        exact ⟨chg_new k3 k1 k4, rfl⟩
set_option maxRecDepth 100000 in
set_option maxHeartbeats 4000000 in
theorem parseP_any (s : ByteArray) (w : World) (hs : s.size ≤ 4611686018427387904) (hv : Vars w) :
    Calls Tryz.prog 115 #[.string s, .func (.func 116) #[] #[]] w fun e w' => WholeP w (whole rdP (li s)) e w' := by
  have cn := fun w => new_any s w hs
  have hob := fun b => hv.off (b := b)
  have HOB := Lib.hid hob
  have HV := Lib.hid hv
  clear hv hob
  unfold whole
  by_cases h0 : skip (li s) = []
  · rw [if_pos h0]
    rw [h0] at cn
    clear h0
    go_enter Tryz.func115, Tryz.ntmps115
    go_wp2_with fail
    refine (cn _).mono ?_
    rintro e w1 ⟨p, rfl, k1, k2, k3⟩
    have cd := fun w h => done_any p [] w h
    simp only [decide_true] at cd
    go_wp2_with fail
    refine (cd _ k2).mono ?_
    rintro e w2 ⟨rfl, rfl⟩
    go_wp2_with fail
    go_ret2
    exact ⟨k3, _, rfl, World.ownsRow_nil _ _ _ 2⟩
  · rw [if_neg h0]
    obtain ⟨l, hl⟩ : ∃ l, skip (li s) = l := ⟨_, rfl⟩
    rw [hl] at h0 cn ⊢
    have cd0 := fun p w h => done_any p l w h
    simp only [decide_eq_false h0] at cd0
    have cl := fun p w h hv hp => listP_any p l 12 44 w h hv hp (by omega)
    clear hl h0
    cases hq : items rdP 44 12 l with
    | error er =>
      have her := items_er (fun l e h => .inl (rdP_err h)) 44 12 l er hq
      have he0 : (er == 0) = false := by rw [beq_eq_false_iff_ne]; omega
      rw [hq] at cl
      unfold PostP at cl
      unfold WholeP
      simp only at cl ⊢
      clear her hq
      go_enter Tryz.func115, Tryz.ntmps115
      go_wp2_with fail
      refine (cn _).mono ?_
      rintro e w1 ⟨p, rfl, k1, k2, k3⟩
      go_wp2_with fail
      refine (cd0 p _ k2).mono ?_
      rintro e w2 ⟨rfl, rfl⟩
      go_wp2_with fail
      refine (cl p _ k2 (HV.out.on k3) (HOB.out p k1)).mono ?_
      rintro e w3 ⟨k4, rfl, k5⟩
      go_wp2_with fail
      go_ret2
      exact ⟨chg_new k3 k1 k4, rfl⟩
    | ok q =>
      obtain ⟨xs, r⟩ := q
      rw [hq] at cl
      unfold PostP at cl
      unfold WholeP
      simp only at cl ⊢
      clear hq
      by_cases hr : r = []
      · subst hr
        rw [if_pos rfl]
        simp only
        have cd1 := fun p w h => done_any p [] w h
        simp only [decide_true] at cd1
        go_enter Tryz.func115, Tryz.ntmps115
        go_wp2_with fail
        refine (cn _).mono ?_
        rintro e w1 ⟨p, rfl, k1, k2, k3⟩
        go_wp2_with fail
        refine (cd0 p _ k2).mono ?_
        rintro e w2 ⟨rfl, rfl⟩
        go_wp2_with fail
        refine (cl p _ k2 (HV.out.on k3) (HOB.out p k1)).mono ?_
        rintro e w3 ⟨k4, k5, v, rfl, k6⟩
        go_wp2_with fail
        refine (cd1 p _ k5).mono ?_
        rintro e w4 ⟨rfl, rfl⟩
        go_wp2_with fail
        go_ret2
        exact ⟨chg_new k3 k1 k4, _, rfl, own_mono k6 k3.size⟩
      · rw [if_neg hr]
        simp only
        have cd1 := fun p w h => done_any p r w h
        simp only [decide_eq_false hr] at cd1
        clear hr
        go_enter Tryz.func115, Tryz.ntmps115
        go_wp2_with fail
        refine (cn _).mono ?_
        rintro e w1 ⟨p, rfl, k1, k2, k3⟩
        go_wp2_with fail
        refine (cd0 p _ k2).mono ?_
        rintro e w2 ⟨rfl, rfl⟩
        go_wp2_with fail
        refine (cl p _ k2 (HV.out.on k3) (HOB.out p k1)).mono ?_
        rintro e w3 ⟨k4, k5, v, rfl, k6⟩
        go_wp2_with fail
        refine (cd1 p _ k5).mono ?_
        rintro e w4 ⟨rfl, rfl⟩
        go_wp2_with fail
        go_ret2
        exact ⟨chg_new k3 k1 k4, rfl⟩
theorem Parse_any (s : ByteArray) (w : World) (hs : s.size ≤ 4611686018427387904) (hv : Vars w) :
    Calls Tryz.prog 85 #[.string s] w fun e w' => WholeC w (whole rdC (li s)) e w' := by
  have c := parseC_any s w hs hv
  clear hv hs
  cases hq : whole rdC (li s) with
  | error er =>
    rw [hq] at c
    unfold WholeC at c ⊢
    simp only at c ⊢
    clear hq
    go_enter Tryz.func85, Tryz.ntmps85
    go_wp2_with fail
    refine c.mono ?_
    rintro e w1 ⟨k1, rfl⟩
    go_wp2_with fail
    go_ret2
    exact ⟨k1, rfl⟩
  | ok xs =>
    rw [hq] at c
    unfold WholeC at c ⊢
    simp only at c ⊢
    clear hq
    go_enter Tryz.func85, Tryz.ntmps85
    go_wp2_with fail
    refine c.mono ?_
    rintro e w1 ⟨k1, v, vs, rfl, k2, k3⟩
    go_wp2_with fail
    go_ret2
    exact ⟨k1, _, _, rfl, k2, k3⟩
theorem ParseAtoms_any (s : ByteArray) (w : World) (hs : s.size ≤ 4611686018427387904) (hv : Vars w) :
    Calls Tryz.prog 86 #[.string s] w fun e w' => WholeA w (whole rdA (li s)) e w' := by
  have c := parseA_any s w hs hv
  clear hv hs
  cases hq : whole rdA (li s) with
  | error er =>
    rw [hq] at c
    unfold WholeA at c ⊢
    simp only at c ⊢
    clear hq
    go_enter Tryz.func86, Tryz.ntmps86
    go_wp2_with fail
    refine c.mono ?_
    rintro e w1 ⟨k1, rfl⟩
    go_wp2_with fail
    go_ret2
    exact ⟨k1, rfl⟩
  | ok xs =>
    rw [hq] at c
    unfold WholeA at c ⊢
    simp only at c ⊢
    clear hq
    go_enter Tryz.func86, Tryz.ntmps86
    go_wp2_with fail
    refine c.mono ?_
    rintro e w1 ⟨k1, v, rfl, k2⟩
    go_wp2_with fail
    go_ret2
    exact ⟨k1, _, rfl, k2⟩
theorem ParseProvides_any (s : ByteArray) (w : World) (hs : s.size ≤ 4611686018427387904) (hv : Vars w) :
    Calls Tryz.prog 87 #[.string s] w fun e w' => WholeP w (whole rdP (li s)) e w' := by
  have c := parseP_any s w hs hv
  clear hv hs
  cases hq : whole rdP (li s) with
  | error er =>
    rw [hq] at c
    unfold WholeP at c ⊢
    simp only at c ⊢
    clear hq
    go_enter Tryz.func87, Tryz.ntmps87
    go_wp2_with fail
    refine c.mono ?_
    rintro e w1 ⟨k1, rfl⟩
    go_wp2_with fail
    go_ret2
    exact ⟨k1, rfl⟩
  | ok xs =>
    rw [hq] at c
    unfold WholeP at c ⊢
    simp only at c ⊢
    clear hq
    go_enter Tryz.func87, Tryz.ntmps87
    go_wp2_with fail
    refine c.mono ?_
    rintro e w1 ⟨k1, v, rfl, k2⟩
    go_wp2_with fail
    go_ret2
    exact ⟨k1, _, rfl, k2⟩
end Rl
end Go.Proofs.YtapmpdljapbpeaaGreatDoor
namespace Go.Proofs.YtapmpdljapbpeaaGreatDoor
open Go.RowKit
set_option linter.unusedSimpArgs false
set_option linter.unusedVariables false
namespace Rl
open Ver (Bs li li_len li_drop S S_self S_of S_size S_li below_drewN empty_is empty_no MaxLen Signs)
/-- A reader of the call's own and the place of the result, three cells. -/
structure St3 (w u : World) (p : Nat) (l : Bs) : Prop where
  np : w.heap.size < p
  rd : Rd u p l
  res : Blk.Is u w.heap.size 82 #[.string ⟨#[]⟩, .int .i64 0, .string ⟨#[]⟩]
  bel : Below w.heap.size w u
theorem St3.below {w u u' : World} {p : Nat} {l : Bs} (h : St3 w u p l) (hb : Below u.heap.size u u') : St3 w u' p l :=
  ⟨h.np, h.rd.below hb, is_on h.res hb, h.bel.trans (hb.mono h.bel.size)⟩
theorem St3.call {w u u' : World} {p : Nat} {l l' : Bs} (h : St3 w u p l) (hr : Rd u' p l') (hc : Blk.Chg (fun k => k = p) u u') : St3 w u' p l' := by
  have h1 := h.np
  exact ⟨h1, hr, hc.is h.res (by omega), chg_new h.bel (Nat.le_of_lt h1) hc⟩
end Rl
end Go.Proofs.YtapmpdljapbpeaaGreatDoor

/-
readList of clauses.
-/
import Derived.Test.YtddfjndclgapcaaDoorRelListP
namespace Go.Proofs.YtddfjndclgapcaaDoor
open Go.RowKit
set_option linter.unusedSimpArgs false
set_option linter.unusedVariables false
namespace Rl
open Ver (Bs li li_len li_drop S S_self S_of S_size S_li below_drewN empty_is empty_no MaxLen Signs)
theorem atoms_ne_clauses : (36 : TypeId) ≠ 39 := by decide
/-- Rows of atoms of the call's own, one for each clause. -/
def Cls (w : World) (B : Nat) (vs : List Value) (xs : List (List At)) : Prop :=
  vs.length = xs.length ∧ ∀ i, i < xs.length → w.ownsRow B 36 3 (vs.getD i undef) (xs.getD i []).length (acells (xs.getD i []))
theorem Cls.nil (w : World) (B : Nat) : Cls w B [] [] := ⟨rfl, fun i hi => absurd hi (by simp)⟩
theorem Cls.chg {w w' : World} {B : Nat} {vs : List Value} {xs : List (List At)} {Q : Nat → Prop} (h : Cls w B vs xs) (hc : Blk.Chg Q w w') (hn : ∀ u n ys, w.ownsRow B 36 3 u n ys → ∀ k, u.ownBlock = some k → ¬ Q k) : Cls w' B vs xs :=
  ⟨h.1, fun i hi => hc.owns (h.2 i hi) fun k hk => hn _ _ _ (h.2 i hi) k hk⟩
theorem Cls.one {w w' : World} {B p : Nat} {vs : List Value} {xs : List (List At)} (h : Cls w B vs xs) (hc : Blk.Chg (fun k => k = p) w w') (hp : p < B) : Cls w' B vs xs := h.chg hc fun u n ys ho k hk e => by have := own_lt ho hk; omega
theorem Cls.below {w w' : World} {B : Nat} {vs : List Value} {xs : List (List At)} (h : Cls w B vs xs) (hb : Below w.heap.size w w') : Cls w' B vs xs := h.chg (Q := fun _ => False) (Blk.Chg.ofBelow' hb) fun _ _ _ _ _ _ h => h
theorem Cls.grown {w w' : World} {B : Nat} {vs : List Value} {xs : List (List At)} {v : Value} {n : Nat} {ys : List Value} (h : Cls w B vs xs) (hown : w.ownsRow B 39 1 v n ys) (hg : w.grownBy w' v.ownBlock) : Cls w' B vs xs :=
  h.chg (Q := fun k => v.ownBlock = some k) (Blk.Chg.grown (Blk.Chg.refl _ w) hg fun k hk _ => hk) fun u n ys ho k hk hk' => own_ne ho hown atoms_ne_clauses k hk hk'
theorem Cls.mono {w : World} {B B' : Nat} {vs : List Value} {xs : List (List At)} (h : Cls w B vs xs) (hB : B' ≤ B) : Cls w B' vs xs := ⟨h.1, fun i hi => own_mono (h.2 i hi) hB⟩
theorem Cls.more {w : World} {B : Nat} {vs : List Value} {xs : List (List At)} {v : Value} {x : List At} (h : Cls w B vs xs) (hx : w.ownsRow B 36 3 v x.length (acells x)) : Cls w B (vs ++ [v]) (xs ++ [x]) := by
  refine ⟨by simp [h.1], fun i hi => ?_⟩
  rw [List.length_append] at hi
  by_cases e : i < xs.length
  · have := h.2 i e
    have e1 : (vs ++ [v]).getD i undef = vs.getD i undef := by simp [List.getD, List.getElem?_append_left (show i < vs.length by rw [h.1]; exact e)]
    have e2 : (xs ++ [x]).getD i [] = xs.getD i [] := by simp [List.getD, List.getElem?_append_left e]
    rw [e1, e2]; exact this
  · have hi' : i = xs.length := by simp at hi; omega
    subst hi'
    have e1 : (vs ++ [v]).getD xs.length undef = v := by rw [← h.1]; simp [List.getD]
    have e2 : (xs ++ [x]).getD xs.length [] = x := by simp [List.getD]
    rw [e1, e2]; exact hx
theorem one_cell {w : World} {k : Nat} {v : Value} (h : w.cell? ⟨k, 0, none⟩ = some v) : ∀ (j : Nat) u, [v][j]? = some u → w.cell? ⟨k, j, none⟩ = some u := by
  intro j u hj
  have := (List.getElem?_eq_some_iff.1 hj).1
  have hj0 : j = 0 := by simp at this; exact this
  subst hj0
  simp at hj
  rw [← hj]; exact h
theorem items_er {α : Type} {rd : Bs → Except Int (α × Bs)} (h : ∀ l e, rd l = .error e → e = 3 ∨ e = 12) (c : UInt8) : ∀ k l e, items rd c k l = .error e → e = 3 ∨ e = 12
  | 0, l, e, he => by cases he; exact .inr rfl
  | k + 1, l, e, he => by
    unfold items at he
    cases h1 : rd l with
    | error e1 => rw [h1] at he; cases he; exact h l _ h1
    | ok q =>
      obtain ⟨x, l1⟩ := q
      rw [h1] at he
      simp only at he
      cases h2 : tk c l1 with
      | none => rw [h2] at he; cases he
      | some l2 =>
        rw [h2] at he
        simp only at he
        cases h3 : items rd c k l2 with
        | error e3 => rw [h3] at he; cases he; exact items_er h c k l2 _ h3
        | ok q => rw [h3] at he; cases he
theorem rdA_er (l : Bs) (e : Int) (h : rdA l = .error e) : e = 3 ∨ e = 12 := by
  unfold rdA at h
  cases hq : atom l with
  | none => rw [hq] at h; cases h; exact .inl rfl
  | some q => rw [hq] at h; cases h
theorem rdC_err {l : Bs} {e : Int} (h : rdC l = .error e) : e = 3 ∨ e = 12 := items_er rdA_er 124 6 l e h
/-- What readList tells, of clauses. -/
def PostC (w : World) (p : Nat) (o : Except Int (List (List At) × Bs)) (e : Ending) (w' : World) : Prop :=
  Blk.Chg (fun k => k = p) w w' ∧ match o with
    | .error er => e = .returned (.tuple #[.slice none 0 0, .int .i64 er]) ∧ ∃ l, Rd w' p l
    | .ok (xs, r) => Rd w' p r ∧ ∃ v vs, e = .returned (.tuple #[v, .int .i64 0]) ∧ w'.ownsRow w.heap.size 39 1 v xs.length vs ∧ Cls w' w.heap.size vs xs
set_option maxRecDepth 100000 in
set_option maxHeartbeats 4000000 in
theorem listC_any (p : Nat) (l : Bs) (most : Nat) (c : UInt8) (w : World) (h : Rd w p l) (hv : Vars w) (hp : Off p) (hm : most ≤ 12) :
    Calls Tryd.prog 52 #[.pointer (some ⟨p, 0, none⟩), .int .i64 most, .string ⟨#[c]⟩, .func (.func 32) #[] #[]] w fun e w' => PostC w p (items rdC c most l) e w' := by
  have hpl := h.sizes.1
  have hob := fun b => hv.off (b := b)
  have HOB := Lib.hid hob
  have H := Lib.hid h
  have HV := Lib.hid hv
  clear h hv hob
  obtain ⟨G, hG⟩ : ∃ G, items rdC c most l = G := ⟨_, rfl⟩
  have HG := Lib.hid hG
  rw [hG]
  clear hG
  go_enter Tryd.func52, Tryd.ntmps52
  go_wp2_with fail
  go_loopg [10] most (fun gf s10 wx => ∃ (ds : List (List At)) (vs : List Value) (l' : Bs) (sa : Option Addr) (cap : Nat), s10 = .slice sa ds.length cap ∧ wx.ownsRow w.heap.size 39 1 (.slice sa ds.length cap) ds.length vs ∧ Cls wx w.heap.size vs ds ∧ Rd wx p l' ∧ Vars wx ∧ Blk.Chg (fun k => k = p) w wx ∧ Hid (items rdC c most l = pre ds (items rdC c (most - ds.length) l')) ∧ ds.length ≤ most ∧ most ≤ ds.length + gf)
  case atStart => exact ⟨[], [], l, none, 0, rfl, World.ownsRow_nil w _ _ 1, Cls.nil _ _, H.out, HV.out, Blk.Chg.refl _ _, (pre_nil _).symm, by simp, by simp⟩
  case round =>
    obtain ⟨ds, vs, l', sa, cap, rfl, hown, hcls, hrd, hvx, hchg, HN, hle, hfu⟩ := hrel
    have hsz := hchg.size
    by_cases hfull : ds.length = most
    · have hres := items_full HN.out hfull
      have hlm : ((ds.length : Int) == (most : Int)) = true := by simp [hfull]
      obtain rfl := HG.out.symm.trans hres
      clear HG
      have HC := Lib.hid hchg
      have HR := Lib.hid hrd
      clear hown hcls hvx hchg HN hres hrd hle hfu hfull
      generalize ds.length = n at *
      go_wp2_with fail
      go_ret2
      exact ⟨HC.out, rfl, _, HR.out⟩
    · obtain ⟨g', rfl⟩ : ∃ g', gk = g' + 1 := ⟨gk - 1, by omega⟩
      have hlt : ds.length < most := by omega
      have hlm : ((ds.length : Int) == (most : Int)) = false := by simp; omega
      have hdl : ds.length + 1 ≤ 70000 := by omega
      have cr := readClause_any p l' wr hrd hvx hp
      cases hat : rdC l' with
      | error er =>
        have her := rdC_err hat
        have hres := items_err HN.out hlt hat
        obtain rfl := HG.out.symm.trans hres
        clear HG
        rw [hat] at cr
        unfold PostA at cr
        simp only at cr
        have he1 : (er != 0) = true := by rw [bne_iff_ne]; omega
        have HC := Lib.hid hchg
        clear hown hcls hvx hchg HN hres hrd hle hfu hfull hat her
        generalize ds.length = n at *
        go_wp2_with fail
        refine cr.mono ?_
        rintro e w1 ⟨k2, rfl, l1, k1⟩
        have HR1 := Lib.hid k1
        have HC1 := Lib.hid (HC.out.trans k2)
        clear k1 k2
        go_wp2_with fail
        go_ret2
        exact ⟨HC1.out, rfl, _, HR1.out⟩
      | ok q =>
        obtain ⟨x, r⟩ := q
        rw [hat] at cr
        unfold PostA at cr
        simp only at cr
        have HOWN := Lib.hid hown
        have HCLS := Lib.hid hcls
        have HVX := Lib.hid hvx
        have HC := Lib.hid hchg
        have hdo := fun u (h : Rd u p r) => take_any p r c u h
        have hres1 := fun h => items_last HN.out hlt hat h
        have hres2 := fun r2 h => items_next (r2 := r2) HN.out hlt hat h
        have HR1 := Lib.hid hres1
        have HR2 := Lib.hid hres2
        clear hown hcls hvx hchg HN hrd hfull hat hres1 hres2
        generalize hn : ds.length = n at *
        have HDN := Lib.hid hn
        clear hn
        go_wp2_with fail
        refine cr.mono ?_
        rintro e w1 ⟨k2, k1, v, rfl, k3⟩
        obtain ⟨av, cv, rfl, _⟩ := own_shape k3
        have hb3 : Below w1.heap.size w1 (w1.alloc (.cells #[.slice av x.length cv] 39)) := (Below.refl _ _).alloc (Nat.le_refl _) _
        have hc3 := (Blk.Is.new w1 39 #[.slice av x.length cv]).at (i := 0) rfl
        have hv1 := HVX.out.one k2 hp
        have hown1 := k2.owns HOWN.out fun b hb e => by have := own_lt HOWN.out hb; omega
        have hcls1 := HCLS.out.one k2 hpl
        have hel := own_mono (Own.owns_below k3 hb3) hsz
        obtain ⟨W3, hW3⟩ : ∃ W3, w1.alloc (.cells #[.slice av x.length cv] 39) = W3 := ⟨_, rfl⟩
        rw [hW3] at hb3 hc3 hel
        have HW3 := Lib.hid hW3
        have HC3 := Lib.hid hc3
        have HOWN3 := Lib.hid (Own.owns_below hown1 hb3)
        have HCLS3 := Lib.hid ((hcls1.below hb3).more hel)
        have HR3 := Lib.hid (k1.below hb3)
        have HV3 := Lib.hid (hv1.on hb3)
        have HCH3 := Lib.hid ((HC.out.trans k2).trans (Blk.Chg.ofBelow' hb3))
        have HSZ := Lib.hid HCH3.out.size
        clear hW3 hc3 hb3 hv1 hown1 k1 k2 k3 hel hcls1 HCLS HOWN HVX HC H HV cr
        generalize x.length = m at *
        go_wp2_with (at_builtin; rw [HW3.out]; refine append_el Tryd.underlying22 infoC rfl (by decide) rfl (.tmp 26) (.tmp 28) rfl w.heap.size (.slice sa n cap) n vs rfl HOWN3.out w1.heap.size 1 rfl [.slice av m cv] rfl (one_cell HC3.out) (fun u hu => by simp only [List.mem_singleton] at hu; rw [hu]; rfl) hdl HSZ.out ?_; intro v' w4 h4 h5; obtain ⟨g1, g2, g3⟩ := grow_all hpl HOB.out HR3.out HV3.out HCH3.out HOWN3.out h5; have g4 := HCLS3.out.grown HOWN3.out h5; obtain ⟨a4, c4, rfl, _⟩ := own_shape h4; have H4 := Lib.hid h4; have G1 := Lib.hid g1; have G2 := Lib.hid g2; have G3 := Lib.hid g3; have G4 := Lib.hid g4; clear h4 h5 g1 g2 g3 g4 HW3 HC3 HOWN3 HCLS3 HR3 HV3 HCH3)

        cases ht : tk c r with
        | none =>
          have hd1 := hdo w4 G1.out
          rw [ht] at hd1
          simp only [Option.getD_none, Option.isSome_none] at hd1
          obtain rfl := HG.out.symm.trans (HR1.out ht)
          clear HG HR1 HR2 hdo ht
          refine hd1.mono ?_
          rintro e w5 ⟨rfl, k1, k2⟩
          have own5 := k2.owns H4.out fun b hb e => by have := own_lt H4.out hb; omega
          have ch5 := G3.out.trans k2
          have cls5 := G4.out.one k2 hpl
          have hlen : (ds ++ [x]).length = n + 1 := by rw [List.length_append, HDN.out]; rfl
          rw [← hlen] at own5
          have CLS5 := Lib.hid cls5
          have K1 := Lib.hid k1
          have OWN5 := Lib.hid own5
          have CH5 := Lib.hid ch5
          have HLEN := Lib.hid hlen
          clear own5 ch5 k1 k2 hlen cls5
          go_wp2_with fail
          go_ret2
          refine ⟨CH5.out, K1.out, _, _, rfl, ?_, CLS5.out⟩
          have := OWN5.out
          rw [HLEN.out] at this ⊢
          exact this
        | some r2 =>
          have hd1 := hdo w4 G1.out
          rw [ht] at hd1
          simp only [Option.getD_some, Option.isSome_some] at hd1
          have hres := HR2.out r2 ht
          have HRES := Lib.hid hres
          clear HR1 HR2 hdo ht hres
          refine hd1.mono ?_
          rintro e w5 ⟨rfl, k1, k2⟩
          have own5 := k2.owns H4.out fun b hb e => by have := own_lt H4.out hb; omega
          have ch5 := G3.out.trans k2
          have v5 := G2.out.one k2 hp
          have cls5 := G4.out.one k2 hpl
          have hlen : (ds ++ [x]).length = n + 1 := by rw [List.length_append, HDN.out]; rfl
          have K1 := Lib.hid k1
          have OWN5 := Lib.hid own5
          have CH5 := Lib.hid ch5
          have V5 := Lib.hid v5
          have CLS5 := Lib.hid cls5
          have HLEN := Lib.hid hlen
          clear own5 ch5 k1 k2 hlen v5 cls5
          go_wp2_with fail
          go_roundg g'
          case measure => omega
          case rel =>
            refine ⟨ds ++ [x], _, r2, a4, c4, by rw [HLEN.out], ?_, CLS5.out, K1.out, V5.out, CH5.out, HRES.out, by rw [HLEN.out]; omega, by rw [HLEN.out]; omega⟩
            rw [HLEN.out]
            exact OWN5.out
end Rl
end Go.Proofs.YtddfjndclgapcaaDoor

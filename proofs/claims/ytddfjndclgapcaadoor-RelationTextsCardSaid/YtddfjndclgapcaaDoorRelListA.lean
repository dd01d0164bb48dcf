/-
readList of atoms.
-/
import Derived.Test.YtddfjndclgapcaaDoorRelOwn
namespace Go.Proofs.YtddfjndclgapcaaDoor
open Go.RowKit
set_option linter.unusedSimpArgs false
set_option linter.unusedVariables false
namespace Rl
open Ver (Bs li li_len li_drop S S_self S_of S_size S_li below_drewN empty_is empty_no MaxLen Signs)
def acell (a : At) : List Value := [.string (S a.1), .int .i64 a.2.1, .string (S a.2.2)]
def acells (l : List At) : List Value := l.flatMap acell
theorem acells_app (l : List At) (a : At) : acells (l ++ [a]) = acells l ++ acell a := by unfold acells; simp
/-- What has been read, ahead of what is still to be read. -/
def pre {α : Type} (ds : List α) : Except Int (List α × Bs) → Except Int (List α × Bs)
  | .error e => .error e
  | .ok (xs, r) => .ok (ds ++ xs, r)
theorem pre_nil {α : Type} (o : Except Int (List α × Bs)) : pre [] o = o := by cases o with
  | error e => rfl
  | ok q => rfl
theorem items_full {α : Type} {rd : Bs → Except Int (α × Bs)} {c : UInt8} {most : Nat} {l l' : Bs} {ds : List α} (h : items rd c most l = pre ds (items rd c (most - ds.length) l')) (hd : ds.length = most) : items rd c most l = .error 12 := by
  rw [h, hd, Nat.sub_self]; rfl
theorem items_err {α : Type} {rd : Bs → Except Int (α × Bs)} {c : UInt8} {most : Nat} {l l' : Bs} {ds : List α} {e : Int} (h : items rd c most l = pre ds (items rd c (most - ds.length) l')) (hd : ds.length < most) (he : rd l' = .error e) : items rd c most l = .error e := by
  obtain ⟨k, hk⟩ : ∃ k, most - ds.length = k + 1 := ⟨most - ds.length - 1, by omega⟩
  rw [h, hk]
  unfold items
  rw [he]; rfl
theorem items_last {α : Type} {rd : Bs → Except Int (α × Bs)} {c : UInt8} {most : Nat} {l l' r : Bs} {ds : List α} {x : α} (h : items rd c most l = pre ds (items rd c (most - ds.length) l')) (hd : ds.length < most) (he : rd l' = .ok (x, r)) (ht : tk c r = none) : items rd c most l = .ok (ds ++ [x], r) := by
  obtain ⟨k, hk⟩ : ∃ k, most - ds.length = k + 1 := ⟨most - ds.length - 1, by omega⟩
  rw [h, hk]
  unfold items
  rw [he]
  simp only
  rw [ht]; rfl
theorem items_next {α : Type} {rd : Bs → Except Int (α × Bs)} {c : UInt8} {most : Nat} {l l' r r2 : Bs} {ds : List α} {x : α} (h : items rd c most l = pre ds (items rd c (most - ds.length) l')) (hd : ds.length < most) (he : rd l' = .ok (x, r)) (ht : tk c r = some r2) :
    items rd c most l = pre (ds ++ [x]) (items rd c (most - (ds ++ [x]).length) r2) := by
  obtain ⟨k, hk⟩ : ∃ k, most - ds.length = k + 1 := ⟨most - ds.length - 1, by omega⟩
  have hk2 : most - (ds ++ [x]).length = k := by rw [List.length_append]; simp; omega
  rw [h, hk, hk2]
  conv => lhs; unfold items
  rw [he]
  simp only
  rw [ht]
  simp only
  cases items rd c k r2 with
  | error e => rfl
  | ok q =>
    obtain ⟨xs, r3⟩ := q
    show Except.ok (ds ++ x :: xs, r3) = Except.ok ((ds ++ [x]) ++ xs, r3)
    simp
/-- What readList tells, of atoms. -/
def PostA (w : World) (p : Nat) (o : Except Int (List At × Bs)) (e : Ending) (w' : World) : Prop :=
  Blk.Chg (fun k => k = p) w w' ∧ match o with
    | .error er => e = .returned (.tuple #[.slice none 0 0, .int .i64 er]) ∧ ∃ l, Rd w' p l
    | .ok (xs, r) => Rd w' p r ∧ ∃ v, e = .returned (.tuple #[v, .int .i64 0]) ∧ w'.ownsRow w.heap.size 36 3 v xs.length (acells xs)
theorem chg_grown {w u u' : World} {p : Nat} {v : Value} {n : Nat} {T : TypeId} {sz : Nat} {xs : List Value} (hc : Blk.Chg (fun k => k = p) w u) (hown : u.ownsRow w.heap.size T sz v n xs) (hg : u.grownBy u' v.ownBlock) : Blk.Chg (fun k => k = p) w u' :=
  hc.grown hg fun k hk hlt => by have := own_lt hown hk; omega
theorem rd_grown {u u' : World} {p B : Nat} {l : Bs} {v : Value} {n : Nat} {T : TypeId} {sz : Nat} {xs : List Value} (hr : Rd u p l) (hp : p < B) (hown : u.ownsRow B T sz v n xs) (hg : u.grownBy u' v.ownBlock) : Rd u' p l :=
  hr.chg (Q := fun k => v.ownBlock = some k) (Blk.Chg.grown (Blk.Chg.refl _ u) hg fun k hk _ => hk) fun h => by have := own_lt hown h; omega
theorem vars_grown {u u' : World} {B : Nat} {v : Value} {n : Nat} {T : TypeId} {sz : Nat} {xs : List Value} (hv : Vars u) (hB : ∀ b, B ≤ b → Off b) (hown : u.ownsRow B T sz v n xs) (hg : u.grownBy u' v.ownBlock) : Vars u' :=
  hv.chg (Q := fun k => v.ownBlock = some k) (Blk.Chg.grown (Blk.Chg.refl _ u) hg fun k hk _ => hk) (fun h => (hB _ (own_lt hown h).1).1 rfl) fun h => (hB _ (own_lt hown h).1).2 rfl
theorem grow_all {w u u' : World} {p : Nat} {r : Bs} {v : Value} {n : Nat} {T : TypeId} {sz : Nat} {xs : List Value} (hp : p < w.heap.size) (hob : ∀ b, w.heap.size ≤ b → Off b) (hr : Rd u p r) (hv : Vars u) (hc : Blk.Chg (fun k => k = p) w u)
    (hown : u.ownsRow w.heap.size T sz v n xs) (hg : u.grownBy u' v.ownBlock) : Rd u' p r ∧ Vars u' ∧ Blk.Chg (fun k => k = p) w u' :=
  ⟨rd_grown hr hp hown hg, vars_grown hv hob hown hg, chg_grown hc hown hg⟩
/-- Two new blocks of the same cells. -/
theorem two_new (w : World) (T : TypeId) (C : Array Value) : Below w.heap.size w ((w.alloc (.cells C T)).alloc (.cells C T)) ∧ ∀ (j : Nat) u, C[j]? = some u → ((w.alloc (.cells C T)).alloc (.cells C T)).cell? ⟨w.heap.size + 1, j, none⟩ = some u := by
  have hs : (w.alloc (.cells C T)).heap.size = w.heap.size + 1 := by simp
  refine ⟨((Below.refl _ _).alloc (Nat.le_refl _) _).alloc (by omega) _, fun j u hj => ?_⟩
  have h := Blk.Is.new (w.alloc (.cells C T)) T C
  rw [hs] at h
  exact h.at hj
set_option maxRecDepth 100000 in
set_option maxHeartbeats 4000000 in
theorem listA_any (p : Nat) (l : Bs) (most : Nat) (c : UInt8) (w : World) (h : Rd w p l) (hv : Vars w) (hp : Off p) (hm : most ≤ 12) :
    Calls Tryd.prog 53 #[.pointer (some ⟨p, 0, none⟩), .int .i64 most, .string ⟨#[c]⟩, .func (.func 36) #[] #[]] w fun e w' => PostA w p (items rdA c most l) e w' := by
  have hpl := h.sizes.1
  have hob := fun b => hv.off (b := b)
  have HOB := Lib.hid hob
  have H := Lib.hid h
  have HV := Lib.hid hv
  clear h hv hob
  obtain ⟨G, hG⟩ : ∃ G, items rdA c most l = G := ⟨_, rfl⟩
  have HG := Lib.hid hG
  rw [hG]
  clear hG
  go_enter Tryd.func53, Tryd.ntmps53
  go_wp2_with fail
  go_loopg [10] most (fun gf s10 wx => ∃ (ds : List At) (l' : Bs) (sa : Option Addr) (cap : Nat), s10 = .slice sa ds.length cap ∧ wx.ownsRow w.heap.size 36 3 (.slice sa ds.length cap) ds.length (acells ds) ∧ Rd wx p l' ∧ Vars wx ∧ Blk.Chg (fun k => k = p) w wx ∧ Hid (items rdA c most l = pre ds (items rdA c (most - ds.length) l')) ∧ ds.length ≤ most ∧ most ≤ ds.length + gf)
  case atStart => exact ⟨[], l, none, 0, rfl, World.ownsRow_nil w _ _ 3, H.out, HV.out, Blk.Chg.refl _ _, (pre_nil _).symm, by simp, by simp⟩
  case round =>
    obtain ⟨ds, l', sa, cap, rfl, hown, hrd, hvx, hchg, HN, hle, hfu⟩ := hrel
    have hsz := hchg.size
    by_cases hfull : ds.length = most
    · have hres := items_full HN.out hfull
      have hlm : ((ds.length : Int) == (most : Int)) = true := by simp [hfull]
      obtain rfl := HG.out.symm.trans hres
      clear HG
      have HC := Lib.hid hchg
      have HR := Lib.hid hrd
      clear hown hvx hchg HN hres hrd hle hfu hfull
      generalize ds.length = n at *
      go_wp2_with fail
      go_ret2
      exact ⟨HC.out, rfl, _, HR.out⟩
    · obtain ⟨g', rfl⟩ : ∃ g', gk = g' + 1 := ⟨gk - 1, by omega⟩
      have hlt : ds.length < most := by omega
      have hlm : ((ds.length : Int) == (most : Int)) = false := by simp; omega
      have hdl : ds.length + 1 ≤ 70000 := by omega
      cases hat : atom l' with
      | none =>
        have hres := items_err HN.out hlt (show rdA l' = .error 3 by unfold rdA; rw [hat])
        obtain rfl := HG.out.symm.trans hres
        clear HG
        have cr := readAtom_any p l' wr hrd hvx hp
        rw [hat] at cr
        simp only [toldA, zA, nextA] at cr
        have HC := Lib.hid hchg
        clear hown hvx hchg HN hres hrd hle hfu hfull hat
        generalize ds.length = n at *
        go_wp2_with fail
        refine cr.mono ?_
        rintro e w1 ⟨rfl, ⟨l1, k1⟩, k2⟩
        have hb := (Below.refl w1.heap.size w1).alloc (Nat.le_refl _) (.cells #[.string ⟨#[]⟩, .int .i64 0, .string ⟨#[]⟩] 36)
        have HR1 := Lib.hid (k1.below hb)
        have HC1 := Lib.hid ((HC.out.trans k2).trans (Blk.Chg.ofBelow' hb))
        clear k1 k2 hb
        go_wp2_with fail
        go_ret2
        exact ⟨HC1.out, rfl, _, HR1.out⟩
      | some q =>
        obtain ⟨x, r⟩ := q
        have cr := readAtom_any p l' wr hrd hvx hp
        have hrA : rdA l' = .ok (x, r) := by unfold rdA; rw [hat]
        rw [hat] at cr
        simp only [toldA, aV, nextA] at cr
        have HOWN := Lib.hid hown
        have HVX := Lib.hid hvx
        have HC := Lib.hid hchg
        have hdo := fun u (h : Rd u p r) => take_any p r c u h
        have hres1 := fun h => items_last HN.out hlt hrA h
        have hres2 := fun r2 h => items_next (r2 := r2) HN.out hlt hrA h
        have HR1 := Lib.hid hres1
        have HR2 := Lib.hid hres2
        have hacc := acells_app ds x
        have HACC := Lib.hid hacc
        clear hown hvx hchg HN hrd hfull hat hres1 hres2 hrA hacc
        generalize hn : ds.length = n at *
        have HDN := Lib.hid hn
        clear hn
        go_wp2_with fail
        refine cr.mono ?_
        rintro e w1 ⟨rfl, k1, k2⟩
        obtain ⟨hb3, hc3⟩ := two_new w1 36 #[.string (S x.1), .int .i64 x.2.1, .string (S x.2.2)]
        have hv1 := HVX.out.one k2 hp
        have hown1 := k2.owns HOWN.out fun b hb e => by have := own_lt HOWN.out hb; omega
        obtain ⟨W3, hW3⟩ : ∃ W3, (w1.alloc (.cells #[.string (S x.1), .int .i64 x.2.1, .string (S x.2.2)] 36)).alloc (.cells #[.string (S x.1), .int .i64 x.2.1, .string (S x.2.2)] 36) = W3 := ⟨_, rfl⟩
        rw [hW3] at hb3 hc3
        have HW3 := Lib.hid hW3
        have HC3 := Lib.hid hc3
        have HOWN3 := Lib.hid (Own.owns_below hown1 hb3)
        have HR3 := Lib.hid (k1.below hb3)
        have HV3 := Lib.hid (hv1.on hb3)
        have HCH3 := Lib.hid ((HC.out.trans k2).trans (Blk.Chg.ofBelow' hb3))
        have HSZ := Lib.hid HCH3.out.size
        clear hW3 hc3 hb3 hv1 hown1 k1 k2 HOWN HVX HC H HV cr
        go_wp2_with (at_builtin; rw [HW3.out]; refine append_el Tryd.underlying26 infoA rfl (by decide) rfl (.tmp 26) (.tmp 28) rfl w.heap.size (.slice sa n cap) n (acells ds) rfl HOWN3.out (w1.heap.size + 1) 1 rfl (acell x) rfl (fun j u hj => HC3.out j u (by simpa [acell] using hj)) (fun u hu => by simp only [acell, List.mem_cons, List.not_mem_nil, or_false] at hu; rcases hu with rfl | rfl | rfl <;> rfl) hdl HSZ.out ?_; intro v' w4 h4 h5; obtain ⟨g1, g2, g3⟩ := grow_all hpl HOB.out HR3.out HV3.out HCH3.out HOWN3.out h5; obtain ⟨a4, c4, rfl, _⟩ := own_shape h4; have H4 := Lib.hid h4; have G1 := Lib.hid g1; have G2 := Lib.hid g2; have G3 := Lib.hid g3; clear h4 h5 g1 g2 g3 HW3 HC3 HOWN3 HR3 HV3 HCH3)
        cases ht : tk c r with
        | none =>
          have hd1 := hdo w4 G1.out
          rw [ht] at hd1
          simp only [Option.getD_none, Option.isSome_none] at hd1
          obtain rfl := HG.out.symm.trans (HR1.out ht)
          clear HG HR1 HR2 hdo ht
          refine hd1.mono ?_
          rintro e w5 ⟨rfl, k1, k2⟩
          have own5 := k2.owns H4.out fun b hb e => by have := own_lt H4.out hb; omega
          have ch5 := G3.out.trans k2
          rw [← HACC.out] at own5
          have hlen : (ds ++ [x]).length = n + 1 := by rw [List.length_append, HDN.out]; rfl
          rw [← hlen] at own5
          have K1 := Lib.hid k1
          have OWN5 := Lib.hid own5
          have CH5 := Lib.hid ch5
          have HLEN := Lib.hid hlen
          clear own5 ch5 k1 k2 hlen
          go_wp2_with fail
          go_ret2
          refine ⟨CH5.out, K1.out, _, rfl, ?_⟩
          have := OWN5.out
          rw [HLEN.out] at this ⊢
          exact this
        | some r2 =>
          have hd1 := hdo w4 G1.out
          rw [ht] at hd1
          simp only [Option.getD_some, Option.isSome_some] at hd1
          have hres := HR2.out r2 ht
          have HRES := Lib.hid hres
          clear HR1 HR2 hdo ht hres
          refine hd1.mono ?_
          rintro e w5 ⟨rfl, k1, k2⟩
          have own5 := k2.owns H4.out fun b hb e => by have := own_lt H4.out hb; omega
          have ch5 := G3.out.trans k2
          have v5 := G2.out.one k2 hp
          rw [← HACC.out] at own5
          have hlen : (ds ++ [x]).length = n + 1 := by rw [List.length_append, HDN.out]; rfl
          have K1 := Lib.hid k1
          have OWN5 := Lib.hid own5
          have CH5 := Lib.hid ch5
          have V5 := Lib.hid v5
          have HLEN := Lib.hid hlen
          clear own5 ch5 k1 k2 hlen v5
          go_wp2_with fail
          go_roundg g'
          case measure => omega
          case rel =>
            refine ⟨ds ++ [x], r2, a4, c4, by rw [HLEN.out], ?_, K1.out, V5.out, CH5.out, HRES.out, by rw [HLEN.out]; omega, by rw [HLEN.out]; omega⟩
            rw [HLEN.out]
            exact OWN5.out
end Rl
end Go.Proofs.YtddfjndclgapcaaDoor

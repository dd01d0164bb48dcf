/-
The reader of package relation: a clause, what is provided. readList of what is provided.
-/
import Derived.Test.YtddfjndclgapcaaDoorRelListA
namespace Go.Proofs.YtddfjndclgapcaaDoor
open Go.RowKit
set_option linter.unusedSimpArgs false
set_option linter.unusedVariables false
namespace Rl
open Ver (Bs li li_len li_drop S S_self S_of S_size S_li below_drewN empty_is empty_no MaxLen Signs)
theorem readClause_any (p : Nat) (l : Bs) (w : World) (h : Rd w p l) (hv : Vars w) (hp : Off p) :
    Calls Tryd.prog 32 #[.pointer (some ⟨p, 0, none⟩)] w fun e w' => PostA w p (rdC l) e w' := by
  have c := listA_any p l 6 124 w h hv hp (by omega)
  rw [show items rdA 124 6 l = rdC l from rfl] at c
  clear h hv
  cases hq : rdC l with
  | error er =>
    rw [hq] at c
    unfold PostA at c ⊢
    simp only at c ⊢
    clear hq
    go_enter Tryd.func32, Tryd.ntmps32
    go_wp2_with fail
    refine c.mono ?_
    rintro e w1 ⟨k1, rfl, k2⟩
    go_wp2_with fail
    go_ret2
    exact ⟨k1, rfl, k2⟩
  | ok q =>
    obtain ⟨xs, r⟩ := q
    rw [hq] at c
    unfold PostA at c ⊢
    simp only at c ⊢
    clear hq
    go_enter Tryd.func32, Tryd.ntmps32
    go_wp2_with fail
    refine c.mono ?_
    rintro e w1 ⟨k1, k2, v, rfl, k3⟩
    go_wp2_with fail
    go_ret2
    exact ⟨k1, k2, _, rfl, k3⟩
def pV (a : Pv) : Value := .agg #[.string (S a.1), .string (S a.2)]
def zP : Value := .agg #[.string ⟨#[]⟩, .string ⟨#[]⟩]
def PostP1 (w : World) (p : Nat) (o : Except Int (Pv × Bs)) (e : Ending) (w' : World) : Prop :=
  Blk.Chg (fun k => k = p) w w' ∧ match o with
    | .error er => e = .returned (.tuple #[zP, .int .i64 er]) ∧ ∃ l, Rd w' p l
    | .ok (x, r) => Rd w' p r ∧ e = .returned (.tuple #[pV x, .int .i64 0])
/-- A reader and the place of the result, two cells. -/
structure St2 (w u : World) (p : Nat) (l : Bs) : Prop where
  np : p < w.heap.size
  rd : Rd u p l
  res : Blk.Is u w.heap.size 68 #[.string ⟨#[]⟩, .string ⟨#[]⟩]
  chg : Blk.Chg (fun k => k = p) w u
theorem St2.below {w u u' : World} {p : Nat} {l : Bs} (h : St2 w u p l) (hb : Below u.heap.size u u') : St2 w u' p l :=
  ⟨h.np, h.rd.below hb, is_on h.res hb, h.chg.trans (Blk.Chg.ofBelow' hb)⟩
theorem St2.rcells {w u : World} {p : Nat} {l : Bs} (h : St2 w u p l) : u.cell? ⟨w.heap.size, 0, none⟩ = some (.string ⟨#[]⟩) ∧ u.cell? ⟨w.heap.size, 1, none⟩ = some (.string ⟨#[]⟩) ∧ u.frozen? ⟨w.heap.size, 0, none⟩ = false ∧ u.frozen? ⟨w.heap.size, 1, none⟩ = false :=
  ⟨h.res.at rfl, h.res.at rfl, h.res.free _, h.res.free _⟩
theorem St2.fin {w u : World} {p : Nat} {l : Bs} (h : St2 w u p l) (x' y' : Value) :
    ((u.setCell ⟨w.heap.size, 0, none⟩ x').setCell ⟨w.heap.size, 1, none⟩ y').cell? ⟨w.heap.size, 0, none⟩ = some x' ∧
    ((u.setCell ⟨w.heap.size, 0, none⟩ x').setCell ⟨w.heap.size, 1, none⟩ y').cell? ⟨w.heap.size, 1, none⟩ = some y' ∧
    Rd ((u.setCell ⟨w.heap.size, 0, none⟩ x').setCell ⟨w.heap.size, 1, none⟩ y') p l ∧
    Blk.Chg (fun k => k = p) w ((u.setCell ⟨w.heap.size, 0, none⟩ x').setCell ⟨w.heap.size, 1, none⟩ y') := by
  have h3 := (h.res.set 0 x').set 1 y'
  have hc : Blk.Chg (fun k => k = w.heap.size) u ((u.setCell ⟨w.heap.size, 0, none⟩ x').setCell ⟨w.heap.size, 1, none⟩ y') := ((Blk.Chg.refl (fun k => k = w.heap.size) u).setAt rfl).setAt rfl
  have h1 := h.np
  refine ⟨h3.at rfl, h3.at rfl, h.rd.chg hc (by omega), ?_⟩
  exact (h.chg.setCell' (p := ⟨w.heap.size, 0, none⟩) (Nat.le_refl _) x').setCell' (p := ⟨w.heap.size, 1, none⟩) (Nat.le_refl _) y'
set_option maxRecDepth 100000 in
set_option maxHeartbeats 4000000 in
theorem readProvide_any (p : Nat) (l : Bs) (w : World) (h : Rd w p l) (hv : Vars w) (hp : Off p) :
    Calls Tryd.prog 38 #[.pointer (some ⟨p, 0, none⟩)] w fun e w' => PostP1 w p (rdP l) e w' := by
  have hpl := h.sizes.1
  have hob := fun b => hv.off (b := b)
  have hB0 : Below w.heap.size w (w.alloc (.cells #[.string ⟨#[]⟩, .string ⟨#[]⟩] 68)) := (Below.refl _ _).alloc (Nat.le_refl _) _
  have hI0 := Blk.Is.new w 68 #[.string ⟨#[]⟩, .string ⟨#[]⟩]
  have c := fun w h hv => readAtom_any p l w h hv hp
  unfold rdP rdA
  have H := Lib.hid (h.below hB0)
  have HV := Lib.hid (hv.on hB0)
  have hst : ∀ u l', Rd u p l' → Blk.Chg (fun k => k = p) (w.alloc (.cells #[.string ⟨#[]⟩, .string ⟨#[]⟩] 68)) u → St2 w u p l' := fun u l' h1 h2 =>
    ⟨hpl, h1, h2.is hI0 (by omega), (Blk.Chg.ofBelow' hB0).trans h2⟩
  have HST := Lib.hid hst
  clear hst hB0 hI0 hob h hv
  cases hat : atom l with
  | none =>
    rw [hat] at c
    simp only [toldA, zA, nextA] at c
    unfold PostP1 prv
    simp only [zP]
    clear hat
    go_enter Tryd.func38, Tryd.ntmps38
    go_wp2_with fail
    generalize w.alloc (.cells #[.string ⟨#[]⟩, .string ⟨#[]⟩] 68) = W at *
    refine (c _ H.out HV.out).mono ?_
    rintro e w1 ⟨rfl, k1, k2⟩
    obtain ⟨l1, k1⟩ := k1
    have st := HST.out _ _ k1 k2
    have b2 := (Below.refl w1.heap.size w1).alloc (Nat.le_refl _) (.cells #[.string ⟨#[]⟩, .int .i64 0, .string ⟨#[]⟩] 36)
    have hi2 := Blk.Is.new w1 36 #[.string ⟨#[]⟩, .int .i64 0, .string ⟨#[]⟩]
    obtain ⟨i0, i1, i2⟩ := cells3 hi2
    have S1 := st.below b2
    obtain ⟨r0, r1, g0, g1⟩ := S1.rcells
    have E := S1.fin (.string ⟨#[]⟩) (.string ⟨#[]⟩)
    clear k1 k2 st S1 b2 hi2 HST H HV
    go_wp2_with fail
    generalize (((w1.alloc (.cells #[.string ⟨#[]⟩, .int .i64 0, .string ⟨#[]⟩] 36)).setCell ⟨w.heap.size, 0, none⟩ (.string ⟨#[]⟩)).setCell ⟨w.heap.size, 1, none⟩ (.string ⟨#[]⟩)) = V at *
    obtain ⟨j0, j1, hrd, hch⟩ := E
    clear r0 r1 g0 g1 i0 i1 i2
    refine bodyPost_ret (by simp [results, Tryd.results38, go_sem, j0, j1]; try rfl) rfl ?_
    exact ⟨hch, rfl, _, hrd⟩
  | some q =>
    obtain ⟨⟨n, r, v⟩, l1⟩ := q
    rw [hat] at c
    simp only [toldA, aV, nextA] at c
    unfold PostP1 prv
    simp only [zP, pV]
    clear hat
    by_cases h0 : r = 0
    · subst h0
      rw [if_pos (.inl rfl)]
      simp only
      go_enter Tryd.func38, Tryd.ntmps38
      go_wp2_with fail
      generalize w.alloc (.cells #[.string ⟨#[]⟩, .string ⟨#[]⟩] 68) = W at *
      refine (c _ H.out HV.out).mono ?_
      rintro e w1 ⟨rfl, k1, k2⟩
      have st := HST.out _ _ k1 k2
      have b2 := (Below.refl w1.heap.size w1).alloc (Nat.le_refl _) (.cells #[.string (S n), .int .i64 0, .string (S v)] 36)
      have hi2 := Blk.Is.new w1 36 #[.string (S n), .int .i64 0, .string (S v)]
      obtain ⟨i0, i1, i2⟩ := cells3 hi2
      have S1 := st.below b2
      obtain ⟨r0, r1, g0, g1⟩ := S1.rcells
      have E := S1.fin (.string (S n)) (.string (S v))
      clear k1 k2 st S1 b2 hi2 HST H HV
      go_wp2_with fail
      generalize (((w1.alloc (.cells #[.string (S n), .int .i64 0, .string (S v)] 36)).setCell ⟨w.heap.size, 0, none⟩ (.string (S n))).setCell ⟨w.heap.size, 1, none⟩ (.string (S v))) = V at *
      obtain ⟨j0, j1, hrd, hch⟩ := E
      clear r0 r1 g0 g1 i0 i1 i2
      refine bodyPost_ret (by simp [results, Tryd.results38, go_sem, j0, j1]; try rfl) rfl ?_
      exact ⟨hch, hrd, rfl⟩
    · by_cases h3 : r = 3
      · subst h3
        rw [if_pos (.inr rfl)]
        simp only
        go_enter Tryd.func38, Tryd.ntmps38
        go_wp2_with fail
        generalize w.alloc (.cells #[.string ⟨#[]⟩, .string ⟨#[]⟩] 68) = W at *
        refine (c _ H.out HV.out).mono ?_
        rintro e w1 ⟨rfl, k1, k2⟩
        have st := HST.out _ _ k1 k2
        have b2 := (Below.refl w1.heap.size w1).alloc (Nat.le_refl _) (.cells #[.string (S n), .int .i64 3, .string (S v)] 36)
        have hi2 := Blk.Is.new w1 36 #[.string (S n), .int .i64 3, .string (S v)]
        obtain ⟨i0, i1, i2⟩ := cells3 hi2
        have S1 := st.below b2
        obtain ⟨r0, r1, g0, g1⟩ := S1.rcells
        have E := S1.fin (.string (S n)) (.string (S v))
        clear k1 k2 st S1 b2 hi2 HST H HV
        go_wp2_with fail
        generalize (((w1.alloc (.cells #[.string (S n), .int .i64 3, .string (S v)] 36)).setCell ⟨w.heap.size, 0, none⟩ (.string (S n))).setCell ⟨w.heap.size, 1, none⟩ (.string (S v))) = V at *
        obtain ⟨j0, j1, hrd, hch⟩ := E
        clear r0 r1 g0 g1 i0 i1 i2
        refine bodyPost_ret (by simp [results, Tryd.results38, go_sem, j0, j1]; try rfl) rfl ?_
        exact ⟨hch, hrd, rfl⟩
      · have h01 : (r != 0) = true := by simpa using h0
        have h31 : (r != 3) = true := by simpa using h3
        rw [if_neg (by omega)]
        simp only
        clear h0 h3
        go_enter Tryd.func38, Tryd.ntmps38
        go_wp2_with fail
        generalize w.alloc (.cells #[.string ⟨#[]⟩, .string ⟨#[]⟩] 68) = W at *
        refine (c _ H.out HV.out).mono ?_
        rintro e w1 ⟨rfl, k1, k2⟩
        have st := HST.out _ _ k1 k2
        have b2 := (Below.refl w1.heap.size w1).alloc (Nat.le_refl _) (.cells #[.string (S n), .int .i64 r, .string (S v)] 36)
        have hi2 := Blk.Is.new w1 36 #[.string (S n), .int .i64 r, .string (S v)]
        obtain ⟨i0, i1, i2⟩ := cells3 hi2
        have S1 := st.below b2
        obtain ⟨r0, r1, g0, g1⟩ := S1.rcells
        have E := S1.fin (.string ⟨#[]⟩) (.string ⟨#[]⟩)
        clear k1 k2 st S1 b2 hi2 HST H HV
        go_wp2_with fail
        generalize (((w1.alloc (.cells #[.string (S n), .int .i64 r, .string (S v)] 36)).setCell ⟨w.heap.size, 0, none⟩ (.string ⟨#[]⟩)).setCell ⟨w.heap.size, 1, none⟩ (.string ⟨#[]⟩)) = V at *
        obtain ⟨j0, j1, hrd, hch⟩ := E
        clear r0 r1 g0 g1 i0 i1 i2
        refine bodyPost_ret (by simp [results, Tryd.results38, go_sem, j0, j1]; try rfl) rfl ?_
        exact ⟨hch, rfl, _, hrd⟩
end Rl
end Go.Proofs.YtddfjndclgapcaaDoor
namespace Go.Proofs.YtddfjndclgapcaaDoor
open Go.RowKit
set_option linter.unusedSimpArgs false
set_option linter.unusedVariables false
namespace Rl
open Ver (Bs li li_len li_drop S S_self S_of S_size S_li below_drewN empty_is empty_no MaxLen Signs)
def pcell (a : Pv) : List Value := [.string (S a.1), .string (S a.2)]
def pcells (l : List Pv) : List Value := l.flatMap pcell
theorem pcells_app (l : List Pv) (a : Pv) : pcells (l ++ [a]) = pcells l ++ pcell a := by unfold pcells; simp
theorem rdP_err {l : Bs} {e : Int} (h : rdP l = .error e) : e = 3 := by
  unfold rdP prv at h
  cases hq : rdA l with
  | error er => rw [hq] at h; cases h; rfl
  | ok q =>
    obtain ⟨a, r⟩ := q
    rw [hq] at h
    simp only at h
    split at h
    · cases h
    · cases h; rfl
/-- What readList tells, of what is provided. -/
def PostP (w : World) (p : Nat) (o : Except Int (List Pv × Bs)) (e : Ending) (w' : World) : Prop :=
  Blk.Chg (fun k => k = p) w w' ∧ match o with
    | .error er => e = .returned (.tuple #[.slice none 0 0, .int .i64 er]) ∧ ∃ l, Rd w' p l
    | .ok (xs, r) => Rd w' p r ∧ ∃ v, e = .returned (.tuple #[v, .int .i64 0]) ∧ w'.ownsRow w.heap.size 68 2 v xs.length (pcells xs)
set_option maxRecDepth 100000 in
set_option maxHeartbeats 4000000 in
theorem listP_any (p : Nat) (l : Bs) (most : Nat) (c : UInt8) (w : World) (h : Rd w p l) (hv : Vars w) (hp : Off p) (hm : most ≤ 12) :
    Calls Tryd.prog 61 #[.pointer (some ⟨p, 0, none⟩), .int .i64 most, .string ⟨#[c]⟩, .func (.func 38) #[] #[]] w fun e w' => PostP w p (items rdP c most l) e w' := by
  have hpl := h.sizes.1
  have hob := fun b => hv.off (b := b)
  have HOB := Lib.hid hob
  have H := Lib.hid h
  have HV := Lib.hid hv
  clear h hv hob
  obtain ⟨G, hG⟩ : ∃ G, items rdP c most l = G := ⟨_, rfl⟩
  have HG := Lib.hid hG
  rw [hG]
  clear hG
  go_enter Tryd.func61, Tryd.ntmps61
  go_wp2_with fail
  go_loopg [10] most (fun gf s10 wx => ∃ (ds : List Pv) (l' : Bs) (sa : Option Addr) (cap : Nat), s10 = .slice sa ds.length cap ∧ wx.ownsRow w.heap.size 68 2 (.slice sa ds.length cap) ds.length (pcells ds) ∧ Rd wx p l' ∧ Vars wx ∧ Blk.Chg (fun k => k = p) w wx ∧ Hid (items rdP c most l = pre ds (items rdP c (most - ds.length) l')) ∧ ds.length ≤ most ∧ most ≤ ds.length + gf)
  case atStart => exact ⟨[], l, none, 0, rfl, World.ownsRow_nil w _ _ 2, H.out, HV.out, Blk.Chg.refl _ _, (pre_nil _).symm, by simp, by simp⟩
  case round =>
    obtain ⟨ds, l', sa, cap, rfl, hown, hrd, hvx, hchg, HN, hle, hfu⟩ := hrel
    have hsz := hchg.size
    by_cases hfull : ds.length = most
    · have hres := items_full HN.out hfull
      have hlm : ((ds.length : Int) == (most : Int)) = true := by simp [hfull]
      obtain rfl := HG.out.symm.trans hres
      clear HG
      have HC := Lib.hid hchg
      have HR := Lib.hid hrd
      clear hown hvx hchg HN hres hrd hle hfu hfull
      generalize ds.length = n at *
      go_wp2_with fail
      go_ret2
      exact ⟨HC.out, rfl, _, HR.out⟩
    · obtain ⟨g', rfl⟩ : ∃ g', gk = g' + 1 := ⟨gk - 1, by omega⟩
      have hlt : ds.length < most := by omega
      have hlm : ((ds.length : Int) == (most : Int)) = false := by simp; omega
      have hdl : ds.length + 1 ≤ 70000 := by omega
      cases hat : rdP l' with
      | error er =>
        have her := rdP_err hat
        subst her
        have hres := items_err HN.out hlt hat
        obtain rfl := HG.out.symm.trans hres
        clear HG
        have cr := readProvide_any p l' wr hrd hvx hp
        rw [hat] at cr
        unfold PostP1 at cr
        simp only [zP] at cr
        have HC := Lib.hid hchg
        clear hown hvx hchg HN hres hrd hle hfu hfull hat
        generalize ds.length = n at *
        go_wp2_with fail
        refine cr.mono ?_
        rintro e w1 ⟨k2, rfl, l1, k1⟩
        have hb := (Below.refl w1.heap.size w1).alloc (Nat.le_refl _) (.cells #[.string ⟨#[]⟩, .string ⟨#[]⟩] 68)
        have HR1 := Lib.hid (k1.below hb)
        have HC1 := Lib.hid ((HC.out.trans k2).trans (Blk.Chg.ofBelow' hb))
        clear k1 k2 hb
        go_wp2_with fail
        go_ret2
        exact ⟨HC1.out, rfl, _, HR1.out⟩
      | ok q =>
        obtain ⟨x, r⟩ := q
        have cr := readProvide_any p l' wr hrd hvx hp
        have hrA : rdP l' = .ok (x, r) := hat
        rw [hat] at cr
        unfold PostP1 at cr
        simp only [pV] at cr
        have HOWN := Lib.hid hown
        have HVX := Lib.hid hvx
        have HC := Lib.hid hchg
        have hdo := fun u (h : Rd u p r) => take_any p r c u h
        have hres1 := fun h => items_last HN.out hlt hrA h
        have hres2 := fun r2 h => items_next (r2 := r2) HN.out hlt hrA h
        have HR1 := Lib.hid hres1
        have HR2 := Lib.hid hres2
        have hacc := pcells_app ds x
        have HACC := Lib.hid hacc
        clear hown hvx hchg HN hrd hfull hat hres1 hres2 hrA hacc
        generalize hn : ds.length = n at *
        have HDN := Lib.hid hn
        clear hn
        go_wp2_with fail
        refine cr.mono ?_
        rintro e w1 ⟨k2, k1, rfl⟩
        obtain ⟨hb3, hc3⟩ := two_new w1 68 #[.string (S x.1), .string (S x.2)]
        have hv1 := HVX.out.one k2 hp
        have hown1 := k2.owns HOWN.out fun b hb e => by have := own_lt HOWN.out hb; omega
        obtain ⟨W3, hW3⟩ : ∃ W3, (w1.alloc (.cells #[.string (S x.1), .string (S x.2)] 68)).alloc (.cells #[.string (S x.1), .string (S x.2)] 68) = W3 := ⟨_, rfl⟩
        rw [hW3] at hb3 hc3
        have HW3 := Lib.hid hW3
        have HC3 := Lib.hid hc3
        have HOWN3 := Lib.hid (Own.owns_below hown1 hb3)
        have HR3 := Lib.hid (k1.below hb3)
        have HV3 := Lib.hid (hv1.on hb3)
        have HCH3 := Lib.hid ((HC.out.trans k2).trans (Blk.Chg.ofBelow' hb3))
        have HSZ := Lib.hid HCH3.out.size
        clear hW3 hc3 hb3 hv1 hown1 k1 k2 HOWN HVX HC H HV cr
        go_wp2_with (at_builtin; rw [HW3.out]; refine append_el Tryd.underlying29 infoP rfl (by decide) rfl (.tmp 26) (.tmp 28) rfl w.heap.size (.slice sa n cap) n (pcells ds) rfl HOWN3.out (w1.heap.size + 1) 1 rfl (pcell x) rfl (fun j u hj => HC3.out j u (by simpa [pcell] using hj)) (fun u hu => by simp only [pcell, List.mem_cons, List.not_mem_nil, or_false] at hu; rcases hu with rfl | rfl <;> rfl) hdl HSZ.out ?_; intro v' w4 h4 h5; obtain ⟨g1, g2, g3⟩ := grow_all hpl HOB.out HR3.out HV3.out HCH3.out HOWN3.out h5; obtain ⟨a4, c4, rfl, _⟩ := own_shape h4; have H4 := Lib.hid h4; have G1 := Lib.hid g1; have G2 := Lib.hid g2; have G3 := Lib.hid g3; clear h4 h5 g1 g2 g3 HW3 HC3 HOWN3 HR3 HV3 HCH3)
        cases ht : tk c r with
        | none =>
          have hd1 := hdo w4 G1.out
          rw [ht] at hd1
          simp only [Option.getD_none, Option.isSome_none] at hd1
          obtain rfl := HG.out.symm.trans (HR1.out ht)
          clear HG HR1 HR2 hdo ht
          refine hd1.mono ?_
          rintro e w5 ⟨rfl, k1, k2⟩
          have own5 := k2.owns H4.out fun b hb e => by have := own_lt H4.out hb; omega
          have ch5 := G3.out.trans k2
          rw [← HACC.out] at own5
          have hlen : (ds ++ [x]).length = n + 1 := by rw [List.length_append, HDN.out]; rfl
          rw [← hlen] at own5
          have K1 := Lib.hid k1
          have OWN5 := Lib.hid own5
          have CH5 := Lib.hid ch5
          have HLEN := Lib.hid hlen
          clear own5 ch5 k1 k2 hlen
          go_wp2_with fail
          go_ret2
          refine ⟨CH5.out, K1.out, _, rfl, ?_⟩
          have := OWN5.out
          rw [HLEN.out] at this ⊢
          exact this
        | some r2 =>
          have hd1 := hdo w4 G1.out
          rw [ht] at hd1
          simp only [Option.getD_some, Option.isSome_some] at hd1
          have hres := HR2.out r2 ht
          have HRES := Lib.hid hres
          clear HR1 HR2 hdo ht hres
          refine hd1.mono ?_
          rintro e w5 ⟨rfl, k1, k2⟩
          have own5 := k2.owns H4.out fun b hb e => by have := own_lt H4.out hb; omega
          have ch5 := G3.out.trans k2
          have v5 := G2.out.one k2 hp
          rw [← HACC.out] at own5
          have hlen : (ds ++ [x]).length = n + 1 := by rw [List.length_append, HDN.out]; rfl
          have K1 := Lib.hid k1
          have OWN5 := Lib.hid own5
          have CH5 := Lib.hid ch5
          have V5 := Lib.hid v5
          have HLEN := Lib.hid hlen
          clear own5 ch5 k1 k2 hlen v5
          go_wp2_with fail
          go_roundg g'
          case measure => omega
          case rel =>
            refine ⟨ds ++ [x], r2, a4, c4, by rw [HLEN.out], ?_, K1.out, V5.out, CH5.out, HRES.out, by rw [HLEN.out]; omega, by rw [HLEN.out]; omega⟩
            rw [HLEN.out]
            exact OWN5.out
end Rl
end Go.Proofs.YtddfjndclgapcaaDoor

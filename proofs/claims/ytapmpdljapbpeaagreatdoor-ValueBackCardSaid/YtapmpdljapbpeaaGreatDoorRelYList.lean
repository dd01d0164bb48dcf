/-
The reference's AtomList. The reference's ProvideList. The reference's Relation.
-/
import Derived.Test.YtapmpdljapbpeaaGreatDoorRelYRead
namespace Go.Proofs.YtapmpdljapbpeaaGreatDoor
open Go.RowKit
set_option linter.unusedSimpArgs false
set_option linter.unusedVariables false
namespace Rl
open Ver (Bs li li_len li_drop S S_self S_of S_size S_li below_drewN empty_is empty_no MaxLen Signs)
def prey {α : Type} (ds : List α) : Except Int (List α) → Except Int (List α)
  | .error e => .error e
  | .ok xs => .ok (ds ++ xs)
theorem prey_nil {α : Type} (o : Except Int (List α)) : prey [] o = o := by cases o with
  | error e => rfl
  | ok q => rfl
section
variable {α : Type} {rd : Bs → Except Int (α × Bs)} {most : Nat} {l m : Bs} {ds : List α}
def Yit (rd : Bs → Except Int (α × Bs)) (most : Nat) (l m : Bs) (ds : List α) : Prop := yitems rd most l = prey ds (yitems rd (most - ds.length) m)
theorem Yit.full (h : Yit rd most l m ds) (hd : ds.length = most) : yitems rd most l = .error 12 := by
  rw [h, hd, Nat.sub_self]; rfl
theorem Yit.err {e : Int} (h : Yit rd most l m ds) (hd : ds.length < most) (he : rd m = .error e) : yitems rd most l = .error e := by
  obtain ⟨k, hk⟩ : ∃ k, most - ds.length = k + 1 := ⟨most - ds.length - 1, by omega⟩
  rw [h, hk]
  unfold yitems
  rw [he]; rfl
theorem Yit.last {x : α} (h : Yit rd most l m ds) (hd : ds.length < most) (he : rd m = .ok (x, [])) : yitems rd most l = .ok (ds ++ [x]) := by
  obtain ⟨k, hk⟩ : ∃ k, most - ds.length = k + 1 := ⟨most - ds.length - 1, by omega⟩
  rw [h, hk]
  unfold yitems
  rw [he]
  simp only [if_true]
  rfl
theorem Yit.no {x : α} {r : Bs} (h : Yit rd most l m ds) (hd : ds.length < most) (he : rd m = .ok (x, r)) (hr : r ≠ []) (ht : tk 44 r = none) : yitems rd most l = .error 3 := by
  obtain ⟨k, hk⟩ : ∃ k, most - ds.length = k + 1 := ⟨most - ds.length - 1, by omega⟩
  rw [h, hk]
  unfold yitems
  rw [he]
  simp only [hr, if_false]
  rw [ht]; rfl
theorem Yit.next {x : α} {r r2 : Bs} (h : Yit rd most l m ds) (hd : ds.length < most) (he : rd m = .ok (x, r)) (hr : r ≠ []) (ht : tk 44 r = some r2) : Yit rd most l r2 (ds ++ [x]) := by
  unfold Yit at h ⊢
  obtain ⟨k, hk⟩ : ∃ k, most - ds.length = k + 1 := ⟨most - ds.length - 1, by omega⟩
  have hk2 : most - (ds ++ [x]).length = k := by rw [List.length_append]; simp; omega
  rw [h, hk, hk2]
  conv => lhs; unfold yitems
  rw [he]
  simp only [hr, if_false]
  rw [ht]
  simp only
  cases yitems rd k r2 with
  | error e => rfl
  | ok xs =>
    show Except.ok (ds ++ x :: xs) = Except.ok ((ds ++ [x]) ++ xs)
    simp
end
theorem yrdA_none {l : Bs} (h : yatom l = none) : yrdA l = .error 3 := by unfold yrdA; rw [h]
theorem yrdA_some {l : Bs} {q : At × Bs} (h : yatom l = some q) : yrdA l = .ok q := by unfold yrdA; rw [h]
theorem yx_grown {u u' : World} {p B : Nat} {l : Bs} {bad : Bool} {v : Value} {n : Nat} {T : TypeId} {sz : Nat} {xs : List Value} (hr : Yx u p l bad) (hp : p < B) (hown : u.ownsRow B T sz v n xs) (hg : u.grownBy u' v.ownBlock) : Yx u' p l bad :=
  hr.chg (Q := fun k => v.ownBlock = some k) (Blk.Chg.grown (Blk.Chg.refl _ u) hg fun k hk _ => hk) fun h => by have := own_lt hown h; omega
theorem cells_at {w : World} {b : Nat} {T : TypeId} {C : Array Value} (h : Blk.Is w b T C) : ∀ (j : Nat) u, C[j]? = some u → w.cell? ⟨b, j, none⟩ = some u := fun j u hj => h.at hj
set_option maxRecDepth 100000 in
set_option maxHeartbeats 4000000 in
theorem yAtomList_any (s : ByteArray) (w : World) (hs : s.size ≤ 4611686018427387904) :
    Calls Tryz.prog 66 #[.string s] w fun e w' => WholeA w (ywhole yrdA (li s)) e w' := by
  have hb0 : Below w.heap.size w (w.alloc (.cells #[.string s, .bool false] 115)) := (Below.refl _ _).alloc (Nat.le_refl _) _
  have hy0 : Yx (w.alloc (.cells #[.string s, .bool false] 115)) w.heap.size (li s) false := ⟨by rw [S_self]; exact Blk.Is.new _ _ _, by rw [li_len]; exact hs⟩
  have hsz : w.heap.size < (w.alloc (.cells #[.string s, .bool false] 115)).heap.size := hy0.1.lt
  have cp := peek_any w.heap.size (li s) false _ hy0
  have hsl := Nat.le_trans (skip_le (li s)) hy0.2
  have hss := skip_skip (li s)
  unfold ywhole
  generalize skip (li s) = l at *
  have he0 := isEmpty_S l
  have HB0 := Lib.hid hb0
  have SS := Lib.hid hss
  clear hb0 hy0 hss
  obtain ⟨G, hG⟩ : ∃ G, (if l = [] then Except.ok [] else yitems yrdA 12 l) = G := ⟨_, rfl⟩
  have HG := Lib.hid hG
  rw [hG]
  clear hG
  go_enter Tryz.func66, Tryz.ntmps66
  go_wp2_with fail
  generalize w.alloc (.cells #[.string s, .bool false] 115) = W at *
  refine cp.mono ?_
  rintro e w1 ⟨rfl, k1, k2⟩
  obtain ⟨d0, d1, _, _⟩ := k1.cells
  by_cases hl : l = []
  · subst hl
    have hG := HG.out
    rw [if_pos rfl] at hG
    subst hG
    have hb1 := chg_new HB0.out (Nat.le_refl _) k2
    have HB1 := Lib.hid hb1
    clear k1 k2 hb1 HG cp
    go_wp2_with fail
    go_ret2
    exact ⟨HB1.out, _, rfl, World.ownsRow_nil _ _ _ 3⟩
  · have hne : l.isEmpty = false := by cases l with
      | nil => exact absurd rfl hl
      | cons c t => rfl
    rw [hne] at he0
    have hG := HG.out
    rw [if_neg hl] at hG
    have HG := Lib.hid hG
    have HB1 := Lib.hid (chg_new HB0.out (Nat.le_refl _) k2)
    have K1 := Lib.hid k1
    have hsz1 := k2.size
    clear hG k1 k2 cp hne hl
    go_wp2_with fail
    clear d0 d1 he0
    go_loopg [5] 12 (fun gf s5 wx => ∃ (ds : List At) (m : Bs) (sa : Option Addr) (cap : Nat), s5 = .slice sa ds.length cap ∧ wx.ownsRow W.heap.size 82 3 (.slice sa ds.length cap) ds.length (acells ds) ∧ Yx wx w.heap.size m false ∧ W.heap.size ≤ wx.heap.size ∧ Below w.heap.size w wx ∧ Hid (Yit yrdA 12 l (skip m) ds) ∧ ds.length ≤ 12 ∧ 12 ≤ ds.length + gf)
    case atStart => exact ⟨[], l, none, 0, rfl, World.ownsRow_nil w1 _ _ 3, K1.out, hsz1, HB1.out, (by rw [SS.out]; exact (prey_nil _).symm), by simp, by simp⟩
    case round =>
      obtain ⟨ds, m, sa, cap, rfl, hown, hrd, hwsz, hbw, HN, hle, hfu⟩ := hrel
      by_cases hfull : ds.length = 12
      · have hres := HN.out.full hfull
        have hlm : ((ds.length : Int) == 12) = true := by simp [hfull]
        obtain rfl := HG.out.symm.trans hres
        clear HG
        have HBW := Lib.hid hbw
        clear hown hrd hbw HN hres hle hfu hfull
        generalize ds.length = n at *
        go_wp2_with fail
        go_ret2
        exact ⟨HBW.out, rfl⟩
      · obtain ⟨g', rfl⟩ : ∃ g', gk = g' + 1 := ⟨gk - 1, by omega⟩
        have hlt : ds.length < 12 := by omega
        have hlm : ((ds.length : Int) == 12) = false := by simp; omega
        have hdl : ds.length + 1 ≤ 70000 := by omega
        have cr := yreadAtom_any w.heap.size m wr hrd
        have HOWN := Lib.hid hown
        have HBW := Lib.hid hbw
        cases hat : yatom (skip m) with
        | none =>
          have hres := HN.out.err hlt (yrdA_none hat)
          obtain rfl := HG.out.symm.trans hres
          clear HG
          rw [hat] at cr
          unfold PostY at cr
          simp only [aV] at cr
          clear hown hrd hbw HN hres hle hfu hfull hat
          generalize ds.length = n at *
          go_wp2_with fail
          refine cr.mono ?_
          rintro e w1' ⟨k2, x, l1, rfl, k1⟩
          have hb3 : Below w1'.heap.size w1' (w1'.alloc (.cells #[.string (S x.1), .int .i64 x.2.1, .string (S x.2.2)] 82)) := (Below.refl _ _).alloc (Nat.le_refl _) _
          have hc3 := cells_at (Blk.Is.new w1' 82 #[.string (S x.1), .int .i64 x.2.1, .string (S x.2.2)])
          have hown1 := k2.owns HOWN.out fun b hb e => by have := own_lt HOWN.out hb; omega
          obtain ⟨W3, hW3⟩ : ∃ W3, w1'.alloc (.cells #[.string (S x.1), .int .i64 x.2.1, .string (S x.2.2)] 82) = W3 := ⟨_, rfl⟩
          rw [hW3] at hb3 hc3
          have HW3 := Lib.hid hW3
          have HC3 := Lib.hid hc3
          have HOWN3 := Lib.hid (Own.owns_below hown1 hb3)
          have HR3' := Lib.hid (k1.below hb3)
          have hb31 := (chg_new HBW.out (Nat.le_refl _) k2)
          have HB3 := Lib.hid (hb31.trans (hb3.mono hb31.size))
          have HSZ : Hid (W.heap.size ≤ W3.heap.size) := Nat.le_trans hwsz (Nat.le_trans k2.size hb3.size)
          clear hW3 hc3 hb3 hown1 k1 k2 hb31 HOWN HBW cr
          go_wp2_with (at_builtin; rw [HW3.out]; refine append_el Tryz.underlying23 infoA rfl (by decide) rfl (.tmp 19) (.tmp 22) rfl W.heap.size (.slice sa n cap) n (acells ds) rfl HOWN3.out w1'.heap.size 1 rfl (acell x) rfl (fun j u hj => HC3.out j u (by simpa [acell] using hj)) (fun u hu => by simp only [acell, List.mem_cons, List.not_mem_nil, or_false] at hu; rcases hu with rfl | rfl | rfl <;> rfl) hdl HSZ.out ?_; intro v' w4 h4 h5; have g1 := yx_grown HR3'.out hsz HOWN3.out h5; have g3 := Own.below_grown HB3.out (own_mono HOWN3.out (Nat.le_of_lt hsz)) h5 (Nat.le_trans (Nat.le_of_lt hsz) HSZ.out); have g2 := Nat.le_trans HSZ.out h5.size; obtain ⟨a4, c4, rfl, _⟩ := own_shape h4; obtain ⟨d0, d1, y0, y1⟩ := g1.cells; clear y0 y1; have H4 := Lib.hid h4; have G1 := Lib.hid g1; have G2 := Lib.hid g2; have G3 := Lib.hid g3; clear h4 h5 g1 g2 g3 HW3 HC3 HOWN3 HR3' HB3)
          go_ret2
          exact ⟨G3.out, rfl⟩
        | some q =>
          obtain ⟨x, r⟩ := q
          have hrA := yrdA_some hat
          rw [hat] at cr
          unfold PostY at cr
          simp only [aV] at cr
          have hres1 := fun (h : r = []) => HN.out.last hlt (by rw [← h]; exact hrA)
          have hres2 := fun h => HN.out.no hlt hrA h
          have hres3 := fun r2 h => HN.out.next (r2 := r2) hlt hrA h
          have HR1 := Lib.hid hres1
          have HR2 := Lib.hid hres2
          have HR3 := Lib.hid hres3
          have HACC := Lib.hid (acells_app ds x)
          have hsk : skip r = r ∨ True := .inr trivial
          clear hown hrd hbw HN hfull hat hres1 hres2 hres3 hrA hsk
          generalize hn : ds.length = n at *
          have HDN := Lib.hid hn
          clear hn
          go_wp2_with fail
          refine cr.mono ?_
          rintro e w1' ⟨k2, rfl, m2, k1, hm2⟩
          have HM2 := Lib.hid hm2
          clear hm2
          have hb3 : Below w1'.heap.size w1' (w1'.alloc (.cells #[.string (S x.1), .int .i64 x.2.1, .string (S x.2.2)] 82)) := (Below.refl _ _).alloc (Nat.le_refl _) _
          have hc3 := cells_at (Blk.Is.new w1' 82 #[.string (S x.1), .int .i64 x.2.1, .string (S x.2.2)])
          have hown1 := k2.owns HOWN.out fun b hb e => by have := own_lt HOWN.out hb; omega
          obtain ⟨W3, hW3⟩ : ∃ W3, w1'.alloc (.cells #[.string (S x.1), .int .i64 x.2.1, .string (S x.2.2)] 82) = W3 := ⟨_, rfl⟩
          rw [hW3] at hb3 hc3
          have HW3 := Lib.hid hW3
          have HC3 := Lib.hid hc3
          have HOWN3 := Lib.hid (Own.owns_below hown1 hb3)
          have HR3' := Lib.hid (k1.below hb3)
          have hb31 := (chg_new HBW.out (Nat.le_refl _) k2)
          have HB3 := Lib.hid (hb31.trans (hb3.mono hb31.size))
          have HSZ : Hid (W.heap.size ≤ W3.heap.size) := Nat.le_trans hwsz (Nat.le_trans k2.size hb3.size)
          clear hW3 hc3 hb3 hown1 k1 k2 hb31 HOWN HBW cr
          go_wp2_with (at_builtin; rw [HW3.out]; refine append_el Tryz.underlying23 infoA rfl (by decide) rfl (.tmp 19) (.tmp 22) rfl W.heap.size (.slice sa n cap) n (acells ds) rfl HOWN3.out w1'.heap.size 1 rfl (acell x) rfl (fun j u hj => HC3.out j u (by simpa [acell] using hj)) (fun u hu => by simp only [acell, List.mem_cons, List.not_mem_nil, or_false] at hu; rcases hu with rfl | rfl | rfl <;> rfl) hdl HSZ.out ?_; intro v' w4 h4 h5; have g1 := yx_grown HR3'.out hsz HOWN3.out h5; have g3 := Own.below_grown HB3.out (own_mono HOWN3.out (Nat.le_of_lt hsz)) h5 (Nat.le_trans (Nat.le_of_lt hsz) HSZ.out); have g2 := Nat.le_trans HSZ.out h5.size; obtain ⟨a4, c4, rfl, _⟩ := own_shape h4; obtain ⟨d0, d1, y0, y1⟩ := g1.cells; clear y0 y1; have H4 := Lib.hid h4; have G1 := Lib.hid g1; have G2 := Lib.hid g2; have G3 := Lib.hid g3; clear h4 h5 g1 g2 g3 HW3 HC3 HOWN3 HR3' HB3)
          have cq := peek_any w.heap.size m2 false w4 G1.out
          rw [HM2.out] at cq
          refine cq.mono ?_
          rintro e w5 ⟨rfl, k1, k2⟩
          have hb5 := chg_new G3.out (Nat.le_refl _) k2
          have own5 := k2.owns H4.out fun b hb e => by have := own_lt H4.out hb; omega
          have hsz5 : W.heap.size ≤ w5.heap.size := Nat.le_trans G2.out k2.size
          rw [← HACC.out] at own5
          have hlen : (ds ++ [x]).length = n + 1 := by rw [List.length_append, HDN.out]; rfl
          have OWN5 := Lib.hid own5
          have HB5 := Lib.hid hb5
          have HLEN := Lib.hid hlen
          have K5 := Lib.hid k1
          clear d0 d1 own5 hb5 hlen k2 cq
          obtain ⟨d0, d1, e0, e1⟩ := k1.cells
          have hre := isEmpty_S r
          have hrl := k1.2
          clear k1
          by_cases hr0 : r = []
          · obtain rfl := HG.out.symm.trans (HR1.out hr0)
            have hre2 : (S r).toList.isEmpty = true := by rw [hre, hr0]; rfl
            clear HG HR1 HR2 HR3 hre hr0
            go_wp2_with fail
            go_ret2
            refine ⟨HB5.out, _, rfl, ?_⟩
            have := own_mono OWN5.out (Nat.le_of_lt hsz)
            rw [HLEN.out]
            exact this
          · have hre2 : (S r).toList.isEmpty = false := by rw [hre]; cases r with
              | nil => exact absurd rfl hr0
              | cons c t => rfl
            have hrs : 0 < (S r).size := by rw [S_size]; exact List.length_pos_iff.2 hr0
            have hrs' : (0 : Int) < (S r).size := by omega
            have hb0 := Txt.b_eq (S r) 0 hrs
            have hb1 : Txt.b (S r) 0 = hdN r := by
              obtain ⟨y, hy, hb⟩ := li_drop (S r) 0 hrs
              rw [S_li, List.drop_zero] at hy
              have e : hdN r = y.toNat := by unfold hdN; rw [hy]; rfl
              rw [e]; exact hb.symm
            rw [hb1] at hb0
            rcases tk_hd r 44 (by decide) with ⟨h1, h2⟩ | ⟨t, h1, h2⟩
            · obtain rfl := HG.out.symm.trans (HR2.out hr0 h1)
              have h44 : ((hdN r : Int) != 44) = true := by
                have : hdN r ≠ 44 := h2
                simp; omega
              clear HG HR1 HR2 HR3 hre h1 h2 hb1 hr0
              go_wp2_with fail
              go_ret2
              exact ⟨HB5.out, rfl⟩
            · have h44 : ((hdN r : Int) != 44) = false := by
                have : hdN r = 44 := h2
                simp [this]
              have HN2 := Lib.hid (HR3.out (skip t) hr0 (by rw [h1]; exact tk_cons 44 t))
              obtain ⟨hs1, hs2⟩ := hd_size h1
              have htl : t.length ≤ 4611686018427387904 := by rw [h1, List.length_cons] at hrl; omega
              have K6 := Lib.hid (K5.out.set t htl)
              have own6 : (w5.setCell ⟨w.heap.size, 0, none⟩ (.string (S t))).ownsRow W.heap.size 82 3 (.slice a4 (n + 1) c4) (n + 1) (acells (ds ++ [x])) :=
                ((Blk.Chg.refl (fun k => k = w.heap.size) w5).setAt (o := 0) (u := .string (S t)) rfl).owns OWN5.out fun b hb e => by have := own_lt OWN5.out hb; omega
              have OWN6 := Lib.hid own6
              have HB6 := Lib.hid (HB5.out.setCell (p := ⟨w.heap.size, 0, none⟩) (Nat.le_refl _) (.string (S t)))
              have hsz6 : W.heap.size ≤ (w5.setCell ⟨w.heap.size, 0, none⟩ (.string (S t))).heap.size := by simpa [World.setCell] using hsz5
              clear HR1 HR2 HR3 hre h1 h2 hb1 hr0 own6 htl
              go_wp2_with fail
              generalize w5.setCell ⟨w.heap.size, 0, none⟩ (.string (S t)) = W6 at *
              go_roundg g'
              case measure => omega
              case rel =>
                refine ⟨ds ++ [x], t, a4, c4, by rw [HLEN.out], ?_, K6.out, hsz6, HB6.out, HN2.out, by rw [HLEN.out]; omega, by rw [HLEN.out]; omega⟩
                rw [HLEN.out]
                exact OWN6.out
end Rl
end Go.Proofs.YtapmpdljapbpeaaGreatDoor
namespace Go.Proofs.YtapmpdljapbpeaaGreatDoor
open Go.RowKit
set_option linter.unusedSimpArgs false
set_option linter.unusedVariables false
namespace Rl
open Ver (Bs li li_len li_drop S S_self S_of S_size S_li below_drewN empty_is empty_no MaxLen Signs)
theorem yrdP_none {l : Bs} (h : yatom l = none) : yrdP l = .error 3 := by unfold yrdP; rw [yrdA_none h]; rfl
theorem yrdP_yes {l r n v : Bs} {x : Int} (h : yatom l = some ((n, x, v), r)) (hx : x = 0 ∨ x = 3) : yrdP l = .ok ((n, v), r) := by
  unfold yrdP; rw [yrdA_some h]; unfold prv; simp only; rw [if_pos hx]
theorem yrdP_no {l r n v : Bs} {x : Int} (h : yatom l = some ((n, x, v), r)) (hx : ¬ (x = 0 ∨ x = 3)) : yrdP l = .error 3 := by
  unfold yrdP; rw [yrdA_some h]; unfold prv; simp only; rw [if_neg hx]
set_option maxRecDepth 100000 in
set_option maxHeartbeats 4000000 in
theorem yProvideList_any (s : ByteArray) (w : World) (hs : s.size ≤ 4611686018427387904) :
    Calls Tryz.prog 67 #[.string s] w fun e w' => WholeP w (ywhole yrdP (li s)) e w' := by
  have hb0 : Below w.heap.size w (w.alloc (.cells #[.string s, .bool false] 115)) := (Below.refl _ _).alloc (Nat.le_refl _) _
  have hy0 : Yx (w.alloc (.cells #[.string s, .bool false] 115)) w.heap.size (li s) false := ⟨by rw [S_self]; exact Blk.Is.new _ _ _, by rw [li_len]; exact hs⟩
  have hsz : w.heap.size < (w.alloc (.cells #[.string s, .bool false] 115)).heap.size := hy0.1.lt
  have cp := peek_any w.heap.size (li s) false _ hy0
  have hsl := Nat.le_trans (skip_le (li s)) hy0.2
  have hss := skip_skip (li s)
  unfold ywhole
  generalize skip (li s) = l at *
  have he0 := isEmpty_S l
  have HB0 := Lib.hid hb0
  have SS := Lib.hid hss
  clear hb0 hy0 hss
  obtain ⟨G, hG⟩ : ∃ G, (if l = [] then Except.ok [] else yitems yrdP 12 l) = G := ⟨_, rfl⟩
  have HG := Lib.hid hG
  rw [hG]
  clear hG
  go_enter Tryz.func67, Tryz.ntmps67
  go_wp2_with fail
  generalize w.alloc (.cells #[.string s, .bool false] 115) = W at *
  refine cp.mono ?_
  rintro e w1 ⟨rfl, k1, k2⟩
  obtain ⟨d0, d1, _, _⟩ := k1.cells
  by_cases hl : l = []
  · subst hl
    have hG := HG.out
    rw [if_pos rfl] at hG
    subst hG
    have hb1 := chg_new HB0.out (Nat.le_refl _) k2
    have HB1 := Lib.hid hb1
    clear k1 k2 hb1 HG cp
    go_wp2_with fail
    go_ret2
    exact ⟨HB1.out, _, rfl, World.ownsRow_nil _ _ _ 2⟩
  · have hne : l.isEmpty = false := by cases l with
      | nil => exact absurd rfl hl
      | cons c t => rfl
    rw [hne] at he0
    have hG := HG.out
    rw [if_neg hl] at hG
    have HG := Lib.hid hG
    have HB1 := Lib.hid (chg_new HB0.out (Nat.le_refl _) k2)
    have K1 := Lib.hid k1
    have hsz1 := k2.size
    clear hG k1 k2 cp hne hl
    go_wp2_with fail
    clear d0 d1 he0
    go_loopg [5] 12 (fun gf s5 wx => ∃ (ds : List Pv) (m : Bs) (sa : Option Addr) (cap : Nat), s5 = .slice sa ds.length cap ∧ wx.ownsRow W.heap.size 86 2 (.slice sa ds.length cap) ds.length (pcells ds) ∧ Yx wx w.heap.size m false ∧ W.heap.size ≤ wx.heap.size ∧ Below w.heap.size w wx ∧ Hid (Yit yrdP 12 l (skip m) ds) ∧ ds.length ≤ 12 ∧ 12 ≤ ds.length + gf)
    case atStart => exact ⟨[], l, none, 0, rfl, World.ownsRow_nil w1 _ _ 2, K1.out, hsz1, HB1.out, (by rw [SS.out]; exact (prey_nil _).symm), by simp, by simp⟩
    case round =>
      obtain ⟨ds, m, sa, cap, rfl, hown, hrd, hwsz, hbw, HN, hle, hfu⟩ := hrel
      by_cases hfull : ds.length = 12
      · have hres := HN.out.full hfull
        have hlm : ((ds.length : Int) == 12) = true := by simp [hfull]
        obtain rfl := HG.out.symm.trans hres
        clear HG
        have HBW := Lib.hid hbw
        clear hown hrd hbw HN hres hle hfu hfull
        generalize ds.length = n at *
        go_wp2_with fail
        go_ret2
        exact ⟨HBW.out, rfl⟩
      · obtain ⟨g', rfl⟩ : ∃ g', gk = g' + 1 := ⟨gk - 1, by omega⟩
        have hlt : ds.length < 12 := by omega
        have hlm : ((ds.length : Int) == 12) = false := by simp; omega
        have hdl : ds.length + 1 ≤ 70000 := by omega
        have cr := yreadAtom_any w.heap.size m wr hrd
        have HOWN := Lib.hid hown
        have HBW := Lib.hid hbw
        cases hat : yatom (skip m) with
        | none =>
          have hres := HN.out.err hlt (yrdP_none hat)
          obtain rfl := HG.out.symm.trans hres
          clear HG
          rw [hat] at cr
          unfold PostY at cr
          simp only [aV] at cr
          clear hown hrd hbw HN hres hle hfu hfull hat
          generalize ds.length = n at *
          go_wp2_with fail
          refine cr.mono ?_
          rintro e w1' ⟨k2, a, l1, rfl, k1⟩
          have hb3 : Below w1'.heap.size w1' (w1'.alloc (.cells #[.string (S a.1), .int .i64 a.2.1, .string (S a.2.2)] 82)) := (Below.refl _ _).alloc (Nat.le_refl _) _
          have hb31 := chg_new HBW.out (Nat.le_refl _) k2
          have HB3 := Lib.hid (hb31.trans (hb3.mono hb31.size))
          obtain ⟨d0, d1, _, _⟩ := (k1.below hb3).cells
          clear k1 k2 hb3 hb31 HBW HOWN cr
          go_wp2_with fail
          go_ret2
          exact ⟨HB3.out, rfl⟩
        | some q =>
          obtain ⟨⟨xn, xr, xv⟩, r⟩ := q
          rw [hat] at cr
          unfold PostY at cr
          simp only [aV] at cr
          by_cases hx : xr = 0 ∨ xr = 3
          rotate_left
          · have hres := HN.out.err hlt (yrdP_no hat hx)
            obtain rfl := HG.out.symm.trans hres
            have hx0 : (xr != 0) = true := by simp; omega
            have hx3 : (xr != 3) = true := by simp; omega
            clear HG hown hrd hbw HN hres hle hfu hfull hat hx
            generalize ds.length = n at *
            go_wp2_with fail
            refine cr.mono ?_
            rintro e w1' ⟨k2, rfl, m2, k1, hm2⟩
            have hb3 : Below w1'.heap.size w1' (w1'.alloc (.cells #[.string (S xn), .int .i64 xr, .string (S xv)] 82)) := (Below.refl _ _).alloc (Nat.le_refl _) _
            obtain ⟨i0, i1, i2⟩ := cells3 (Blk.Is.new w1' 82 #[.string (S xn), .int .i64 xr, .string (S xv)])
            have hb31 := chg_new HBW.out (Nat.le_refl _) k2
            have HB3 := Lib.hid (hb31.trans (hb3.mono hb31.size))
            obtain ⟨d0, d1, _, _⟩ := (k1.below hb3).cells
            clear k1 k2 hb3 hb31 HBW HOWN cr hm2
            go_wp2_with fail
            go_ret2
            exact ⟨HB3.out, rfl⟩
          obtain ⟨x, hxd⟩ : ∃ x : Pv, (xn, xv) = x := ⟨_, rfl⟩
          have hrA : yrdP (skip m) = .ok (x, r) := by rw [← hxd]; exact yrdP_yes hat hx
          have hres1 := fun (h : r = []) => HN.out.last hlt (by rw [← h]; exact hrA)
          have hres2 := fun h => HN.out.no hlt hrA h
          have hres3 := fun r2 h => HN.out.next (r2 := r2) hlt hrA h
          have HR1 := Lib.hid hres1
          have HR2 := Lib.hid hres2
          have HR3 := Lib.hid hres3
          have hx03 : xr = 0 ∨ ((xr != 0) = true ∧ xr = 3) := by
            rcases hx with rfl | rfl
            · exact .inl rfl
            · exact .inr ⟨rfl, rfl⟩
          have HXD := Lib.hid hxd
          clear hx hxd
          have HACC := Lib.hid (pcells_app ds x)
          clear hown hrd hbw HN hfull hat hres1 hres2 hres3 hrA
          generalize hn : ds.length = n at *
          have HDN := Lib.hid hn
          clear hn
          rcases hx03 with rfl | ⟨hx0, rfl⟩
          · skip
            go_wp2_with fail
            refine cr.mono ?_
            rintro e w1' ⟨k2, rfl, m2, k1, hm2⟩
            have HM2 := Lib.hid hm2
            clear hm2
            have hb3 : Below w1'.heap.size w1' ((w1'.alloc (.cells #[.string (S xn), .int .i64 0, .string (S xv)] 82)).alloc (.cells #[.string (S xn), .string (S xv)] 86)) := ((Below.refl _ _).alloc (Nat.le_refl _) _).alloc (by simp) _
            obtain ⟨i0, i1, i2⟩ := cells3 (Blk.Is.new w1' 82 #[.string (S xn), .int .i64 0, .string (S xv)])
            have hc3 := cells_at (Blk.Is.new (w1'.alloc (.cells #[.string (S xn), .int .i64 0, .string (S xv)] 82)) 86 #[.string (S xn), .string (S xv)])
            rw [show (w1'.alloc (.cells #[.string (S xn), .int .i64 0, .string (S xv)] 82)).heap.size = w1'.heap.size + 1 by simp] at hc3
            have hba : Below w1'.heap.size w1' (w1'.alloc (.cells #[.string (S xn), .int .i64 0, .string (S xv)] 82)) := (Below.refl _ _).alloc (Nat.le_refl _) _
            obtain ⟨b0, b1, y0, y1⟩ := (k1.below hba).cells
            have hown1 := k2.owns HOWN.out fun b hb e => by have := own_lt HOWN.out hb; omega
            obtain ⟨W3, hW3⟩ : ∃ W3, (w1'.alloc (.cells #[.string (S xn), .int .i64 0, .string (S xv)] 82)).alloc (.cells #[.string (S xn), .string (S xv)] 86) = W3 := ⟨_, rfl⟩
            rw [hW3] at hb3 hc3
            have HW3 := Lib.hid hW3
            have HC3 := Lib.hid hc3
            have HOWN3 := Lib.hid (Own.owns_below hown1 hb3)
            have HR3' := Lib.hid (k1.below hb3)
            have hb31 := (chg_new HBW.out (Nat.le_refl _) k2)
            have HB3 := Lib.hid (hb31.trans (hb3.mono hb31.size))
            have HSZ : Hid (W.heap.size ≤ W3.heap.size) := Nat.le_trans hwsz (Nat.le_trans k2.size hb3.size)
            clear hW3 hc3 hb3 hown1 k1 k2 hb31 HOWN HBW cr hba y0 y1
            obtain ⟨K0, hK0⟩ : ∃ K0 : Hid (pcell x = [.string (S xn), .string (S xv)]), True := ⟨by rw [← HXD.out]; exact rfl, trivial⟩
            clear hK0
            go_wp2_with (at_builtin; rw [HW3.out]; refine append_el Tryz.underlying24 infoP rfl (by decide) rfl (.tmp 36) (.tmp 42) rfl W.heap.size (.slice sa n cap) n (pcells ds) rfl HOWN3.out (w1'.heap.size + 1) 1 rfl (pcell x) (by rw [K0.out]; rfl) (fun j u hj => HC3.out j u (by rw [K0.out] at hj; simpa using hj)) (fun u hu => by rw [K0.out] at hu; simp only [List.mem_cons, List.not_mem_nil, or_false] at hu; rcases hu with rfl | rfl <;> rfl) hdl HSZ.out ?_; intro v' w4 h4 h5; have g1 := yx_grown HR3'.out hsz HOWN3.out h5; have g3 := Own.below_grown HB3.out (own_mono HOWN3.out (Nat.le_of_lt hsz)) h5 (Nat.le_trans (Nat.le_of_lt hsz) HSZ.out); have g2 := Nat.le_trans HSZ.out h5.size; obtain ⟨a4, c4, rfl, _⟩ := own_shape h4; clear b0 b1 i0 i1 i2; obtain ⟨d0, d1, y0, y1⟩ := g1.cells; clear y0 y1; have H4 := Lib.hid h4; have G1 := Lib.hid g1; have G2 := Lib.hid g2; have G3 := Lib.hid g3; clear h4 h5 g1 g2 g3 HW3 HC3 HOWN3 HR3' HB3)
            have cq := peek_any w.heap.size m2 false w4 G1.out
            rw [HM2.out] at cq
            refine cq.mono ?_
            rintro e w5 ⟨rfl, k1, k2⟩
            have hb5 := chg_new G3.out (Nat.le_refl _) k2
            have own5 := k2.owns H4.out fun b hb e => by have := own_lt H4.out hb; omega
            have hsz5 : W.heap.size ≤ w5.heap.size := Nat.le_trans G2.out k2.size
            rw [← HACC.out] at own5
            have hlen : (ds ++ [x]).length = n + 1 := by rw [List.length_append, HDN.out]; rfl
            have OWN5 := Lib.hid own5
            have HB5 := Lib.hid hb5
            have HLEN := Lib.hid hlen
            have K5 := Lib.hid k1
            clear d0 d1 own5 hb5 hlen k2 cq
            obtain ⟨d0, d1, e0, e1⟩ := k1.cells
            have hre := isEmpty_S r
            have hrl := k1.2
            clear k1
            by_cases hr0 : r = []
            · obtain rfl := HG.out.symm.trans (HR1.out hr0)
              have hre2 : (S r).toList.isEmpty = true := by rw [hre, hr0]; rfl
              clear HG HR1 HR2 HR3 hre hr0
              go_wp2_with fail
              go_ret2
              refine ⟨HB5.out, _, rfl, ?_⟩
              have := own_mono OWN5.out (Nat.le_of_lt hsz)
              rw [HLEN.out]
              exact this
            · have hre2 : (S r).toList.isEmpty = false := by rw [hre]; cases r with
                | nil => exact absurd rfl hr0
                | cons c t => rfl
              have hrs : 0 < (S r).size := by rw [S_size]; exact List.length_pos_iff.2 hr0
              have hrs' : (0 : Int) < (S r).size := by omega
              have hb0 := Txt.b_eq (S r) 0 hrs
              have hb1 : Txt.b (S r) 0 = hdN r := by
                obtain ⟨y, hy, hb⟩ := li_drop (S r) 0 hrs
                rw [S_li, List.drop_zero] at hy
                have e : hdN r = y.toNat := by unfold hdN; rw [hy]; rfl
                rw [e]; exact hb.symm
              rw [hb1] at hb0
              rcases tk_hd r 44 (by decide) with ⟨h1, h2⟩ | ⟨t, h1, h2⟩
              · obtain rfl := HG.out.symm.trans (HR2.out hr0 h1)
                have h44 : ((hdN r : Int) != 44) = true := by
                  have : hdN r ≠ 44 := h2
                  simp; omega
                clear HG HR1 HR2 HR3 hre h1 h2 hb1 hr0
                go_wp2_with fail
                go_ret2
                exact ⟨HB5.out, rfl⟩
              · have h44 : ((hdN r : Int) != 44) = false := by
                  have : hdN r = 44 := h2
                  simp [this]
                have HN2 := Lib.hid (HR3.out (skip t) hr0 (by rw [h1]; exact tk_cons 44 t))
                obtain ⟨hs1, hs2⟩ := hd_size h1
                have htl : t.length ≤ 4611686018427387904 := by rw [h1, List.length_cons] at hrl; omega
                have K6 := Lib.hid (K5.out.set t htl)
                have own6 : (w5.setCell ⟨w.heap.size, 0, none⟩ (.string (S t))).ownsRow W.heap.size 86 2 (.slice a4 (n + 1) c4) (n + 1) (pcells (ds ++ [x])) :=
                  ((Blk.Chg.refl (fun k => k = w.heap.size) w5).setAt (o := 0) (u := .string (S t)) rfl).owns OWN5.out fun b hb e => by have := own_lt OWN5.out hb; omega
                have OWN6 := Lib.hid own6
                have HB6 := Lib.hid (HB5.out.setCell (p := ⟨w.heap.size, 0, none⟩) (Nat.le_refl _) (.string (S t)))
                have hsz6 : W.heap.size ≤ (w5.setCell ⟨w.heap.size, 0, none⟩ (.string (S t))).heap.size := by simpa [World.setCell] using hsz5
                clear HR1 HR2 HR3 hre h1 h2 hb1 hr0 own6 htl
                go_wp2_with fail
                generalize w5.setCell ⟨w.heap.size, 0, none⟩ (.string (S t)) = W6 at *
                go_roundg g'
                case measure => omega
                case rel =>
                  refine ⟨ds ++ [x], t, a4, c4, by rw [HLEN.out], ?_, K6.out, hsz6, HB6.out, HN2.out, by rw [HLEN.out]; omega, by rw [HLEN.out]; omega⟩
                  rw [HLEN.out]
                  exact OWN6.out
          · skip
            go_wp2_with fail
            refine cr.mono ?_
            rintro e w1' ⟨k2, rfl, m2, k1, hm2⟩
            have HM2 := Lib.hid hm2
            clear hm2
            have hb3 : Below w1'.heap.size w1' ((w1'.alloc (.cells #[.string (S xn), .int .i64 3, .string (S xv)] 82)).alloc (.cells #[.string (S xn), .string (S xv)] 86)) := ((Below.refl _ _).alloc (Nat.le_refl _) _).alloc (by simp) _
            obtain ⟨i0, i1, i2⟩ := cells3 (Blk.Is.new w1' 82 #[.string (S xn), .int .i64 3, .string (S xv)])
            have hc3 := cells_at (Blk.Is.new (w1'.alloc (.cells #[.string (S xn), .int .i64 3, .string (S xv)] 82)) 86 #[.string (S xn), .string (S xv)])
            rw [show (w1'.alloc (.cells #[.string (S xn), .int .i64 3, .string (S xv)] 82)).heap.size = w1'.heap.size + 1 by simp] at hc3
            have hba : Below w1'.heap.size w1' (w1'.alloc (.cells #[.string (S xn), .int .i64 3, .string (S xv)] 82)) := (Below.refl _ _).alloc (Nat.le_refl _) _
            obtain ⟨b0, b1, y0, y1⟩ := (k1.below hba).cells
            have hown1 := k2.owns HOWN.out fun b hb e => by have := own_lt HOWN.out hb; omega
            obtain ⟨W3, hW3⟩ : ∃ W3, (w1'.alloc (.cells #[.string (S xn), .int .i64 3, .string (S xv)] 82)).alloc (.cells #[.string (S xn), .string (S xv)] 86) = W3 := ⟨_, rfl⟩
            rw [hW3] at hb3 hc3
            have HW3 := Lib.hid hW3
            have HC3 := Lib.hid hc3
            have HOWN3 := Lib.hid (Own.owns_below hown1 hb3)
            have HR3' := Lib.hid (k1.below hb3)
            have hb31 := (chg_new HBW.out (Nat.le_refl _) k2)
            have HB3 := Lib.hid (hb31.trans (hb3.mono hb31.size))
            have HSZ : Hid (W.heap.size ≤ W3.heap.size) := Nat.le_trans hwsz (Nat.le_trans k2.size hb3.size)
            clear hW3 hc3 hb3 hown1 k1 k2 hb31 HOWN HBW cr hba y0 y1
            obtain ⟨K0, hK0⟩ : ∃ K0 : Hid (pcell x = [.string (S xn), .string (S xv)]), True := ⟨by rw [← HXD.out]; exact rfl, trivial⟩
            clear hK0
            go_wp2_with (at_builtin; rw [HW3.out]; refine append_el Tryz.underlying24 infoP rfl (by decide) rfl (.tmp 36) (.tmp 42) rfl W.heap.size (.slice sa n cap) n (pcells ds) rfl HOWN3.out (w1'.heap.size + 1) 1 rfl (pcell x) (by rw [K0.out]; rfl) (fun j u hj => HC3.out j u (by rw [K0.out] at hj; simpa using hj)) (fun u hu => by rw [K0.out] at hu; simp only [List.mem_cons, List.not_mem_nil, or_false] at hu; rcases hu with rfl | rfl <;> rfl) hdl HSZ.out ?_; intro v' w4 h4 h5; have g1 := yx_grown HR3'.out hsz HOWN3.out h5; have g3 := Own.below_grown HB3.out (own_mono HOWN3.out (Nat.le_of_lt hsz)) h5 (Nat.le_trans (Nat.le_of_lt hsz) HSZ.out); have g2 := Nat.le_trans HSZ.out h5.size; obtain ⟨a4, c4, rfl, _⟩ := own_shape h4; clear b0 b1 i0 i1 i2; obtain ⟨d0, d1, y0, y1⟩ := g1.cells; clear y0 y1; have H4 := Lib.hid h4; have G1 := Lib.hid g1; have G2 := Lib.hid g2; have G3 := Lib.hid g3; clear h4 h5 g1 g2 g3 HW3 HC3 HOWN3 HR3' HB3)
            have cq := peek_any w.heap.size m2 false w4 G1.out
            rw [HM2.out] at cq
            refine cq.mono ?_
            rintro e w5 ⟨rfl, k1, k2⟩
            have hb5 := chg_new G3.out (Nat.le_refl _) k2
            have own5 := k2.owns H4.out fun b hb e => by have := own_lt H4.out hb; omega
            have hsz5 : W.heap.size ≤ w5.heap.size := Nat.le_trans G2.out k2.size
            rw [← HACC.out] at own5
            have hlen : (ds ++ [x]).length = n + 1 := by rw [List.length_append, HDN.out]; rfl
            have OWN5 := Lib.hid own5
            have HB5 := Lib.hid hb5
            have HLEN := Lib.hid hlen
            have K5 := Lib.hid k1
            clear d0 d1 own5 hb5 hlen k2 cq
            obtain ⟨d0, d1, e0, e1⟩ := k1.cells
            have hre := isEmpty_S r
            have hrl := k1.2
            clear k1
            by_cases hr0 : r = []
            · obtain rfl := HG.out.symm.trans (HR1.out hr0)
              have hre2 : (S r).toList.isEmpty = true := by rw [hre, hr0]; rfl
              clear HG HR1 HR2 HR3 hre hr0
              go_wp2_with fail
              go_ret2
              refine ⟨HB5.out, _, rfl, ?_⟩
              have := own_mono OWN5.out (Nat.le_of_lt hsz)
              rw [HLEN.out]
              exact this
            · have hre2 : (S r).toList.isEmpty = false := by rw [hre]; cases r with
                | nil => exact absurd rfl hr0
                | cons c t => rfl
              have hrs : 0 < (S r).size := by rw [S_size]; exact List.length_pos_iff.2 hr0
              have hrs' : (0 : Int) < (S r).size := by omega
              have hb0 := Txt.b_eq (S r) 0 hrs
              have hb1 : Txt.b (S r) 0 = hdN r := by
                obtain ⟨y, hy, hb⟩ := li_drop (S r) 0 hrs
                rw [S_li, List.drop_zero] at hy
                have e : hdN r = y.toNat := by unfold hdN; rw [hy]; rfl
                rw [e]; exact hb.symm
              rw [hb1] at hb0
              rcases tk_hd r 44 (by decide) with ⟨h1, h2⟩ | ⟨t, h1, h2⟩
              · obtain rfl := HG.out.symm.trans (HR2.out hr0 h1)
                have h44 : ((hdN r : Int) != 44) = true := by
                  have : hdN r ≠ 44 := h2
                  simp; omega
                clear HG HR1 HR2 HR3 hre h1 h2 hb1 hr0
                go_wp2_with fail
                go_ret2
                exact ⟨HB5.out, rfl⟩
              · have h44 : ((hdN r : Int) != 44) = false := by
                  have : hdN r = 44 := h2
                  simp [this]
                have HN2 := Lib.hid (HR3.out (skip t) hr0 (by rw [h1]; exact tk_cons 44 t))
                obtain ⟨hs1, hs2⟩ := hd_size h1
                have htl : t.length ≤ 4611686018427387904 := by rw [h1, List.length_cons] at hrl; omega
                have K6 := Lib.hid (K5.out.set t htl)
                have own6 : (w5.setCell ⟨w.heap.size, 0, none⟩ (.string (S t))).ownsRow W.heap.size 86 2 (.slice a4 (n + 1) c4) (n + 1) (pcells (ds ++ [x])) :=
                  ((Blk.Chg.refl (fun k => k = w.heap.size) w5).setAt (o := 0) (u := .string (S t)) rfl).owns OWN5.out fun b hb e => by have := own_lt OWN5.out hb; omega
                have OWN6 := Lib.hid own6
                have HB6 := Lib.hid (HB5.out.setCell (p := ⟨w.heap.size, 0, none⟩) (Nat.le_refl _) (.string (S t)))
                have hsz6 : W.heap.size ≤ (w5.setCell ⟨w.heap.size, 0, none⟩ (.string (S t))).heap.size := by simpa [World.setCell] using hsz5
                clear HR1 HR2 HR3 hre h1 h2 hb1 hr0 own6 htl
                go_wp2_with fail
                generalize w5.setCell ⟨w.heap.size, 0, none⟩ (.string (S t)) = W6 at *
                go_roundg g'
                case measure => omega
                case rel =>
                  refine ⟨ds ++ [x], t, a4, c4, by rw [HLEN.out], ?_, K6.out, hsz6, HB6.out, HN2.out, by rw [HLEN.out]; omega, by rw [HLEN.out]; omega⟩
                  rw [HLEN.out]
                  exact OWN6.out
end Rl
end Go.Proofs.YtapmpdljapbpeaaGreatDoor
namespace Go.Proofs.YtapmpdljapbpeaaGreatDoor
open Go.RowKit
set_option linter.unusedSimpArgs false
set_option linter.unusedVariables false
namespace Rl
open Ver (Bs li li_len li_drop S S_self S_of S_size S_li below_drewN empty_is empty_no MaxLen Signs)
theorem hd_zero (l : Bs) : (l = [] ∧ hdN l = 0) ∨ (l ≠ [] ∧ l.isEmpty = false) := by
  cases l with
  | nil => exact .inl ⟨rfl, rfl⟩
  | cons c t => exact .inr ⟨by simp, rfl⟩
set_option maxRecDepth 100000 in
set_option maxHeartbeats 8000000 in
theorem yRelation_any (s : ByteArray) (w : World) (hs : s.size ≤ 4611686018427387904) :
    Calls Tryz.prog 65 #[.string s] w fun e w' => WholeC w (ywhole yrdC (li s)) e w' := by
  have hb0 : Below w.heap.size w (w.alloc (.cells #[.string s, .bool false] 115)) := (Below.refl _ _).alloc (Nat.le_refl _) _
  have hy0 : Yx (w.alloc (.cells #[.string s, .bool false] 115)) w.heap.size (li s) false := ⟨by rw [S_self]; exact Blk.Is.new _ _ _, by rw [li_len]; exact hs⟩
  have hsz : w.heap.size < (w.alloc (.cells #[.string s, .bool false] 115)).heap.size := hy0.1.lt
  have cp := peek_any w.heap.size (li s) false _ hy0
  have hsl := Nat.le_trans (skip_le (li s)) hy0.2
  have hss := skip_skip (li s)
  unfold ywhole
  generalize skip (li s) = l at *
  have he0 := isEmpty_S l
  have HB0 := Lib.hid hb0
  have SS := Lib.hid hss
  clear hb0 hy0 hss
  obtain ⟨G, hG⟩ : ∃ G, (if l = [] then Except.ok [] else yitems yrdC 12 l) = G := ⟨_, rfl⟩
  have HG := Lib.hid hG
  rw [hG]
  clear hG
  go_enter Tryz.func65, Tryz.ntmps65
  go_wp2_with fail
  generalize w.alloc (.cells #[.string s, .bool false] 115) = W at *
  refine cp.mono ?_
  rintro e w1 ⟨rfl, k1, k2⟩
  obtain ⟨d0, d1, _, _⟩ := k1.cells
  rcases hd_zero l with ⟨hl, hh⟩ | ⟨hl, hne⟩
  · rw [hh]
    subst hl
    have hG := HG.out
    rw [if_pos rfl] at hG
    subst hG
    have hb1 := chg_new HB0.out (Nat.le_refl _) k2
    have HB1 := Lib.hid hb1
    clear k1 k2 hb1 HG cp hh
    go_wp2_with fail
    go_ret2
    exact ⟨HB1.out, _, [], rfl, World.ownsRow_nil _ _ _ 1, Cls.nil _ _⟩
  · rw [hne] at he0
    have hG := HG.out
    rw [if_neg hl] at hG
    have HG := Lib.hid hG
    have HB1 := Lib.hid (chg_new HB0.out (Nat.le_refl _) k2)
    have K1 := Lib.hid k1
    have hsz1 := k2.size
    clear hG k1 k2 cp hne hl
    by_cases h0 : hdN l = 0
    · have h0' : ((hdN l : Int) == 0) = true := by simp [h0]
      clear h0
      go_wp2_with fail
      clear d0 d1 he0
      go_loopg [5] 12 (fun gf s5 wx => ∃ (ds : List (List At)) (vs : List Value) (m : Bs) (sa : Option Addr) (cap : Nat), s5 = .slice sa ds.length cap ∧ wx.ownsRow W.heap.size 67 1 (.slice sa ds.length cap) ds.length vs ∧ Cls wx W.heap.size vs ds ∧ Yx wx w.heap.size m false ∧ W.heap.size ≤ wx.heap.size ∧ Below w.heap.size w wx ∧ Hid (Yit yrdC 12 l (skip m) ds) ∧ ds.length ≤ 12 ∧ 12 ≤ ds.length + gf)
      case atStart => exact ⟨[], [], l, none, 0, rfl, World.ownsRow_nil w1 _ _ 1, Cls.nil _ _, K1.out, hsz1, HB1.out, (by rw [SS.out]; exact (prey_nil _).symm), by simp, by simp⟩
      case round =>
        obtain ⟨ds, vs, m, sa, cap, rfl, hown, hcls, hrd, hwsz, hbw, HN, hle, hfu⟩ := hrel
        generalize wr = wo at *
        by_cases hfull : ds.length = 12
        · have hres := HN.out.full hfull
          have hlm : ((ds.length : Int) == 12) = true := by simp [hfull]
          obtain rfl := HG.out.symm.trans hres
          clear HG
          have HBW := Lib.hid hbw
          clear hown hcls hrd hbw HN hres hle hfu hfull
          generalize ds.length = n at *
          go_wp2_with fail
          go_ret2
          exact ⟨HBW.out, rfl⟩
        · obtain ⟨g', rfl⟩ : ∃ g', gk = g' + 1 := ⟨gk - 1, by omega⟩
          have hlt : ds.length < 12 := by omega
          have hlm : ((ds.length : Int) == 12) = false := by simp; omega
          have hdl : ds.length + 1 ≤ 70000 := by omega
          have HOWN := Lib.hid hown
          have HCLS := Lib.hid hcls
          have HBW := Lib.hid hbw
          have HRD := Lib.hid hrd
          have hpo : w.heap.size < wo.heap.size := Nat.lt_of_lt_of_le hsz hwsz
          have HERR := Lib.hid (fun e h => HN.out.err (e := e) hlt h)
          have HLAST := Lib.hid (fun x h => HN.out.last (x := x) hlt h)
          have HNO := Lib.hid (fun x r h h2 h3 => HN.out.no (x := x) (r := r) hlt h h2 h3)
          have HNEXT := Lib.hid (fun x r r2 h h2 h3 => HN.out.next (x := x) (r := r) (r2 := r2) hlt h h2 h3)
          clear hown hcls hrd hbw HN hfull
          generalize hn : ds.length = N at *
          have HDN := Lib.hid hn
          clear hn
          go_wp2_with fail
          go_loopg [6] 6 (fun gf s6 wx => ∃ (cs : List At) (m' : Bs) (ca : Option Addr) (cc : Nat), s6 = .slice ca cs.length cc ∧ wx.ownsRow wo.heap.size 82 3 (.slice ca cs.length cc) cs.length (acells cs) ∧ Yx wx w.heap.size m' false ∧ Blk.Chg (fun k => k = w.heap.size) wo wx ∧ Hid (items yrdA 124 6 (skip m) = pre cs (items yrdA 124 (6 - cs.length) (skip m'))) ∧ cs.length ≤ 6 ∧ 6 ≤ cs.length + gf)
          case atStart => exact ⟨[], m, none, 0, rfl, World.ownsRow_nil wo _ _ 3, HRD.out, Blk.Chg.refl _ _, (pre_nil _).symm, by simp, by simp⟩
          case round =>
            obtain ⟨cs, m', ca, cc, rfl, hown, hrd, hch, HI, hle6, hfu6⟩ := hrel
            have hwsz2 := hch.size
            by_cases hfull6 : cs.length = 6
            · have hres := HERR.out 12 (items_full HI.out hfull6)
              have hlm6 : ((cs.length : Int) == 6) = true := by simp [hfull6]
              obtain rfl := HG.out.symm.trans hres
              have HB2 := Lib.hid (chg_new HBW.out (Nat.le_refl _) hch)
              clear HG hown hrd hch HI hres hle6 hfu6 hfull6
              generalize cs.length = n at *
              go_wp2_with fail
              go_ret2
              exact ⟨HB2.out, rfl⟩
            · obtain ⟨g6, rfl⟩ : ∃ g6, gk = g6 + 1 := ⟨gk - 1, by omega⟩
              have hlt6 : cs.length < 6 := by omega
              have hlm6 : ((cs.length : Int) == 6) = false := by simp; omega
              have hdl6 : cs.length + 1 ≤ 70000 := by omega
              have cr := yreadAtom_any w.heap.size m' wr hrd
              have HOC := Lib.hid hown
              have HCH := Lib.hid hch
              cases hat : yatom (skip m') with
              | none =>
                have hres := HERR.out 3 (items_err HI.out hlt6 (yrdA_none hat))
                obtain rfl := HG.out.symm.trans hres
                clear HG
                rw [hat] at cr
                unfold PostY at cr
                simp only [aV] at cr
                clear hown hrd hch HI hres hle6 hfu6 hfull6 hat
                generalize cs.length = n at *
                go_wp2_with fail
                refine cr.mono ?_
                rintro e w1' ⟨k2, x, l1, rfl, k1⟩
                have hb3 : Below w1'.heap.size w1' (w1'.alloc (.cells #[.string (S x.1), .int .i64 x.2.1, .string (S x.2.2)] 82)) := (Below.refl _ _).alloc (Nat.le_refl _) _
                have hc3 := cells_at (Blk.Is.new w1' 82 #[.string (S x.1), .int .i64 x.2.1, .string (S x.2.2)])
                have hown1 := k2.owns HOC.out fun b hb e => by have := own_lt HOC.out hb; omega
                obtain ⟨W3, hW3⟩ : ∃ W3, w1'.alloc (.cells #[.string (S x.1), .int .i64 x.2.1, .string (S x.2.2)] 82) = W3 := ⟨_, rfl⟩
                rw [hW3] at hb3 hc3
                have HW3 := Lib.hid hW3
                have HC3 := Lib.hid hc3
                have HOWN3 := Lib.hid (Own.owns_below hown1 hb3)
                have HR3' := Lib.hid (k1.below hb3)
                have HCH3 := Lib.hid ((HCH.out.trans k2).trans (Blk.Chg.ofBelow' hb3))
                have HSZ := Lib.hid HCH3.out.size
                clear hW3 hc3 hb3 hown1 k1 k2 HOC HCH cr
                go_wp2_with (at_builtin; rw [HW3.out]; refine append_el Tryz.underlying67 infoA rfl (by decide) rfl (.tmp 26) (.tmp 29) rfl wo.heap.size (.slice ca n cc) n (acells cs) rfl HOWN3.out w1'.heap.size 1 rfl (acell x) rfl (fun j u hj => HC3.out j u (by simpa [acell] using hj)) (fun u hu => by simp only [acell, List.mem_cons, List.not_mem_nil, or_false] at hu; rcases hu with rfl | rfl | rfl <;> rfl) hdl6 HSZ.out ?_; intro v' w4 h4 h5; have g1 := yx_grown HR3'.out hpo HOWN3.out h5; have g3 := chg_grown HCH3.out HOWN3.out h5; obtain ⟨a4, c4, rfl, _⟩ := own_shape h4; obtain ⟨d0, d1, y0, y1⟩ := g1.cells; clear y0 y1; have H4 := Lib.hid h4; have G1 := Lib.hid g1; have G3 := Lib.hid g3; clear h4 h5 g1 g3 HW3 HC3 HOWN3 HR3' HCH3)
                go_ret2
                exact ⟨chg_new HBW.out (Nat.le_refl _) G3.out, rfl⟩
              | some q =>
                obtain ⟨x, r⟩ := q
                have hrA := yrdA_some hat
                rw [hat] at cr
                unfold PostY at cr
                simp only [aV] at cr
                have HR1 := Lib.hid (fun h => items_last HI.out hlt6 hrA h)
                have HR2 := Lib.hid (fun r2 h => items_next (r2 := r2) HI.out hlt6 hrA h)
                have HACC := Lib.hid (acells_app cs x)
                clear hown hrd hch HI hfull6 hat hrA
                generalize hn : cs.length = n at *
                have HDC := Lib.hid hn
                clear hn
                go_wp2_with fail
                refine cr.mono ?_
                rintro e w1' ⟨k2, rfl, m2, k1, hm2⟩
                have HM2 := Lib.hid hm2
                clear hm2
                have hb3 : Below w1'.heap.size w1' (w1'.alloc (.cells #[.string (S x.1), .int .i64 x.2.1, .string (S x.2.2)] 82)) := (Below.refl _ _).alloc (Nat.le_refl _) _
                have hc3 := cells_at (Blk.Is.new w1' 82 #[.string (S x.1), .int .i64 x.2.1, .string (S x.2.2)])
                have hown1 := k2.owns HOC.out fun b hb e => by have := own_lt HOC.out hb; omega
                obtain ⟨W3, hW3⟩ : ∃ W3, w1'.alloc (.cells #[.string (S x.1), .int .i64 x.2.1, .string (S x.2.2)] 82) = W3 := ⟨_, rfl⟩
                rw [hW3] at hb3 hc3
                have HW3 := Lib.hid hW3
                have HC3 := Lib.hid hc3
                have HOWN3 := Lib.hid (Own.owns_below hown1 hb3)
                have HR3' := Lib.hid (k1.below hb3)
                have HCH3 := Lib.hid ((HCH.out.trans k2).trans (Blk.Chg.ofBelow' hb3))
                have HSZ := Lib.hid HCH3.out.size
                clear hW3 hc3 hb3 hown1 k1 k2 HOC HCH cr
                go_wp2_with (at_builtin; rw [HW3.out]; refine append_el Tryz.underlying67 infoA rfl (by decide) rfl (.tmp 26) (.tmp 29) rfl wo.heap.size (.slice ca n cc) n (acells cs) rfl HOWN3.out w1'.heap.size 1 rfl (acell x) rfl (fun j u hj => HC3.out j u (by simpa [acell] using hj)) (fun u hu => by simp only [acell, List.mem_cons, List.not_mem_nil, or_false] at hu; rcases hu with rfl | rfl | rfl <;> rfl) hdl6 HSZ.out ?_; intro v' w4 h4 h5; have g1 := yx_grown HR3'.out hpo HOWN3.out h5; have g3 := chg_grown HCH3.out HOWN3.out h5; obtain ⟨a4, c4, rfl, _⟩ := own_shape h4; obtain ⟨d0, d1, y0, y1⟩ := g1.cells; clear y0 y1; have H4 := Lib.hid h4; have G1 := Lib.hid g1; have G3 := Lib.hid g3; clear h4 h5 g1 g3 HW3 HC3 HOWN3 HR3' HCH3)
                have cq := peek_any w.heap.size m2 false w4 G1.out
                rw [HM2.out] at cq
                refine cq.mono ?_
                rintro e w5 ⟨rfl, k1, k2⟩
                have hch5 := G3.out.trans k2
                have own5 := k2.owns H4.out fun b hb e => by have := own_lt H4.out hb; omega
                rw [← HACC.out] at own5
                have hlen : (cs ++ [x]).length = n + 1 := by rw [List.length_append, HDC.out]; rfl
                have OWN5 := Lib.hid own5
                have HCH5 := Lib.hid hch5
                have HLEN := Lib.hid hlen
                have K5 := Lib.hid k1
                clear d0 d1 own5 hch5 hlen k2 cq
                obtain ⟨d0, d1, e0, e1⟩ := k1.cells
                have hre := isEmpty_S r
                have hrl := k1.2
                clear k1
                rcases tk_hd r 124 (by decide) with ⟨h1, h2⟩ | ⟨t, h1, h2⟩
                · have h124 : ((hdN r : Int) != 124) = true := by
                    have : hdN r ≠ 124 := h2
                    simp; omega
                  have HIT := Lib.hid (HR1.out h1)
                  clear HR1 HR2 h1 h2
                  have HIT2 := Lib.hid (show yrdC (skip m) = .ok (cs ++ [x], r) from HIT.out)
                  have hskr : skip r = r := by rw [← HM2.out]; exact skip_skip m2
                  have hbL : Below w5.heap.size w5 (w5.alloc (.cells #[.slice a4 (n + 1) c4] 67)) := (Below.refl _ _).alloc (Nat.le_refl _) _
                  have hcL := (Blk.Is.new w5 67 #[.slice a4 (n + 1) c4]).at (i := 0) rfl
                  have hel := own_mono (Own.owns_below OWN5.out hbL) hwsz
                  have hownL := Own.owns_below (HCH5.out.owns HOWN.out fun b hb e => by have := own_lt HOWN.out hb; omega) hbL
                  have hclsL := (HCLS.out.one HCH5.out hsz).below hbL
                  have hbwL := chg_new HBW.out (Nat.le_refl _) HCH5.out
                  obtain ⟨WL, hWL⟩ : ∃ WL, w5.alloc (.cells #[.slice a4 (n + 1) c4] 67) = WL := ⟨_, rfl⟩
                  rw [hWL] at hbL hcL hel hownL hclsL
                  rw [← HLEN.out] at hel
                  have HEL0 := hclsL.more hel
                  rw [HLEN.out] at HEL0
                  have HEL := Lib.hid HEL0
                  have HWL := Lib.hid hWL
                  have HCL := Lib.hid hcL
                  have HOWNL := Lib.hid hownL
                  have HBL := Lib.hid (hbwL.trans (hbL.mono hbwL.size))
                  have HYL := Lib.hid (K5.out.below hbL)
                  have HSL : Hid (W.heap.size ≤ WL.heap.size) := Nat.le_trans hwsz (Nat.le_trans HCH5.out.size hbL.size)
                  have HSK := Lib.hid hskr
                  clear HIT HEL0 hWL hcL hownL hclsL hbwL hbL hel HOWN HCLS OWN5 HCH5 K5 HBW H4 G1 G3 HSZ HACC HM2 hskr
                  go_wp2_with (at_builtin; rw [HWL.out]; refine append_el Tryz.underlying22 infoC rfl (by decide) rfl (.tmp 53) (.tmp 55) rfl W.heap.size (.slice sa N cap) N vs rfl HOWNL.out w5.heap.size 1 rfl [.slice a4 (n + 1) c4] rfl (one_cell HCL.out) (fun u hu => by simp only [List.mem_singleton] at hu; rw [hu]; rfl) hdl HSL.out ?_; intro v' w6 h4 h5; have g1 := yx_grown HYL.out hsz HOWNL.out h5; have g3 := Own.below_grown HBL.out (own_mono HOWNL.out (Nat.le_of_lt hsz)) h5 (Nat.le_trans (Nat.le_of_lt hsz) HSL.out); have g2 := Nat.le_trans HSL.out h5.size; have g4 := HEL.out.grown HOWNL.out h5; obtain ⟨a6, c6, rfl, _⟩ := own_shape h4; have H6 := Lib.hid h4; have G1 := Lib.hid g1; have G2 := Lib.hid g2; have G3 := Lib.hid g3; have G4 := Lib.hid g4; clear h4 h5 g1 g2 g3 g4 HWL HCL HOWNL HEL HBL HYL d0 d1 e0 e1)
                  have cq := peek_any w.heap.size r false w6 G1.out
                  rw [HSK.out] at cq
                  refine cq.mono ?_
                  rintro e w7 ⟨rfl, k1, k2⟩
                  have hb7 := chg_new G3.out (Nat.le_refl _) k2
                  have own7 := k2.owns H6.out fun b hb e => by have := own_lt H6.out hb; omega
                  have cls7 := G4.out.one k2 hsz
                  have hsz7 : W.heap.size ≤ w7.heap.size := Nat.le_trans G2.out k2.size
                  have hlenD : (ds ++ [cs ++ [x]]).length = N + 1 := by rw [List.length_append, HDN.out]; rfl
                  have OWN7 := Lib.hid own7
                  have CLS7 := Lib.hid cls7
                  have HB7 := Lib.hid hb7
                  have HLD := Lib.hid hlenD
                  have K7 := Lib.hid k1
                  clear own7 cls7 hb7 hlenD k2 cq H6 G1 G2 G3 G4
                  obtain ⟨d0, d1, e0, e1⟩ := k1.cells
                  clear k1
                  by_cases hr0 : r = []
                  · obtain rfl := HG.out.symm.trans (HLAST.out (cs ++ [x]) (by rw [← hr0]; exact HIT2.out))
                    have hre2 : (S r).toList.isEmpty = true := by rw [hre, hr0]; rfl
                    clear HG hre hr0
                    go_wp2_with fail
                    go_ret2
                    refine ⟨HB7.out, _, _, rfl, ?_, CLS7.out.mono (Nat.le_of_lt hsz)⟩
                    have := own_mono OWN7.out (Nat.le_of_lt hsz)
                    rw [HLD.out]
                    exact this
                  · have hre2 : (S r).toList.isEmpty = false := by rw [hre]; cases r with
                      | nil => exact absurd rfl hr0
                      | cons c t => rfl
                    have hrs : 0 < (S r).size := by rw [S_size]; exact List.length_pos_iff.2 hr0
                    have hrs' : (0 : Int) < (S r).size := by omega
                    have hb0 := Txt.b_eq (S r) 0 hrs
                    have hb1 : Txt.b (S r) 0 = hdN r := by
                      obtain ⟨y, hy, hb⟩ := li_drop (S r) 0 hrs
                      rw [S_li, List.drop_zero] at hy
                      have e : hdN r = y.toNat := by unfold hdN; rw [hy]; rfl
                      rw [e]; exact hb.symm
                    rw [hb1] at hb0
                    rcases tk_hd r 44 (by decide) with ⟨h1, h2⟩ | ⟨t, h1, h2⟩
                    · obtain rfl := HG.out.symm.trans (HNO.out _ _ HIT2.out hr0 h1)
                      have h44 : ((hdN r : Int) != 44) = true := by
                        have : hdN r ≠ 44 := h2
                        simp; omega
                      clear HG hre h1 h2 hb1 hr0
                      go_wp2_with fail
                      go_ret2
                      exact ⟨HB7.out, rfl⟩
                    · have h44 : ((hdN r : Int) != 44) = false := by
                        have : hdN r = 44 := h2
                        simp [this]
                      have HN2 := Lib.hid (HNEXT.out _ _ (skip t) HIT2.out hr0 (by rw [h1]; exact tk_cons 44 t))
                      obtain ⟨hs1, hs2⟩ := hd_size h1
                      have htl : t.length ≤ 4611686018427387904 := by rw [h1, List.length_cons] at hrl; omega
                      have K8 := Lib.hid (K7.out.set t htl)
                      have hset : Blk.Chg (fun k => k = w.heap.size) w7 (w7.setCell ⟨w.heap.size, 0, none⟩ (.string (S t))) := (Blk.Chg.refl (fun k => k = w.heap.size) w7).setAt rfl
                      have OWN8 := Lib.hid (hset.owns OWN7.out fun b hb e => by have := own_lt OWN7.out hb; omega)
                      have CLS8 := Lib.hid (CLS7.out.one hset hsz)
                      have HB8 := Lib.hid (HB7.out.setCell (p := ⟨w.heap.size, 0, none⟩) (Nat.le_refl _) (.string (S t)))
                      have hsz8 : W.heap.size ≤ (w7.setCell ⟨w.heap.size, 0, none⟩ (.string (S t))).heap.size := Nat.le_trans hsz7 hset.size
                      clear hre h1 h2 hb1 hr0 htl hset
                      go_wp2_with fail
                      generalize w7.setCell ⟨w.heap.size, 0, none⟩ (.string (S t)) = W8 at *
                      go_roundg g'
                      case measure => omega
                      case rel =>
                        refine ⟨ds ++ [cs ++ [x]], _, t, a6, c6, by rw [HLD.out], ?_, CLS8.out, K8.out, hsz8, HB8.out, HN2.out, by rw [HLD.out]; omega, by rw [HLD.out]; omega⟩
                        rw [HLD.out]
                        exact OWN8.out
                · have h124 : ((hdN r : Int) != 124) = false := by
                    have : hdN r = 124 := h2
                    simp [this]
                  have hre2 : (S r).toList.isEmpty = false := by rw [hre, h1]; rfl
                  have HI2 := Lib.hid (HR2.out (skip t) (by rw [h1]; exact tk_cons 124 t))
                  obtain ⟨hs1, hs2⟩ := hd_size h1
                  have htl : t.length ≤ 4611686018427387904 := by rw [h1, List.length_cons] at hrl; omega
                  have K6 := Lib.hid (K5.out.set t htl)
                  have hset : Blk.Chg (fun k => k = w.heap.size) w5 (w5.setCell ⟨w.heap.size, 0, none⟩ (.string (S t))) := (Blk.Chg.refl (fun k => k = w.heap.size) w5).setAt rfl
                  have own6 := hset.owns OWN5.out fun b hb e => by have := own_lt OWN5.out hb; omega
                  have OWN6 := Lib.hid own6
                  have HCH6 := Lib.hid (HCH5.out.trans hset)
                  clear HR1 HR2 hre h1 h2 own6 htl hset
                  go_wp2_with fail
                  generalize w5.setCell ⟨w.heap.size, 0, none⟩ (.string (S t)) = W6 at *
                  go_roundg g6
                  case measure => omega
                  case rel =>
                    refine ⟨cs ++ [x], t, a4, c4, by rw [HLEN.out], ?_, K6.out, HCH6.out, HI2.out, by rw [HLEN.out]; omega, by rw [HLEN.out]; omega⟩
                    rw [HLEN.out]
                    exact OWN6.out
    · have h0' : ((hdN l : Int) == 0) = false := by simp; omega
      clear h0
      go_wp2_with fail
      clear d0 d1 he0
      go_loopg [5] 12 (fun gf s5 wx => ∃ (ds : List (List At)) (vs : List Value) (m : Bs) (sa : Option Addr) (cap : Nat), s5 = .slice sa ds.length cap ∧ wx.ownsRow W.heap.size 67 1 (.slice sa ds.length cap) ds.length vs ∧ Cls wx W.heap.size vs ds ∧ Yx wx w.heap.size m false ∧ W.heap.size ≤ wx.heap.size ∧ Below w.heap.size w wx ∧ Hid (Yit yrdC 12 l (skip m) ds) ∧ ds.length ≤ 12 ∧ 12 ≤ ds.length + gf)
      case atStart => exact ⟨[], [], l, none, 0, rfl, World.ownsRow_nil w1 _ _ 1, Cls.nil _ _, K1.out, hsz1, HB1.out, (by rw [SS.out]; exact (prey_nil _).symm), by simp, by simp⟩
      case round =>
        obtain ⟨ds, vs, m, sa, cap, rfl, hown, hcls, hrd, hwsz, hbw, HN, hle, hfu⟩ := hrel
        generalize wr = wo at *
        by_cases hfull : ds.length = 12
        · have hres := HN.out.full hfull
          have hlm : ((ds.length : Int) == 12) = true := by simp [hfull]
          obtain rfl := HG.out.symm.trans hres
          clear HG
          have HBW := Lib.hid hbw
          clear hown hcls hrd hbw HN hres hle hfu hfull
          generalize ds.length = n at *
          go_wp2_with fail
          go_ret2
          exact ⟨HBW.out, rfl⟩
        · obtain ⟨g', rfl⟩ : ∃ g', gk = g' + 1 := ⟨gk - 1, by omega⟩
          have hlt : ds.length < 12 := by omega
          have hlm : ((ds.length : Int) == 12) = false := by simp; omega
          have hdl : ds.length + 1 ≤ 70000 := by omega
          have HOWN := Lib.hid hown
          have HCLS := Lib.hid hcls
          have HBW := Lib.hid hbw
          have HRD := Lib.hid hrd
          have hpo : w.heap.size < wo.heap.size := Nat.lt_of_lt_of_le hsz hwsz
          have HERR := Lib.hid (fun e h => HN.out.err (e := e) hlt h)
          have HLAST := Lib.hid (fun x h => HN.out.last (x := x) hlt h)
          have HNO := Lib.hid (fun x r h h2 h3 => HN.out.no (x := x) (r := r) hlt h h2 h3)
          have HNEXT := Lib.hid (fun x r r2 h h2 h3 => HN.out.next (x := x) (r := r) (r2 := r2) hlt h h2 h3)
          clear hown hcls hrd hbw HN hfull
          generalize hn : ds.length = N at *
          have HDN := Lib.hid hn
          clear hn
          go_wp2_with fail
          go_loopg [6] 6 (fun gf s6 wx => ∃ (cs : List At) (m' : Bs) (ca : Option Addr) (cc : Nat), s6 = .slice ca cs.length cc ∧ wx.ownsRow wo.heap.size 82 3 (.slice ca cs.length cc) cs.length (acells cs) ∧ Yx wx w.heap.size m' false ∧ Blk.Chg (fun k => k = w.heap.size) wo wx ∧ Hid (items yrdA 124 6 (skip m) = pre cs (items yrdA 124 (6 - cs.length) (skip m'))) ∧ cs.length ≤ 6 ∧ 6 ≤ cs.length + gf)
          case atStart => exact ⟨[], m, none, 0, rfl, World.ownsRow_nil wo _ _ 3, HRD.out, Blk.Chg.refl _ _, (pre_nil _).symm, by simp, by simp⟩
          case round =>
            obtain ⟨cs, m', ca, cc, rfl, hown, hrd, hch, HI, hle6, hfu6⟩ := hrel
            have hwsz2 := hch.size
            by_cases hfull6 : cs.length = 6
            · have hres := HERR.out 12 (items_full HI.out hfull6)
              have hlm6 : ((cs.length : Int) == 6) = true := by simp [hfull6]
              obtain rfl := HG.out.symm.trans hres
              have HB2 := Lib.hid (chg_new HBW.out (Nat.le_refl _) hch)
              clear HG hown hrd hch HI hres hle6 hfu6 hfull6
              generalize cs.length = n at *
              go_wp2_with fail
              go_ret2
              exact ⟨HB2.out, rfl⟩
            · obtain ⟨g6, rfl⟩ : ∃ g6, gk = g6 + 1 := ⟨gk - 1, by omega⟩
              have hlt6 : cs.length < 6 := by omega
              have hlm6 : ((cs.length : Int) == 6) = false := by simp; omega
              have hdl6 : cs.length + 1 ≤ 70000 := by omega
              have cr := yreadAtom_any w.heap.size m' wr hrd
              have HOC := Lib.hid hown
              have HCH := Lib.hid hch
              cases hat : yatom (skip m') with
              | none =>
                have hres := HERR.out 3 (items_err HI.out hlt6 (yrdA_none hat))
                obtain rfl := HG.out.symm.trans hres
                clear HG
                rw [hat] at cr
                unfold PostY at cr
                simp only [aV] at cr
                clear hown hrd hch HI hres hle6 hfu6 hfull6 hat
                generalize cs.length = n at *
                go_wp2_with fail
                refine cr.mono ?_
                rintro e w1' ⟨k2, x, l1, rfl, k1⟩
                have hb3 : Below w1'.heap.size w1' (w1'.alloc (.cells #[.string (S x.1), .int .i64 x.2.1, .string (S x.2.2)] 82)) := (Below.refl _ _).alloc (Nat.le_refl _) _
                have hc3 := cells_at (Blk.Is.new w1' 82 #[.string (S x.1), .int .i64 x.2.1, .string (S x.2.2)])
                have hown1 := k2.owns HOC.out fun b hb e => by have := own_lt HOC.out hb; omega
                obtain ⟨W3, hW3⟩ : ∃ W3, w1'.alloc (.cells #[.string (S x.1), .int .i64 x.2.1, .string (S x.2.2)] 82) = W3 := ⟨_, rfl⟩
                rw [hW3] at hb3 hc3
                have HW3 := Lib.hid hW3
                have HC3 := Lib.hid hc3
                have HOWN3 := Lib.hid (Own.owns_below hown1 hb3)
                have HR3' := Lib.hid (k1.below hb3)
                have HCH3 := Lib.hid ((HCH.out.trans k2).trans (Blk.Chg.ofBelow' hb3))
                have HSZ := Lib.hid HCH3.out.size
                clear hW3 hc3 hb3 hown1 k1 k2 HOC HCH cr
                go_wp2_with (at_builtin; rw [HW3.out]; refine append_el Tryz.underlying67 infoA rfl (by decide) rfl (.tmp 26) (.tmp 29) rfl wo.heap.size (.slice ca n cc) n (acells cs) rfl HOWN3.out w1'.heap.size 1 rfl (acell x) rfl (fun j u hj => HC3.out j u (by simpa [acell] using hj)) (fun u hu => by simp only [acell, List.mem_cons, List.not_mem_nil, or_false] at hu; rcases hu with rfl | rfl | rfl <;> rfl) hdl6 HSZ.out ?_; intro v' w4 h4 h5; have g1 := yx_grown HR3'.out hpo HOWN3.out h5; have g3 := chg_grown HCH3.out HOWN3.out h5; obtain ⟨a4, c4, rfl, _⟩ := own_shape h4; obtain ⟨d0, d1, y0, y1⟩ := g1.cells; clear y0 y1; have H4 := Lib.hid h4; have G1 := Lib.hid g1; have G3 := Lib.hid g3; clear h4 h5 g1 g3 HW3 HC3 HOWN3 HR3' HCH3)
                go_ret2
                exact ⟨chg_new HBW.out (Nat.le_refl _) G3.out, rfl⟩
              | some q =>
                obtain ⟨x, r⟩ := q
                have hrA := yrdA_some hat
                rw [hat] at cr
                unfold PostY at cr
                simp only [aV] at cr
                have HR1 := Lib.hid (fun h => items_last HI.out hlt6 hrA h)
                have HR2 := Lib.hid (fun r2 h => items_next (r2 := r2) HI.out hlt6 hrA h)
                have HACC := Lib.hid (acells_app cs x)
                clear hown hrd hch HI hfull6 hat hrA
                generalize hn : cs.length = n at *
                have HDC := Lib.hid hn
                clear hn
                go_wp2_with fail
                refine cr.mono ?_
                rintro e w1' ⟨k2, rfl, m2, k1, hm2⟩
                have HM2 := Lib.hid hm2
                clear hm2
                have hb3 : Below w1'.heap.size w1' (w1'.alloc (.cells #[.string (S x.1), .int .i64 x.2.1, .string (S x.2.2)] 82)) := (Below.refl _ _).alloc (Nat.le_refl _) _
                have hc3 := cells_at (Blk.Is.new w1' 82 #[.string (S x.1), .int .i64 x.2.1, .string (S x.2.2)])
                have hown1 := k2.owns HOC.out fun b hb e => by have := own_lt HOC.out hb; omega
                obtain ⟨W3, hW3⟩ : ∃ W3, w1'.alloc (.cells #[.string (S x.1), .int .i64 x.2.1, .string (S x.2.2)] 82) = W3 := ⟨_, rfl⟩
                rw [hW3] at hb3 hc3
                have HW3 := Lib.hid hW3
                have HC3 := Lib.hid hc3
                have HOWN3 := Lib.hid (Own.owns_below hown1 hb3)
                have HR3' := Lib.hid (k1.below hb3)
                have HCH3 := Lib.hid ((HCH.out.trans k2).trans (Blk.Chg.ofBelow' hb3))
                have HSZ := Lib.hid HCH3.out.size
                clear hW3 hc3 hb3 hown1 k1 k2 HOC HCH cr
                go_wp2_with (at_builtin; rw [HW3.out]; refine append_el Tryz.underlying67 infoA rfl (by decide) rfl (.tmp 26) (.tmp 29) rfl wo.heap.size (.slice ca n cc) n (acells cs) rfl HOWN3.out w1'.heap.size 1 rfl (acell x) rfl (fun j u hj => HC3.out j u (by simpa [acell] using hj)) (fun u hu => by simp only [acell, List.mem_cons, List.not_mem_nil, or_false] at hu; rcases hu with rfl | rfl | rfl <;> rfl) hdl6 HSZ.out ?_; intro v' w4 h4 h5; have g1 := yx_grown HR3'.out hpo HOWN3.out h5; have g3 := chg_grown HCH3.out HOWN3.out h5; obtain ⟨a4, c4, rfl, _⟩ := own_shape h4; obtain ⟨d0, d1, y0, y1⟩ := g1.cells; clear y0 y1; have H4 := Lib.hid h4; have G1 := Lib.hid g1; have G3 := Lib.hid g3; clear h4 h5 g1 g3 HW3 HC3 HOWN3 HR3' HCH3)
                have cq := peek_any w.heap.size m2 false w4 G1.out
                rw [HM2.out] at cq
                refine cq.mono ?_
                rintro e w5 ⟨rfl, k1, k2⟩
                have hch5 := G3.out.trans k2
                have own5 := k2.owns H4.out fun b hb e => by have := own_lt H4.out hb; omega
                rw [← HACC.out] at own5
                have hlen : (cs ++ [x]).length = n + 1 := by rw [List.length_append, HDC.out]; rfl
                have OWN5 := Lib.hid own5
                have HCH5 := Lib.hid hch5
                have HLEN := Lib.hid hlen
                have K5 := Lib.hid k1
                clear d0 d1 own5 hch5 hlen k2 cq
                obtain ⟨d0, d1, e0, e1⟩ := k1.cells
                have hre := isEmpty_S r
                have hrl := k1.2
                clear k1
                rcases tk_hd r 124 (by decide) with ⟨h1, h2⟩ | ⟨t, h1, h2⟩
                · have h124 : ((hdN r : Int) != 124) = true := by
                    have : hdN r ≠ 124 := h2
                    simp; omega
                  have HIT := Lib.hid (HR1.out h1)
                  clear HR1 HR2 h1 h2
                  have HIT2 := Lib.hid (show yrdC (skip m) = .ok (cs ++ [x], r) from HIT.out)
                  have hskr : skip r = r := by rw [← HM2.out]; exact skip_skip m2
                  have hbL : Below w5.heap.size w5 (w5.alloc (.cells #[.slice a4 (n + 1) c4] 67)) := (Below.refl _ _).alloc (Nat.le_refl _) _
                  have hcL := (Blk.Is.new w5 67 #[.slice a4 (n + 1) c4]).at (i := 0) rfl
                  have hel := own_mono (Own.owns_below OWN5.out hbL) hwsz
                  have hownL := Own.owns_below (HCH5.out.owns HOWN.out fun b hb e => by have := own_lt HOWN.out hb; omega) hbL
                  have hclsL := (HCLS.out.one HCH5.out hsz).below hbL
                  have hbwL := chg_new HBW.out (Nat.le_refl _) HCH5.out
                  obtain ⟨WL, hWL⟩ : ∃ WL, w5.alloc (.cells #[.slice a4 (n + 1) c4] 67) = WL := ⟨_, rfl⟩
                  rw [hWL] at hbL hcL hel hownL hclsL
                  rw [← HLEN.out] at hel
                  have HEL0 := hclsL.more hel
                  rw [HLEN.out] at HEL0
                  have HEL := Lib.hid HEL0
                  have HWL := Lib.hid hWL
                  have HCL := Lib.hid hcL
                  have HOWNL := Lib.hid hownL
                  have HBL := Lib.hid (hbwL.trans (hbL.mono hbwL.size))
                  have HYL := Lib.hid (K5.out.below hbL)
                  have HSL : Hid (W.heap.size ≤ WL.heap.size) := Nat.le_trans hwsz (Nat.le_trans HCH5.out.size hbL.size)
                  have HSK := Lib.hid hskr
                  clear HIT HEL0 hWL hcL hownL hclsL hbwL hbL hel HOWN HCLS OWN5 HCH5 K5 HBW H4 G1 G3 HSZ HACC HM2 hskr
                  go_wp2_with (at_builtin; rw [HWL.out]; refine append_el Tryz.underlying22 infoC rfl (by decide) rfl (.tmp 53) (.tmp 55) rfl W.heap.size (.slice sa N cap) N vs rfl HOWNL.out w5.heap.size 1 rfl [.slice a4 (n + 1) c4] rfl (one_cell HCL.out) (fun u hu => by simp only [List.mem_singleton] at hu; rw [hu]; rfl) hdl HSL.out ?_; intro v' w6 h4 h5; have g1 := yx_grown HYL.out hsz HOWNL.out h5; have g3 := Own.below_grown HBL.out (own_mono HOWNL.out (Nat.le_of_lt hsz)) h5 (Nat.le_trans (Nat.le_of_lt hsz) HSL.out); have g2 := Nat.le_trans HSL.out h5.size; have g4 := HEL.out.grown HOWNL.out h5; obtain ⟨a6, c6, rfl, _⟩ := own_shape h4; have H6 := Lib.hid h4; have G1 := Lib.hid g1; have G2 := Lib.hid g2; have G3 := Lib.hid g3; have G4 := Lib.hid g4; clear h4 h5 g1 g2 g3 g4 HWL HCL HOWNL HEL HBL HYL d0 d1 e0 e1)
                  have cq := peek_any w.heap.size r false w6 G1.out
                  rw [HSK.out] at cq
                  refine cq.mono ?_
                  rintro e w7 ⟨rfl, k1, k2⟩
                  have hb7 := chg_new G3.out (Nat.le_refl _) k2
                  have own7 := k2.owns H6.out fun b hb e => by have := own_lt H6.out hb; omega
                  have cls7 := G4.out.one k2 hsz
                  have hsz7 : W.heap.size ≤ w7.heap.size := Nat.le_trans G2.out k2.size
                  have hlenD : (ds ++ [cs ++ [x]]).length = N + 1 := by rw [List.length_append, HDN.out]; rfl
                  have OWN7 := Lib.hid own7
                  have CLS7 := Lib.hid cls7
                  have HB7 := Lib.hid hb7
                  have HLD := Lib.hid hlenD
                  have K7 := Lib.hid k1
                  clear own7 cls7 hb7 hlenD k2 cq H6 G1 G2 G3 G4
                  obtain ⟨d0, d1, e0, e1⟩ := k1.cells
                  clear k1
                  by_cases hr0 : r = []
                  · obtain rfl := HG.out.symm.trans (HLAST.out (cs ++ [x]) (by rw [← hr0]; exact HIT2.out))
                    have hre2 : (S r).toList.isEmpty = true := by rw [hre, hr0]; rfl
                    clear HG hre hr0
                    go_wp2_with fail
                    go_ret2
                    refine ⟨HB7.out, _, _, rfl, ?_, CLS7.out.mono (Nat.le_of_lt hsz)⟩
                    have := own_mono OWN7.out (Nat.le_of_lt hsz)
                    rw [HLD.out]
                    exact this
                  · have hre2 : (S r).toList.isEmpty = false := by rw [hre]; cases r with
                      | nil => exact absurd rfl hr0
                      | cons c t => rfl
                    have hrs : 0 < (S r).size := by rw [S_size]; exact List.length_pos_iff.2 hr0
                    have hrs' : (0 : Int) < (S r).size := by omega
                    have hb0 := Txt.b_eq (S r) 0 hrs
                    have hb1 : Txt.b (S r) 0 = hdN r := by
                      obtain ⟨y, hy, hb⟩ := li_drop (S r) 0 hrs
                      rw [S_li, List.drop_zero] at hy
                      have e : hdN r = y.toNat := by unfold hdN; rw [hy]; rfl
                      rw [e]; exact hb.symm
                    rw [hb1] at hb0
                    rcases tk_hd r 44 (by decide) with ⟨h1, h2⟩ | ⟨t, h1, h2⟩
                    · obtain rfl := HG.out.symm.trans (HNO.out _ _ HIT2.out hr0 h1)
                      have h44 : ((hdN r : Int) != 44) = true := by
                        have : hdN r ≠ 44 := h2
                        simp; omega
                      clear HG hre h1 h2 hb1 hr0
                      go_wp2_with fail
                      go_ret2
                      exact ⟨HB7.out, rfl⟩
                    · have h44 : ((hdN r : Int) != 44) = false := by
                        have : hdN r = 44 := h2
                        simp [this]
                      have HN2 := Lib.hid (HNEXT.out _ _ (skip t) HIT2.out hr0 (by rw [h1]; exact tk_cons 44 t))
                      obtain ⟨hs1, hs2⟩ := hd_size h1
                      have htl : t.length ≤ 4611686018427387904 := by rw [h1, List.length_cons] at hrl; omega
                      have K8 := Lib.hid (K7.out.set t htl)
                      have hset : Blk.Chg (fun k => k = w.heap.size) w7 (w7.setCell ⟨w.heap.size, 0, none⟩ (.string (S t))) := (Blk.Chg.refl (fun k => k = w.heap.size) w7).setAt rfl
                      have OWN8 := Lib.hid (hset.owns OWN7.out fun b hb e => by have := own_lt OWN7.out hb; omega)
                      have CLS8 := Lib.hid (CLS7.out.one hset hsz)
                      have HB8 := Lib.hid (HB7.out.setCell (p := ⟨w.heap.size, 0, none⟩) (Nat.le_refl _) (.string (S t)))
                      have hsz8 : W.heap.size ≤ (w7.setCell ⟨w.heap.size, 0, none⟩ (.string (S t))).heap.size := Nat.le_trans hsz7 hset.size
                      clear hre h1 h2 hb1 hr0 htl hset
                      go_wp2_with fail
                      generalize w7.setCell ⟨w.heap.size, 0, none⟩ (.string (S t)) = W8 at *
                      go_roundg g'
                      case measure => omega
                      case rel =>
                        refine ⟨ds ++ [cs ++ [x]], _, t, a6, c6, by rw [HLD.out], ?_, CLS8.out, K8.out, hsz8, HB8.out, HN2.out, by rw [HLD.out]; omega, by rw [HLD.out]; omega⟩
                        rw [HLD.out]
                        exact OWN8.out
                · have h124 : ((hdN r : Int) != 124) = false := by
                    have : hdN r = 124 := h2
                    simp [this]
                  have hre2 : (S r).toList.isEmpty = false := by rw [hre, h1]; rfl
                  have HI2 := Lib.hid (HR2.out (skip t) (by rw [h1]; exact tk_cons 124 t))
                  obtain ⟨hs1, hs2⟩ := hd_size h1
                  have htl : t.length ≤ 4611686018427387904 := by rw [h1, List.length_cons] at hrl; omega
                  have K6 := Lib.hid (K5.out.set t htl)
                  have hset : Blk.Chg (fun k => k = w.heap.size) w5 (w5.setCell ⟨w.heap.size, 0, none⟩ (.string (S t))) := (Blk.Chg.refl (fun k => k = w.heap.size) w5).setAt rfl
                  have own6 := hset.owns OWN5.out fun b hb e => by have := own_lt OWN5.out hb; omega
                  have OWN6 := Lib.hid own6
                  have HCH6 := Lib.hid (HCH5.out.trans hset)
                  clear HR1 HR2 hre h1 h2 own6 htl hset
                  go_wp2_with fail
                  generalize w5.setCell ⟨w.heap.size, 0, none⟩ (.string (S t)) = W6 at *
                  go_roundg g6
                  case measure => omega
                  case rel =>
                    refine ⟨cs ++ [x], t, a4, c4, by rw [HLEN.out], ?_, K6.out, HCH6.out, HI2.out, by rw [HLEN.out]; omega, by rw [HLEN.out]; omega⟩
                    rw [HLEN.out]
                    exact OWN6.out
end Rl
end Go.Proofs.YtapmpdljapbpeaaGreatDoor

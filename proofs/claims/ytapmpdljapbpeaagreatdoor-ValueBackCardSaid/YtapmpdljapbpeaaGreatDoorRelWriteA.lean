/-
write, of atoms.
-/
import Derived.Test.YtapmpdljapbpeaaGreatDoorRelLists
import Derived.Test.YtapmpdljapbpeaaGreatDoorRelAtom
namespace Go.Proofs.YtapmpdljapbpeaaGreatDoor
open Go.RowKit
set_option linter.unusedSimpArgs false
set_option linter.unusedVariables false
namespace Rl
open Ver (Bs li li_len li_drop S S_self S_of S_size S_li below_drewN empty_is empty_no MaxLen Signs)
theorem infoText : (Tryz.prog.info? 9).map (fun i => (i.zero, i.size, i.bytes)) = some (some (.string ByteArray.empty), 1, 16) := by kernel_rfl
/-- A row of texts. -/
def tcells (ps : List Bs) : List Value := (ps.map S).map Value.string
theorem tcells_app (ps : List Bs) (p : Bs) : tcells (ps ++ [p]) = tcells ps ++ [.string (S p)] := by unfold tcells; simp
set_option maxRecDepth 100000 in
set_option maxHeartbeats 4000000 in
theorem join_none (sep : Bs) (w : World) : Calls Tryz.prog 147 #[.slice none 0 0, .string (S sep)] w fun e w' => e = .returned (.string (S [])) ∧ w' = w := by
  have hz : S [] = ⟨#[]⟩ := rfl
  rw [hz]
  go_enter Tryz.func147, Tryz.ntmps147
  go_wp2_with fail
  go_ret
  exact ⟨rfl, rfl⟩
theorem join_any (sep : Bs) (B : Nat) (v : Value) (ps : List Bs) (w : World) (h : w.ownsRow B 9 1 v ps.length (tcells ps)) (hn : ps.length ≤ 1000000) (hl : (Lib.join ps sep).length ≤ 140737488355328) :
    Calls Tryz.prog 147 #[v, .string (S sep)] w fun e w' => e = .returned (.string (S (Lib.join ps sep))) ∧ Below w.heap.size w w' := by
  have hse : (S sep).data.toList = sep := S_li sep
  by_cases h0 : ps.length = 0
  · obtain rfl : ps = [] := List.length_eq_zero_iff.1 h0
    rcases h.2 with ⟨rfl, _⟩ | ⟨g, cap, cur, rfl, hg, hh, hc, hm, hs, ht⟩
    · exact (join_none sep w).mono fun e w' hh => ⟨hh.1, by rw [hh.2]; exact Below.refl _ _⟩
    · have := Tryz.strings_Join g 0 cap [] (S sep) w (fun j x hj => by cases hj) (Array.getElem?_eq_some_iff.1 hh).1 (by simp) (by simp) (by simp [Lib.join])
      exact this
  · obtain ⟨g, cap, rfl, hc⟩ := own_slice h (by omega)
    have hcell : ∀ (j : Nat) x, (ps.map S)[j]? = some x → w.cell? ⟨g, 0 + j, none⟩ = some (.string x) := fun j x hj => by
      rw [Nat.zero_add]
      exact own_cell h (by unfold tcells; rw [List.getElem?_map, hj]; rfl)
    have hlt := (own_lt h (k := g) rfl).2
    have hmap : (ps.map S).map (fun t : ByteArray => t.data.toList) = ps := by
      rw [List.map_map]
      conv => rhs; rw [← List.map_id ps]
      exact List.map_congr_left fun x _ => S_li x
    have := Tryz.strings_Join g 0 cap (ps.map S) (S sep) w hcell hlt (by rw [List.length_map]; omega) (by rw [List.length_map]; exact hc) (by rw [hmap, hse]; exact hl)
    rw [hmap, hse, List.length_map] at this
    exact this
theorem take_one {α : Type} {l : List α} {z : α} {k : Nat} (h : k < l.length) : l.take (k + 1) = l.take k ++ [l.getD k z] := by
  rw [List.take_succ_eq_append_getElem h]
  simp [List.getD, List.getElem?_eq_getElem h]
theorem any_empty {α : Type} {f : α → Bs} {l : List α} {z : α} {k : Nat} (h : k < l.length) (he : f (l.getD k z) = []) : (l.any fun x => (f x).isEmpty) = true := by
  rw [List.any_eq_true]
  exact ⟨_, mem_getD h, by rw [he]; rfl⟩
theorem any_full {α : Type} {f : α → Bs} {l : List α} {z : α} (h : ∀ j, j < l.length → f (l.getD j z) ≠ []) : (l.any fun x => (f x).isEmpty) = false := by
  rw [List.any_eq_false]
  intro x hx
  obtain ⟨j, hj, rfl⟩ := List.mem_iff_getElem.1 hx
  have := h j hj
  simp only [List.getD, List.getElem?_eq_getElem hj, Option.getD_some] at this
  intro hc
  cases hq : f l[j] with
  | nil => exact this hq
  | cons c t => rw [hq] at hc; cases hc
set_option maxRecDepth 100000 in
set_option maxHeartbeats 4000000 in
theorem writeA_any (v : Value) (l : List At) (most : Nat) (sep : Bs) (w : World) (h : Ats w v l) (hL : LimA l) (hv : Vars w) (hm : most ≤ 12) (hsep : sep.length ≤ 3) :
    Calls Tryz.prog 125 #[v, .int .i64 most, .string (S sep), .func (.func 126) #[] #[]] w fun e w' => e = .returned (.string (S (wrt most sep wAt l))) ∧ Below w.heap.size w w' := by
  obtain ⟨sa, cap, rfl⟩ := h.shape
  unfold wrt
  by_cases hmost : most < l.length
  · rw [if_pos hmost]
    have hm' : (most : Int) < (l.length : Int) := by omega
    have hz : S [] = ⟨#[]⟩ := rfl
    rw [hz]
    generalize l.length = n at *
    clear h hL hv
    go_enter Tryz.func125, Tryz.ntmps125
    go_wp2_with fail
    go_ret
    exact ⟨rfl, Below.refl _ _⟩
  · rw [if_neg hmost]
    have hm' : ¬ (most : Int) < (l.length : Int) := by omega
    obtain ⟨G, hG⟩ : ∃ G, (if (l.any fun x => (wAt x).isEmpty) = true then [] else Lib.join (l.map wAt) sep) = G := ⟨_, rfl⟩
    have HG := Lib.hid hG
    rw [hG]
    have H := Lib.hid h
    have HL := Lib.hid hL
    have HV := Lib.hid hv
    clear hG h hL hv
    obtain ⟨n, hn⟩ : ∃ n, l.length = n := ⟨_, rfl⟩
    have HN := Lib.hid hn
    rw [hn] at hmost hm' ⊢
    clear hn
    go_enter Tryz.func125, Tryz.ntmps125
    go_wp2_with fail
    go_loopg [9, 19] n (fun gf s9 s19 wx => ∃ (k : Nat) (pa : Option Addr) (cp : Nat), s9 = .slice pa k cp ∧ s19 = .int .i64 k ∧ wx.ownsRow w.heap.size 9 1 (.slice pa k cp) k (tcells ((l.take k).map wAt)) ∧ Below w.heap.size w wx ∧ Hid (∀ j, j < k → wAt (l.getD j nA) ≠ []) ∧ k ≤ n ∧ n ≤ k + gf)
    case atStart => exact ⟨0, none, 0, rfl, rfl, World.ownsRow_nil w _ _ 1, Below.refl _ _, fun j hj => absurd hj (by omega), by omega, by omega⟩
    case round =>
      obtain ⟨k, pa, cp, rfl, rfl, hown, hbw, HE, hkn, hfu⟩ := hrel
      by_cases hlt : k < n
      · obtain ⟨g', rfl⟩ : ∃ g', gk = g' + 1 := ⟨gk - 1, by omega⟩
        have hlt' : (k : Int) < (n : Int) := by omega
        have hk0 : (0 : Int) ≤ k := by omega
        have hkl : k < l.length := by rw [HN.out]; exact hlt
        obtain ⟨_, a', cap', e1, _, hcells⟩ := H.out.below hbw
        simp only [Value.slice.injEq, true_and] at e1
        obtain ⟨rfl, rfl⟩ := e1
        obtain ⟨kb, off, rfl, hcl2⟩ := hcells (by omega)
        obtain ⟨x0, x1, x2⟩ := hcl2 k hkl
        rw [Nat.mul_comm 3 k] at x0 x1 x2
        have hmem := mem_getD (z := nA) hkl
        have hlim := HL.out _ hmem
        have htk := take_one (z := nA) hkl
        have hte := fun h => any_empty (f := wAt) (z := nA) hkl h
        have HTK := Lib.hid htk
        have HTE := Lib.hid hte
        have HOWN := Lib.hid hown
        have HBW := Lib.hid hbw
        have ca := fun w hv => atom_any (l.getD k nA) w (by omega) (by omega) hv
        unfold aV at ca
        generalize hx : l.getD k nA = x at *
        have HX := Lib.hid hx
        clear hcl2 hcells hown hbw hmem hlim htk hte hx
        cases hw : wAt x with
        | nil =>
          rw [hw] at ca
          have hF := HTE.out hw
          have hG : G = [] := by rw [← HG.out, if_pos hF]
          subst hG
          have he : (S []).toList.isEmpty = true := isEmpty_S []
          have hz : S [] = ⟨#[]⟩ := rfl
          rw [hz] at ca he
          clear HG hF HTE HTK hw HL HX HE
          have hb2 := (Below.refl wr.heap.size wr).alloc (Nat.le_refl _) (.cells #[.string (S x.1), .int .i64 x.2.1, .string (S x.2.2)] 82)
          have HB2 := Lib.hid (HBW.out.trans (hb2.mono HBW.out.size))
          have HO2 := Lib.hid (Own.owns_below HOWN.out hb2)
          clear hb2 HBW HOWN
          go_wp2_with fail
          generalize wr.alloc (.cells #[.string (S x.1), .int .i64 x.2.1, .string (S x.2.2)] 82) = W at *
          refine (ca _ (HV.out.on HB2.out)).mono ?_
          rintro e w1 ⟨rfl, k1⟩
          have hb1 := HB2.out.trans (k1.mono HB2.out.size)
          go_wp2_with fail
          go_ret
          exact ⟨rfl, hb1⟩
        | cons c0 t0 =>
          rw [hw] at ca
          have he : (S (c0 :: t0)).toList.isEmpty = false := isEmpty_S (c0 :: t0)
          have hE2 : ∀ j, j < k + 1 → wAt (l.getD j nA) ≠ [] := fun j hj => by
            by_cases e : j = k
            · rw [e, HX.out, hw]; simp
            · exact HE.out j (by omega)
          have hT2 : tcells ((l.take (k + 1)).map wAt) = tcells ((l.take k).map wAt) ++ [.string (S (c0 :: t0))] := by
            rw [HTK.out, List.map_append, List.map_singleton, hw, tcells_app]
          have HE2 := Lib.hid hE2
          have HT2 := Lib.hid hT2
          have hk70 : k + 1 ≤ 70000 := by omega
          clear HTE HTK hw HL HX HE hE2 hT2
          generalize S (c0 :: t0) = y at *
          have hb2 := (Below.refl wr.heap.size wr).alloc (Nat.le_refl _) (.cells #[.string (S x.1), .int .i64 x.2.1, .string (S x.2.2)] 82)
          have HB2 := Lib.hid (HBW.out.trans (hb2.mono HBW.out.size))
          have HO2 := Lib.hid (Own.owns_below HOWN.out hb2)
          clear hb2 HBW HOWN
          go_wp2_with fail
          generalize wr.alloc (.cells #[.string (S x.1), .int .i64 x.2.1, .string (S x.2.2)] 82) = W at *
          refine (ca _ (HV.out.on HB2.out)).mono ?_
          rintro e w1 ⟨rfl, k1⟩
          have hb3 := (Below.refl w1.heap.size w1).alloc (Nat.le_refl _) (.cells #[.string y] 9)
          have hc3 := (Blk.Is.new w1 9 #[.string y]).at (i := 0) rfl
          obtain ⟨W3, hW3⟩ : ∃ W3, w1.alloc (.cells #[.string y] 9) = W3 := ⟨_, rfl⟩
          rw [hW3] at hb3 hc3
          have HW3 := Lib.hid hW3
          have HC3 := Lib.hid hc3
          have HO3 := Lib.hid (Own.owns_below (Own.owns_below HO2.out k1) hb3)
          have HB3 := Lib.hid ((HB2.out.trans (k1.mono HB2.out.size)).trans (hb3.mono (HB2.out.trans (k1.mono HB2.out.size)).size))
          have HSZ := Lib.hid HB3.out.size
          clear hW3 hc3 hb3 k1 HB2 HO2 ca
          go_wp2_with (at_builtin; rw [HW3.out]; refine append_el Tryz.underlying106 infoText rfl (by decide) rfl (.tmp 28) (.tmp 30) rfl w.heap.size (.slice pa k cp) k (tcells ((l.take k).map wAt)) rfl HO3.out w1.heap.size 1 rfl [.string y] rfl (one_cell HC3.out) (fun u hu => by simp only [List.mem_singleton] at hu; rw [hu]; rfl) hk70 HSZ.out ?_; intro v' w4 h4 h5; have hb4 := Own.below_grown HB3.out HO3.out h5 HSZ.out; obtain ⟨a4, c4, rfl, _⟩ := own_shape h4; rw [← HT2.out] at h4; have H4 := Lib.hid h4; have HB4 := Lib.hid hb4; clear h4 h5 hb4 HW3 HC3 HO3 HB3)
          go_roundg g'
          case measure => omega
          case rel => exact ⟨k + 1, a4, c4, rfl, by go_num, H4.out, HB4.out, HE2.out, by omega, by omega⟩
      · have hge : ¬ (k : Int) < (n : Int) := by omega
        obtain rfl : k = n := by omega
        have hfull : (l.any fun x => (wAt x).isEmpty) = false := any_full (z := nA) fun j hj => HE.out j (by rw [← HN.out]; exact hj)
        have hG : G = Lib.join (l.map wAt) sep := by rw [← HG.out, if_neg (by rw [hfull]; simp)]
        have hps : (l.take k).map wAt = l.map wAt := by rw [List.take_of_length_le (by rw [HN.out]; exact Nat.le_refl _)]
        rw [hps] at hown
        have hlen : (l.map wAt).length = k := by rw [List.length_map]; exact HN.out
        have hjl : (Lib.join (l.map wAt) sep).length ≤ 140737488355328 := by
          have h1 := join_len sep 78 (l.map wAt) fun x hx => by
            obtain ⟨a, _, rfl⟩ := List.mem_map.1 hx
            exact wAt_len a
          have h2 : (l.map wAt).length * (78 + sep.length) ≤ 12 * 81 := Nat.mul_le_mul (by rw [hlen]; omega) (by omega)
          omega
        have cj := join_any sep w.heap.size (.slice pa k cp) (l.map wAt) wr (by rw [hlen]; exact hown) (by rw [hlen]; omega) hjl
        rw [← hG] at cj
        clear HG hfull hps hlen hjl hown HE HL hG
        have HBW := Lib.hid hbw
        clear hbw
        go_wp2_with fail
        refine cj.mono ?_
        rintro e w1 ⟨rfl, k1⟩
        have hb1 := HBW.out.trans (k1.mono HBW.out.size)
        go_wp2_with fail
        go_ret
        exact ⟨rfl, hb1⟩
end Rl
end Go.Proofs.YtapmpdljapbpeaaGreatDoor

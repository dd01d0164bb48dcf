/-
Add of a set.
-/
import Derived.Test.YtlpahomaokopoaaCnfTidy
import Derived.Test.YtlpahomaokopoaaRegT
namespace Go.Proofs.Ytlpahomaokopoaa
open Go.RowKit
set_option linter.unusedSimpArgs false
set_option linter.unusedVariables false
namespace Cn
/-- append, for the walk: where the new row lies is told, too. -/
theorem wpList_append4 {P : Program} {w : World} {ops : Array Oper} {rest : List Oper} {o : Oper} {a : Act} {Q : Exit → Act → World → Prop} (hgd : o.guard = none) (s x : Operand) (t tx : TypeId)
    (ho : o.op = .call { callee := .builtin .append, args := #[s, x], argTypes := #[t, tx] })
    (base : Nat) (e : TypeId) (i : TypeInfo) (z : Value) (size bytes : Nat) (ht : P.underlying t = some (.slice e)) (hi : P.info? e = some i) (hz : i.zero = some z)
    (hsize : i.size = size) (hby : i.bytes = bytes) (hzs : z.cells.size = size)
    (v : Value) (n : Nat) (xs : List Value) (hv : a.eval s = v) (hown : w.ownsRow base e size v n xs) (u : Value) (m : Nat) (news : List Value) (hx : a.eval x = u) (hs : Src P size tx u m news w)
    (h63 : n + m ≤ maxLen) (hbytes : (n + m) * bytes ≤ 140737488355328) (hbase : base ≤ w.heap.size)
    (h : ∀ v' w', w'.ownsRow base e size v' (n + m) (xs ++ news) → w.grownBy w' v.ownBlock → (∀ k, v'.ownBlock = some k → v.ownBlock = some k ∨ w.heap.size ≤ k) → wpList P ops Q rest (a.put o.dst v') w') : wpList P ops Q (o :: rest) a w := by
  refine wpList_plain hgd fun K hK => ?_
  exact Own.wp_append_src s x t tx ho base e i z size bytes ht hi hz hsize hby hzs v n xs hv hown u m news hx hs h63 hbytes hbase fun v' w' h1 h2 h3 => hK _ _ (h v' w' h1 h2 h3)
theorem add_nil (cv : Value) (w : World) (ca : Option Addr) (cn cc : Nat) (hcv : cv = .slice ca cn cc) : Calls Try.prog 19 #[.pointer none, cv] w fun e w' => e = .returned (.bool false) ∧ Below w.heap.size w w' := by
  have ct := takes_nil cv w ca cn cc hcv
  subst hcv
  go_enter Try.func19, Try.ntmps19
  go_wp2_with fail
  refine ct.mono ?_
  rintro e w' ⟨rfl, k1⟩
  have K1 := Lib.hid k1
  clear k1 ct
  go_wp2_with fail
  go_ret
  exact ⟨rfl, K1.out⟩
set_option maxRecDepth 100000 in
set_option maxHeartbeats 16000000 in
theorem add_any {B p : Nat} {v : Value} {n : Nat} {L : List (List Int)} {w : World} (h : CSet w B p v n L) (cv : Value) (c : List Int) (hc : LitV w cv c) (hl : c.length ≤ 1000) (hB : B ≤ w.heap.size) :
    Calls Try.prog 19 #[.pointer (some ⟨p, 0, none⟩), cv] w fun e w' => e = .returned (.bool (takes n L c)) ∧ ∃ v', CSet w' B p v' n (adds n L c) ∧ Grow w v v' ∧ Blk.Chg (Mine p v) w w' := by
  have ct := takes_any p v n L B cv c w h hc
  obtain ⟨G, hG⟩ : ∃ G, takes n L c = G := ⟨_, rfl⟩
  have HG := Lib.hid hG
  rw [hG] at ct ⊢
  have HC := Lib.hid h
  have HCV := Lib.hid hc
  obtain ⟨ca, cc, rfl⟩ := hc.shape
  obtain ⟨C, hC⟩ : ∃ C, c.length = C := ⟨_, rfl⟩
  rw [hC] at hl
  have HCL := Lib.hid hC
  have hrow := h.rows.shape
  obtain ⟨va, vc, rfl, hvc, hvm⟩ := hrow
  obtain ⟨N, hN⟩ : ∃ N, L.length = N := ⟨_, rfl⟩
  have HN := Lib.hid hN
  have hlenN := h.len
  rw [hN] at HC hvc hlenN ⊢
  rw [hC] at ct HCV ⊢
  clear hG h hc hC hN
  cases G with
  | false =>
    have HA := Lib.hid (show adds n L c = L by unfold adds; rw [if_neg (by rw [HG.out]; decide)])
    go_enter Try.func19, Try.ntmps19
    go_wp2_with fail
    refine ct.mono ?_
    rintro e w1 ⟨rfl, k1⟩
    have HF := Lib.hid (HC.out.below k1)
    have K1 := Lib.hid k1
    clear k1 ct
    go_wp2_with fail
    go_ret
    exact ⟨rfl, _, by rw [HA.out]; exact HF.out, Grow.refl _ _, Blk.Chg.ofBelow' K1.out⟩
  | true =>
    go_enter Try.func19, Try.ntmps19
    go_wp2_with fail
    refine ct.mono ?_
    rintro e w1 ⟨rfl, k1⟩
    have HF := Lib.hid (HC.out.below k1)
    have K1 := Lib.hid k1
    have cy := tidy_any _ c w1 (HCV.out.below k1) (by rw [HCL.out]; omega)
    clear k1 ct
    go_wp2_with fail
    refine cy.mono ?_
    rintro e w2 ⟨v2, rfl, o2, k2⟩
    have hs2 := HF.out.below k2
    have HB2 := Lib.hid (K1.out.trans (k2.mono K1.out.size))
    clear cy k2 HF
    obtain ⟨Gb, hGb⟩ : ∃ Gb, bad c = Gb := ⟨_, rfl⟩
    have HGB := Lib.hid hGb
    rw [hGb]
    obtain ⟨ta, tc, rfl⟩ := o2.lit.shape
    cases Gb with
    | true =>
      have HA := Lib.hid (show adds n L c = L by unfold adds addL; rw [if_pos HG.out, if_pos HGB.out])
      have HF := Lib.hid hs2
      clear hs2 o2 hGb
      go_wp2_with fail
      go_ret
      exact ⟨rfl, _, by rw [HA.out]; exact HF.out, Grow.refl _ _, Blk.Chg.ofBelow' HB2.out⟩
    | false =>
      have hA : adds n L c = L ++ [tid c] := by unfold adds addL; rw [if_pos HG.out, if_neg (by rw [HGB.out]; decide)]
      have HLEN := Lib.hid (show (L ++ [tid c]).length ≤ 5000 by rw [← hA]; exact adds_len HC.out.len)
      have HOK := Lib.hid (show Okay n (L ++ [tid c]) by rw [← hA]; exact okay_adds HC.out.okay)
      have HSM := Lib.hid (show Small (L ++ [tid c]) by rw [← hA]; exact small_adds HC.out.small (by rw [HCL.out]; exact hl))
      have HA := Lib.hid hA
      rw [tidy_no HGB.out] at o2
      have hT : (tidy c).length = (tid c).length := by rw [tidy_no HGB.out]
      obtain ⟨M, hM⟩ : ∃ M, (tidy c).length = M := ⟨_, rfl⟩
      have HT2 := Lib.hid (show (tid c).length ≤ 1000000 from Nat.le_trans tid_len (by rw [HCL.out]; omega))
      rw [← hT, hM] at o2
      rw [hM]
      clear hA hT hM hGb
      go_wp2_with fail
      have hS0 : Blk.Is w2.drew p 55 #[.int .i64 n, .slice va N vc] := hs2.is.drew
      have HS := Lib.hid hS0
      have R0 := Lib.hid (hs2.rows.below (Below.refl _ _).drew)
      have T0 := Lib.hid (o2.below (Below.refl _ _).drew)
      have B0 := Lib.hid (HB2.out.drew)
      clear hS0 hs2 o2 HB2
      refine Reg.wp_region_T 11 (fun x => Blk.Is x p 55 #[.int .i64 n, .slice va N vc]) (by kernel_rfl) ?_
      change Reg.anyT _ _ _ _ 11 _ 12 _ _ _
      generalize w2.drew = u0 at *
      refine Reg.T_pure 0 (.pointer (some ⟨p, 0, none⟩)) rfl (by kernel_rfl) (fun _ _ _ h => h) (.inl ⟨rfl, fun w _ => rfl⟩) HS.out ?_
      simp only [Act.put, List.getElem_toArray, List.getElem_cons_zero, List.getElem_cons_succ, List.setIfInBounds_toArray, List.set_cons_zero, List.set_cons_succ]
      refine Reg.T_pure 1 (.pointer (some ⟨p, 0, none⟩)) rfl (by kernel_rfl) (fun _ _ _ h => h) (.inl ⟨rfl, fun w _ => rfl⟩) HS.out ?_
      simp only [Act.put, List.getElem_toArray, List.getElem_cons_zero, List.getElem_cons_succ, List.setIfInBounds_toArray, List.set_cons_zero, List.set_cons_succ]
      refine Reg.T_pure 2 (.pointer (some ⟨p, 0, none⟩)) rfl (by kernel_rfl) (fun _ _ _ h => h) (.inl ⟨rfl, fun w _ => rfl⟩) HS.out ?_
      simp only [Act.put, List.getElem_toArray, List.getElem_cons_zero, List.getElem_cons_succ, List.setIfInBounds_toArray, List.set_cons_zero, List.set_cons_succ]
      refine Reg.T_pure 3 (.pointer (some ⟨p, 1, none⟩)) rfl (by kernel_rfl) (fun _ _ _ h => h) (.inl ⟨rfl, fun w _ => rfl⟩) HS.out ?_
      simp only [Act.put, List.getElem_toArray, List.getElem_cons_zero, List.getElem_cons_succ, List.setIfInBounds_toArray, List.set_cons_zero, List.set_cons_succ]
      refine Reg.T_load 4 (.slice va N vc) rfl (by kernel_rfl) (fun _ _ _ h => h) (Reg.yields_load_one rfl 28 _ rfl p 1 rfl (.slice va N vc) (fun x hx => hx.at (i := 1) rfl) Try.isAgg28) HS.out ?_
      simp only [Act.put, List.getElem_toArray, List.getElem_cons_zero, List.getElem_cons_succ, List.setIfInBounds_toArray, List.set_cons_zero, List.set_cons_succ]
      refine Reg.T_pure 5 (.slice ta M tc) rfl (by kernel_rfl) (fun _ _ _ h => h) (.inl ⟨rfl, fun w _ => rfl⟩) HS.out ?_
      simp only [Act.put, List.getElem_toArray, List.getElem_cons_zero, List.getElem_cons_succ, List.setIfInBounds_toArray, List.set_cons_zero, List.set_cons_succ]
      have co := cloneLits_any (.slice ta M tc) (tid c) u0 T0.out.lit HT2.out
      refine Reg.T_only 6 rfl (by kernel_rfl) ?_
      go_wp2_with fail
      refine co.mono ?_
      rintro e u1 ⟨b1, rfl, o1, k1⟩
      have HS1 := Lib.hid (is_on HS.out k1)
      have R1 := Lib.hid (R0.out.below k1)
      have B1 := Lib.hid (B0.out.trans (k1.mono B0.out.size))
      have T1 := Lib.hid (o1.mono (B' := B) (by have := B0.out.size; omega))
      clear co HS R0 B0 T0 o1 k1
      go_wp2_with fail
      change _ ∧ _
      refine ⟨fun _ => HS1.out, ?_⟩
      have g2 := (Below.refl u1.heap.size u1).alloc (Nat.le_refl _) (.cells #[b1] 22)
      have i2 := Blk.Is.new u1 22 #[b1]
      have HS2 := Lib.hid (is_on HS1.out g2)
      have R2 := Lib.hid (R1.out.below g2)
      have B2 := Lib.hid (B1.out.trans (g2.mono B1.out.size))
      have T2 := Lib.hid (T1.out.below g2)
      have h1c := lt_one T1.out
      have hb1 := T1.out.lit.shape
      refine Reg.T_only 7 rfl (by kernel_rfl) ?_
      obtain ⟨ba, bc, rfl⟩ := hb1
      obtain ⟨Q, hQ⟩ : ∃ Q, (tid c).length = Q := ⟨_, rfl⟩
      have HQ := Lib.hid hQ
      rw [hQ] at g2 i2 HS2 R2 B2 T2 h1c ⊢
      clear hQ
      go_wp2_with fail
      change _ ∧ _
      refine ⟨fun _ => HS2.out, ?_⟩
      clear g2 HS1 R1 B1 T1
      obtain ⟨px, hpx⟩ : ∃ p, u1.heap.size = p := ⟨_, rfl⟩
      rw [hpx] at i2
      try rw [hpx]
      generalize u1.alloc (.cells #[.slice ba Q bc] 22) = u2 at *
      clear hpx
      obtain ⟨hs, own, hL⟩ := R2.out
      rw [HN.out] at own
      have HL := Lib.hid hL
      have hBn : B ≤ u2.heap.size := by have := B2.out.size; omega
      have hlen : hs.length = N := by rw [own.1, Nat.mul_one]
      obtain ⟨i0, hi, hz0, hz1, hz2⟩ := info_parts infoLits
      have SRC : Src Try.prog 1 28 (.slice (some ⟨px, 0, none⟩) 1 1) 1 [.slice ba Q bc] u2 := Src.ofSlice u2 Try.underlying28 ⟨px, 0, none⟩ 1 1 [.slice ba Q bc] rfl (fun j u hj => by
        cases j with
        | zero => simp at hj; subst hj; rw [Addr.add_mid]; exact i2.at (i := 0) rfl
        | succ j => simp at hj) (fun u hu => by simp at hu; rw [hu]; rfl)
      clear hL i2
      refine Reg.T_only 8 rfl (by kernel_rfl) ?_
      refine wpList_append4 rfl (.tmp 21) (.tmp 24) 28 28 rfl B 22 i0 _ 1 24 Try.underlying28 hi hz0 hz1 hz2 rfl _ N hs rfl own _ 1 [.slice ba Q bc] rfl SRC (by simp only [maxLen]; omega) (by omega) hBn ?_
      intro v' w9 h2 h3 h4
      have hch : Blk.Chg (fun j => Value.ownBlock (.slice va N vc) = some j) u2 w9 := (Blk.Chg.refl _ _).grown h3 (fun g hg _ => hg)
      have hnp : Value.ownBlock (.slice va N vc) ≠ some p := fun hg => by
        obtain ⟨ds, hd⟩ := own_is own hg
        exact (HS2.out.ne hd (by decide)) rfl
      have s9 := hch.is HS2.out hnp
      have hch9 : Blk.Chg (Cn.Mine p (.slice va N vc)) w (w9.setCell ⟨p, 1, none⟩ v') := ((Blk.Chg.ofBelow' B2.out).trans (hch.mono fun k _ hk => .inr hk)).setAt (.inl rfl)
      have hlt : ∀ (x : Value) l, Lt u2 B x l → Lt (w9.setCell ⟨p, 1, none⟩ v') B x l := fun x l hx => by
        refine (hx.chg hch fun k hk hk2 => ?_).chg (S := fun k => k = p) ((Blk.Chg.refl _ _).setAt rfl) fun k hk hk2 => ?_
        · obtain ⟨cs, hcs⟩ := hx.is hk
          obtain ⟨ds, hd⟩ := own_is own hk2
          exact (hcs.ne hd (by decide)) rfl
        · obtain ⟨cs, hcs⟩ := hx.is hk
          subst hk2
          exact (HS2.out.ne hcs (by decide)) rfl
      have h9 : Rows2 (w9.setCell ⟨p, 1, none⟩ v') B v' (L ++ [tid c]) := by
        refine ⟨hs ++ [.slice ba Q bc], ?_, fun i x hx => ?_⟩
        · have := (Blk.Chg.refl (fun k => k = p) w9).setAt (b := p) (o := 1) (u := v') rfl
          rw [List.length_append, HN.out, List.length_singleton]
          refine this.owns h2 fun k hk hk2 => ?_
          subst hk2
          obtain ⟨ds, hd⟩ := own_is h2 hk
          exact (s9.ne hd (by decide)) rfl
        · by_cases hi' : i < N
          · rw [List.getElem?_append_left (by omega)] at hx
            have := hlt _ _ (HL.out i x hx)
            rwa [List.getD_eq_getElem?_getD, List.getElem?_append_left (by rw [HN.out]; exact hi'), ← List.getD_eq_getElem?_getD]
          · have hle := (List.getElem?_eq_some_iff.1 hx).1
            simp only [List.length_append, List.length_singleton] at hle
            obtain rfl : i = N := by omega
            rw [List.getElem?_append_right (by omega), hlen, Nat.sub_self] at hx
            simp at hx
            subst hx
            have := hlt _ _ T2.out
            rw [List.getD_eq_getElem?_getD, List.getElem?_append_right (by rw [HN.out]; exact Nat.le_refl _), HN.out, Nat.sub_self]
            exact this
      have hg9 : Grow w (.slice va N vc) v' := fun k hk => by
        have h10 := own_lt h2 hk
        by_cases hkw : w.heap.size ≤ k
        · exact .inr hkw
        · left
          by_cases he : Value.ownBlock (.slice va N vc) = some k
          · exact he
          · exfalso
            obtain ⟨ds, hd⟩ := own_is h2 hk
            rcases h4 k hk with h | h
            · exact he h
            · have := B2.out.size; omega
      have S9 := Lib.hid s9
      have H9 := Lib.hid (And.intro h9 (And.intro hg9 hch9))
      have i9 := s9.set 1 v'
      have I9 := Lib.hid i9
      obtain ⟨a9, c9, e9, _⟩ := own_shape h2
      subst e9
      clear h2 h3 h4 hch hnp s9 hch9 hlt h9 hg9 i9 own B2 T2 HL HS2 SRC R2 h1c
      go_wp2_with fail
      change _ ∧ _
      refine ⟨fun _ => S9.out, ?_⟩
      refine Reg.T_only 9 rfl (by kernel_rfl) ?_
      go_wp2_with fail
      change _ ∧ _
      refine ⟨fun _ => S9.out, ?_⟩
      refine Reg.T_only 10 rfl (by kernel_rfl) ?_
      go_wp2_with fail
      change _ ∧ _
      refine ⟨fun _ => S9.out, ?_⟩
      have c9' : w9.cell? ⟨p, 1, none⟩ = some (.slice va N vc) := S9.out.at (i := 1) rfl
      have f9 := S9.out.free 1
      refine Reg.T_only 11 rfl (by kernel_rfl) ?_
      go_wp2_with fail
      change _ ∧ _
      refine ⟨fun h => absurd h (by decide), ?_⟩
      refine Reg.T_done (by kernel_rfl) ?_
      clear c9' f9 S9
      generalize w9.setCell ⟨p, 1, none⟩ (.slice a9 (N + 1) c9) = w10 at *
      go_wp2_with fail
      go_ret
      exact ⟨rfl, _, by rw [HA.out]; exact ⟨I9.out, HC.out.low, H9.out.1, HC.out.vars, HLEN.out, HOK.out, HSM.out⟩, H9.out.2.1, H9.out.2.2⟩
end Cn
end Go.Proofs.Ytlpahomaokopoaa

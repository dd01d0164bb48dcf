/-
The reference's reader: peek, word. The reference's reader and an atom that is being read.
-/
import Derived.Test.YtapmpdljapbpeaaGreatDoorRelParse
import Derived.Test.YtapmpdljapbpeaaGreatDoorVerRefParse
import Derived.Test.YtapmpdljapbpeaaGreatDoorRelAtom
namespace Go.Proofs.YtapmpdljapbpeaaGreatDoor
open Go.RowKit
set_option linter.unusedSimpArgs false
set_option linter.unusedVariables false
namespace Rl
open Ver (Bs li li_len li_drop S S_self S_of S_size S_li below_drewN empty_is empty_no MaxLen Signs)
theorem ywhite_any (r : Nat) (w : World) : Calls Tryz.prog 117 #[.int .u8 r] w fun e w' => e = .returned (.bool (whN r)) ∧ w' = w := by
  go_enter Tryz.func117, Tryz.ntmps117
  go_wp2_with fail
  all_goals
    go_ret
    refine Ver.ret_bool ?_
    simp [whN]
    try omega
/-- The reference's reader, at block p. -/
def Yx (w : World) (p : Nat) (l : Bs) (bad : Bool) : Prop := Blk.Is w p 115 #[.string (S l), .bool bad] ∧ l.length ≤ 4611686018427387904
theorem Yx.chg {w w' : World} {p : Nat} {l : Bs} {bad : Bool} {Q : Nat → Prop} (h : Yx w p l bad) (hc : Blk.Chg Q w w') (hn : ¬ Q p) : Yx w' p l bad := ⟨hc.is h.1 hn, h.2⟩
theorem Yx.below {w w' : World} {p : Nat} {l : Bs} {bad : Bool} (h : Yx w p l bad) (hb : Below w.heap.size w w') : Yx w' p l bad := h.chg (Q := fun _ => False) (Blk.Chg.ofBelow' hb) (by simp)
theorem Yx.set {w : World} {p : Nat} {l : Bs} {bad : Bool} (h : Yx w p l bad) (m : Bs) (hm : m.length ≤ 4611686018427387904) : Yx (w.setCell ⟨p, 0, none⟩ (.string (S m))) p m bad := ⟨by have := h.1.set 0 (.string (S m)); simpa using this, hm⟩
theorem Yx.flag {w : World} {p : Nat} {l : Bs} {bad : Bool} (h : Yx w p l bad) (bad' : Bool) : Yx (w.setCell ⟨p, 1, none⟩ (.bool bad')) p l bad' := ⟨by have := h.1.set 1 (.bool bad'); simpa using this, h.2⟩
theorem Yx.cells {w : World} {p : Nat} {l : Bs} {bad : Bool} (h : Yx w p l bad) : w.cell? ⟨p, 0, none⟩ = some (.string (S l)) ∧ w.cell? ⟨p, 1, none⟩ = some (.bool bad) ∧ w.frozen? ⟨p, 0, none⟩ = false ∧ w.frozen? ⟨p, 1, none⟩ = false := ⟨h.1.at rfl, h.1.at rfl, h.1.free _, h.1.free _⟩
theorem chg_drewN {Q : Nat → Prop} (w : World) (n : Nat) : Blk.Chg Q w (w.drewN n) := Blk.Chg.ofBelow' (below_drewN w n)
def hdN (l : Bs) : Nat := (l.headD 0).toNat
set_option maxRecDepth 100000 in
set_option maxHeartbeats 2000000 in
theorem peek_any (p : Nat) (l : Bs) (bad : Bool) (w : World) (h : Yx w p l bad) :
    Calls Tryz.prog 89 #[.pointer (some ⟨p, 0, none⟩)] w fun e w' => e = .returned (.int .u8 (hdN (skip l))) ∧ Yx w' p (skip l) bad ∧ Blk.Chg (fun k => k = p) w w' := by
  obtain ⟨G, hG⟩ : ∃ G, skip l = G := ⟨_, rfl⟩
  have HG := Lib.hid hG
  rw [hG]
  have H := Lib.hid h
  clear hG h
  go_enter Tryz.func89, Tryz.ntmps89
  go_wp2_with fail
  go_loopg [] l.length (fun gf wx => ∃ m : Bs, Yx wx p m bad ∧ Blk.Chg (fun k => k = p) w wx ∧ Hid (skip m = G) ∧ m.length ≤ gf)
  case atStart => exact ⟨l, H.out, Blk.Chg.refl _ _, HG.out, Nat.le_refl _⟩
  case round =>
    obtain ⟨m, hy, hc, HM, hfu⟩ := hrel
    obtain ⟨c0, c1, f0, f1⟩ := hy.cells
    have hml := hy.2
    cases m with
    | nil =>
      have hz : (S []).size = 0 := rfl
      have hG : G = [] := HM.out.symm
      subst hG
      have HY := Lib.hid hy
      have HC := Lib.hid hc
      clear hy hc HM HG
      generalize S [] = s at *
      go_wp2_with fail
      go_ret
      exact ⟨rfl, HY.out, HC.out⟩
    | cons c t =>
      have hz : (S (c :: t)).size = t.length + 1 := by rw [S_size]; rfl
      rw [List.length_cons] at hml hfu
      have h0 : (0 : Int) < (S (c :: t)).size := by omega
      have h00 : 0 < (S (c :: t)).size := by omega
      have hb0 := Txt.b_eq (S (c :: t)) 0 h00
      have hb1 : Txt.b (S (c :: t)) 0 = c.toNat := by
        obtain ⟨x, hx, hb⟩ := li_drop (S (c :: t)) 0 (by omega)
        rw [S_li, List.drop_zero] at hx
        cases hx
        exact hb.symm
      rw [hb1] at hb0
      have hext : (S (c :: t)).extract 1 (S (c :: t)).size = S t := S_of (by rw [Ver.li_ext_end, S_li]; rfl)
      have h1l : (1 : Int) ≤ (S (c :: t)).size := by omega
      have hne : ((S (c :: t)).size : Int) ≠ 0 := by omega
      have hwn := wh_n c
      cases hc1 : wh c
      · have hG : G = c :: t := by rw [← HM.out]; exact skip_nw fun c' t' e => by cases e; exact hc1
        subst hG
        rw [hc1] at hwn
        have cw := fun w => ywhite_any c.toNat w
        rw [hwn] at cw
        have HY := Lib.hid hy
        have HC := Lib.hid hc
        have hh : hdN (c :: t) = c.toNat := rfl
        rw [← hh] at cw hb0
        obtain ⟨d, hd⟩ : ∃ d, hdN (c :: t) = d := ⟨_, rfl⟩
        rw [hd] at cw hb0
        have HD := Lib.hid hd
        clear hy hc HM HG hc1 hwn hb1 hext hh hz hml hfu hd
        generalize S (c :: t) = s at *
        go_wp2_with fail
        refine (cw _).mono ?_
        rintro e w1 ⟨rfl, rfl⟩
        go_wp2_with fail
        go_ret
        exact ⟨by rw [HD.out]; rfl, HY.out, HC.out⟩
      · obtain ⟨g', rfl⟩ : ∃ g', gk = g' + 1 := ⟨gk - 1, by omega⟩
        have hM2 : skip t = G := by
          have h := HM.out
          unfold skip at h ⊢
          rw [List.dropWhile_cons, hc1] at h
          exact h
        have HM2 := Lib.hid hM2
        rw [hc1] at hwn
        have cw := fun w => ywhite_any c.toNat w
        rw [hwn] at cw
        have HY2 := Lib.hid (hy.set t (by omega))
        have HC2 := Lib.hid (hc.setAt (b := p) (o := 0) (u := .string (S t)) rfl)
        clear hy hc HM HG hc1 hwn hb1 hz hml hM2
        generalize c.toNat = d at *
        rw [← hext] at HY2 HC2
        generalize S (c :: t) = s at *
        clear hext
        go_wp2_with fail
        refine (cw _).mono ?_
        rintro e w1 ⟨rfl, rfl⟩
        go_wp2_with fail
        go_roundg g'
        case measure => omega
        case rel => exact ⟨t, HY2.out, HC2.out, HM2.out, by omega⟩
theorem first_marks (c : UInt8) {k : Int} (h : Ver.FirstAt ⟨#[44, 124, 40, 41]⟩ c k) : (k < 0 ↔ mk c = false) := by
  have hl : li ⟨#[44, 124, 40, 41]⟩ = [44, 124, 40, 41] := rfl
  have key : Ver.cut1 c [44, 124, 40, 41] = none ↔ mk c = false := by
    have : ∀ x : BitVec 8, (Ver.cut1 ⟨x⟩ [44, 124, 40, 41] = none ↔ mk ⟨x⟩ = false) := by decide +kernel
    exact this c.toBitVec
  rcases h with ⟨rfl, h2⟩ | ⟨i, rfl, hi, h2⟩
  · rw [hl] at h2
    exact ⟨fun _ => key.1 h2, fun _ => by omega⟩
  · rw [hl] at h2
    constructor
    · intro h; omega
    · intro h
      rw [key.2 h] at h2
      cases h2
theorem yfirst_any (c : UInt8) (w : World) : Calls Tryz.prog 120 #[.string ⟨#[44, 124, 40, 41]⟩, .int .u8 c.toNat] w fun e w' => ∃ k : Int, e = .returned (.int .i64 k) ∧ (k < 0 ↔ mk c = false) ∧ w' = w :=
  (Ver.yfirst_any ⟨#[44, 124, 40, 41]⟩ c w (by decide)).mono fun e w' ⟨k, h1, h2, h3⟩ => ⟨k, h1, first_marks c h2, h3⟩
theorem yd_wh {c : UInt8} (h : wh c = true) : yd c = false := by unfold yd; rw [h]; rfl
def ydN (c : Nat) : Bool := !whN c && !mkN c
theorem yd_n (c : UInt8) : ydN c.toNat = yd c := by unfold yd ydN; rw [wh_n, mk_n]
theorem spq_yd (l : Bs) : spq ydN l = (l.takeWhile yd).length := by unfold spq; simp only [yd_n]
theorem byte_at (s : ByteArray) (k : Nat) (h : k < s.size) : ∃ x : UInt8, Txt.b s k = x.toNat := by
  obtain ⟨x, _, hb⟩ := li_drop s k h
  exact ⟨x, hb.symm⟩
set_option maxRecDepth 100000 in
set_option maxHeartbeats 4000000 in
theorem word_any (p : Nat) (l : Bs) (bad : Bool) (w : World) (h : Yx w p l bad) :
    Calls Tryz.prog 118 #[.pointer (some ⟨p, 0, none⟩)] w fun e w' => e = .returned (.string (S ((skip l).takeWhile yd))) ∧ Yx w' p ((skip l).dropWhile yd) bad ∧ Blk.Chg (fun k => k = p) w w' := by
  have cp := peek_any p l bad w h
  obtain ⟨m, hm⟩ : ∃ m, skip l = m := ⟨_, rfl⟩
  rw [hm] at cp ⊢
  clear hm h
  have hz : (S m).size = m.length := S_size m
  obtain ⟨G, hG⟩ : ∃ G, spq ydN (li (S m)) = G := ⟨_, rfl⟩
  have hGle : G ≤ (S m).size := by rw [← hG, ← li_len]; exact spq_le _ _
  have HG := Lib.hid hG
  have hG2 : (m.takeWhile yd).length = G := by rw [← spq_yd, ← hG, S_li]
  have e1 : S (m.takeWhile yd) = (S m).extract 0 G := (S_of (by rw [Ver.li_ext_zero _ _ hGle, S_li, ← hG2, take_tw])).symm
  have e2 : S (m.dropWhile yd) = (S m).extract G (S m).size := (S_of (by rw [Ver.li_ext_end, S_li, ← hG2, drop_tw])).symm
  have e3 : (m.dropWhile yd).length ≤ m.length := (List.dropWhile_sublist _).length_le
  have E3 := Lib.hid e3
  rw [e1]
  obtain ⟨s, hs⟩ : ∃ s, S m = s := ⟨_, rfl⟩
  rw [hs] at hz hGle HG e2 ⊢
  have E2 := Lib.hid e2
  have HS := Lib.hid hs
  have HZ := Lib.hid hz
  clear hG hG2 e1 e2 e3 hs hz
  go_enter Tryz.func118, Tryz.ntmps118
  go_wp2_with fail
  refine cp.mono ?_
  rintro e w1 ⟨rfl, k1, k2⟩
  have hml := k1.2
  have K1 := Lib.hid k1
  have K2 := Lib.hid k2
  obtain ⟨c0, c1, f0, f1⟩ := k1.cells
  rw [HS.out] at c0
  have hsz : s.size ≤ 4611686018427387904 := by rw [HZ.out]; exact hml
  clear cp k1 k2
  go_wp2_with fail
  go_loopg [3] s.size (fun gf s3 wx => ∃ k : Nat, s3 = .int .i64 k ∧ wx = w1 ∧ Hid (k + spq ydN ((li s).drop k) = G) ∧ k ≤ s.size ∧ s.size ≤ k + gf)
  case atStart => exact ⟨0, rfl, rfl, (by rw [List.drop_zero, Nat.zero_add]; exact HG.out), by omega, by omega⟩
  case round =>
    obtain ⟨k, rfl, rfl, HN, hks, hfu⟩ := hrel
    have hwr : IntKind.i64.wrap (k : Int) = (k : Int) := IntWalk.i64_in _ (by omega)
    by_cases hlt : k < s.size
    · obtain ⟨g', rfl⟩ : ∃ g', gk = g' + 1 := ⟨gk - 1, by omega⟩
      have hlt' : (k : Int) < (s.size : Int) := by omega
      have hk0 : (0 : Int) ≤ k := by omega
      obtain ⟨x, hx⟩ := byte_at s k hlt
      have hbc := Txt.b_eq s k hlt
      rw [hx] at hbc
      have hw1 := fun h => spq_more (q := ydN) hlt h HN.out
      have hw2 := fun h => spq_stop (q := ydN) hlt h HN.out
      rw [hx, yd_n] at hw1 hw2
      have cw := fun w => ywhite_any x.toNat w
      rw [wh_n] at cw
      have cf := fun w => yfirst_any x w
      have hl1 : (k : Int) ≤ s.size := by omega
      generalize hX : x.toNat = X at *
      cases hwx : wh x
      · rw [hwx] at cw
        cases hmx : mk x
        · have hyd : yd x = true := by unfold yd; rw [hwx, hmx]; rfl
          have HM := Lib.hid (hw1 hyd)
          have hmi : ∀ k' : Int, (k' < 0 ↔ mk x = false) → k' < 0 := fun k' h => h.2 hmx
          clear hw1 hw2 hyd HN hx hwx
          go_wp2_with fail
          refine (cw _).mono ?_
          rintro e w2 ⟨rfl, rfl⟩
          go_wp2_with fail
          refine (cf _).mono ?_
          rintro e w3 ⟨k', rfl, hk', rfl⟩
          have hkn := hmi k' hk'
          clear hk' hmi hmx
          go_wp2_with fail
          go_roundg g'
          case measure => omega
          case rel => exact ⟨k + 1, by go_num, rfl, HM, by omega, by omega⟩
        · have hyd : yd x = false := by unfold yd; rw [hwx, hmx]; rfl
          obtain rfl := hw2 hyd
          have hmi : ∀ k' : Int, (k' < 0 ↔ mk x = false) → ¬ k' < 0 := fun k' h h' => by rw [h.1 h'] at hmx; cases hmx
          clear hw1 hw2 hyd HN hx hwx HG
          go_wp2_with fail
          refine (cw _).mono ?_
          rintro e w2 ⟨rfl, rfl⟩
          go_wp2_with fail
          refine (cf _).mono ?_
          rintro e w3 ⟨k', rfl, hk', rfl⟩
          have hkn := hmi k' hk'
          clear hk' hmi hmx
          have HY2 := Lib.hid (K1.out.set (m.dropWhile yd) (by have := E3.out; omega))
          have HC2 := Lib.hid (K2.out.setAt (b := p) (o := 0) (u := .string (S (m.dropWhile yd))) rfl)
          rw [E2.out] at HY2 HC2
          go_wp2_with fail
          go_ret
          exact ⟨rfl, HY2.out, HC2.out⟩
      · rw [hwx] at cw
        have hyd : yd x = false := yd_wh hwx
        obtain rfl := hw2 hyd
        clear hw1 hw2 hyd HN hx hwx HG cf
        have HY2 := Lib.hid (K1.out.set (m.dropWhile yd) (by have := E3.out; omega))
        have HC2 := Lib.hid (K2.out.setAt (b := p) (o := 0) (u := .string (S (m.dropWhile yd))) rfl)
        rw [E2.out] at HY2 HC2
        go_wp2_with fail
        refine (cw _).mono ?_
        rintro e w2 ⟨rfl, rfl⟩
        go_wp2_with fail
        go_ret
        exact ⟨rfl, HY2.out, HC2.out⟩
    · have hge : ¬ (k : Int) < (s.size : Int) := by omega
      have hl1 : (k : Int) ≤ s.size := by omega
      obtain rfl := spq_end hlt HN.out
      clear HN HG
      have HY2 := Lib.hid (K1.out.set (m.dropWhile yd) (by have := E3.out; omega))
      have HC2 := Lib.hid (K2.out.setAt (b := p) (o := 0) (u := .string (S (m.dropWhile yd))) rfl)
      rw [E2.out] at HY2 HC2
      go_wp2_with fail
      go_ret
      exact ⟨rfl, HY2.out, HC2.out⟩
end Rl
end Go.Proofs.YtapmpdljapbpeaaGreatDoor
namespace Go.Proofs.YtapmpdljapbpeaaGreatDoor
open Go.RowKit
set_option linter.unusedSimpArgs false
set_option linter.unusedVariables false
namespace Rl
open Ver (Bs li li_len li_drop S S_self S_of S_size S_li below_drewN empty_is empty_no MaxLen Signs)
/-- The reference's reader, an atom that is being read, and the place of the result, in blocks that were made behind w. -/
structure Sy (w u : World) (p b : Nat) (l : Bs) (bad : Bool) (x y z : Value) : Prop where
  np : p < w.heap.size
  nb : w.heap.size < b
  rd : Yx u p l bad
  at' : Blk.Is u b 82 #[x, y, z]
  res : Blk.Is u w.heap.size 82 #[.string ⟨#[]⟩, .int .i64 0, .string ⟨#[]⟩]
  chg : Blk.Chg (fun k => k = p) w u
theorem Sy.cells {w u : World} {p b : Nat} {l : Bs} {bad : Bool} {x y z : Value} (h : Sy w u p b l bad x y z) : u.cell? ⟨b, 0, none⟩ = some x ∧ u.cell? ⟨b, 1, none⟩ = some y ∧ u.cell? ⟨b, 2, none⟩ = some z ∧ u.frozen? ⟨b, 0, none⟩ = false ∧ u.frozen? ⟨b, 1, none⟩ = false ∧ u.frozen? ⟨b, 2, none⟩ = false :=
  ⟨h.at'.at rfl, h.at'.at rfl, h.at'.at rfl, h.at'.free _, h.at'.free _, h.at'.free _⟩
theorem Sy.rcells {w u : World} {p b : Nat} {l : Bs} {bad : Bool} {x y z : Value} (h : Sy w u p b l bad x y z) : u.cell? ⟨w.heap.size, 0, none⟩ = some (.string ⟨#[]⟩) ∧ u.cell? ⟨w.heap.size, 1, none⟩ = some (.int .i64 0) ∧ u.cell? ⟨w.heap.size, 2, none⟩ = some (.string ⟨#[]⟩) ∧ u.frozen? ⟨w.heap.size, 0, none⟩ = false ∧ u.frozen? ⟨w.heap.size, 1, none⟩ = false ∧ u.frozen? ⟨w.heap.size, 2, none⟩ = false :=
  ⟨h.res.at rfl, h.res.at rfl, h.res.at rfl, h.res.free _, h.res.free _, h.res.free _⟩
theorem Sy.call {w u u' : World} {p b : Nat} {l l' : Bs} {bad bad' : Bool} {x y z : Value} (h : Sy w u p b l bad x y z) (hr : Yx u' p l' bad') (hc : Blk.Chg (fun k => k = p) u u') : Sy w u' p b l' bad' x y z := by
  have h1 := h.np
  have h2 := h.nb
  exact ⟨h1, h2, hr, hc.is h.at' (by omega), hc.is h.res (by omega), h.chg.trans hc⟩
theorem Sy.below {w u u' : World} {p b : Nat} {l : Bs} {bad : Bool} {x y z : Value} (h : Sy w u p b l bad x y z) (hb : Below u.heap.size u u') : Sy w u' p b l bad x y z :=
  ⟨h.np, h.nb, h.rd.below hb, is_on h.at' hb, is_on h.res hb, h.chg.trans (Blk.Chg.ofBelow' hb)⟩
theorem Sy.write {w u : World} {p b : Nat} {l : Bs} {bad : Bool} {x y z : Value} (h : Sy w u p b l bad x y z) (i : Nat) (v : Value) {x' y' z' : Value} (he : #[x', y', z'] = (#[x, y, z] : Array Value).setIfInBounds i v) : Sy w (u.setCell ⟨b, i, none⟩ v) p b l bad x' y' z' := by
  have h1 := h.np
  have h2 := h.nb
  have hc : Blk.Chg (fun k => k = b) u (u.setCell ⟨b, i, none⟩ v) := (Blk.Chg.refl (fun k => k = b) u).setAt rfl
  refine ⟨h1, h2, h.rd.chg hc (by omega), by rw [he]; exact h.at'.set i v, hc.is h.res (by omega), ?_⟩
  exact h.chg.setCell' (p := ⟨b, i, none⟩) (Nat.le_of_lt h2) v
theorem Sy.move {w u : World} {p b : Nat} {l : Bs} {bad : Bool} {x y z : Value} (h : Sy w u p b l bad x y z) (m : Bs) (hm : m.length ≤ 4611686018427387904) : Sy w (u.setCell ⟨p, 0, none⟩ (.string (S m))) p b m bad x y z :=
  h.call (h.rd.set m hm) ((Blk.Chg.refl (fun k => k = p) u).setAt rfl)
theorem Sy.flag {w u : World} {p b : Nat} {l : Bs} {bad : Bool} {x y z : Value} (h : Sy w u p b l bad x y z) (bad' : Bool) : Sy w (u.setCell ⟨p, 1, none⟩ (.bool bad')) p b l bad' x y z :=
  h.call (h.rd.flag bad') ((Blk.Chg.refl (fun k => k = p) u).setAt rfl)
theorem Sy.fin {w u : World} {p b : Nat} {l : Bs} {bad : Bool} {x y z : Value} (h : Sy w u p b l bad x y z) (x' y' z' : Value) :
    (((u.setCell ⟨w.heap.size, 0, none⟩ x').setCell ⟨w.heap.size, 1, none⟩ y').setCell ⟨w.heap.size, 2, none⟩ z').cell? ⟨w.heap.size, 0, none⟩ = some x' ∧
    (((u.setCell ⟨w.heap.size, 0, none⟩ x').setCell ⟨w.heap.size, 1, none⟩ y').setCell ⟨w.heap.size, 2, none⟩ z').cell? ⟨w.heap.size, 1, none⟩ = some y' ∧
    (((u.setCell ⟨w.heap.size, 0, none⟩ x').setCell ⟨w.heap.size, 1, none⟩ y').setCell ⟨w.heap.size, 2, none⟩ z').cell? ⟨w.heap.size, 2, none⟩ = some z' ∧
    Yx (((u.setCell ⟨w.heap.size, 0, none⟩ x').setCell ⟨w.heap.size, 1, none⟩ y').setCell ⟨w.heap.size, 2, none⟩ z') p l bad ∧
    Blk.Chg (fun k => k = p) w (((u.setCell ⟨w.heap.size, 0, none⟩ x').setCell ⟨w.heap.size, 1, none⟩ y').setCell ⟨w.heap.size, 2, none⟩ z') := by
  have h3 := ((h.res.set 0 x').set 1 y').set 2 z'
  have hc : Blk.Chg (fun k => k = w.heap.size) u (((u.setCell ⟨w.heap.size, 0, none⟩ x').setCell ⟨w.heap.size, 1, none⟩ y').setCell ⟨w.heap.size, 2, none⟩ z') :=
    (((Blk.Chg.refl (fun k => k = w.heap.size) u).setAt rfl).setAt rfl).setAt rfl
  have h1 := h.np
  refine ⟨h3.at rfl, h3.at rfl, h3.at rfl, h.rd.chg hc (by omega), ?_⟩
  exact ((h.chg.setCell' (p := ⟨w.heap.size, 0, none⟩) (Nat.le_refl _) x').setCell' (p := ⟨w.heap.size, 1, none⟩) (Nat.le_refl _) y').setCell' (p := ⟨w.heap.size, 2, none⟩) (Nat.le_refl _) z'
/-- What the reference's atom tells. -/
def PostY (w : World) (p : Nat) (o : Option (At × Bs)) (e : Ending) (w' : World) : Prop :=
  Blk.Chg (fun k => k = p) w w' ∧ match o with
    | none => ∃ a l, e = .returned (aV a) ∧ Yx w' p l true
    | some (a, r) => e = .returned (aV a) ∧ ∃ m, Yx w' p m false ∧ skip m = r
theorem tk_hd (l : Bs) (c : UInt8) (hc : c ≠ 0) : (tk c l = none ∧ hdN l ≠ c.toNat) ∨ ∃ t, l = c :: t ∧ hdN l = c.toNat := by
  cases l with
  | nil => exact .inl ⟨rfl, fun h => hc (by apply UInt8.toNat_inj.1; rw [← h]; rfl)⟩
  | cons x t =>
    by_cases h : x = c
    · subst h; exact .inr ⟨t, rfl, rfl⟩
    · exact .inl ⟨tk_ne h t, fun e => h (UInt8.toNat_inj.1 e)⟩
end Rl
end Go.Proofs.YtapmpdljapbpeaaGreatDoor

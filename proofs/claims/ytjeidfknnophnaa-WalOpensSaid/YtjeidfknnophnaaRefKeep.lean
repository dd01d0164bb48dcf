/-
A block of bytes that is no row of the reference's disk: it may be changed beside it. Write keeps it so.
-/
import Derived.Test.YtjeidfknnophnaaRefNew
namespace Go.Proofs.Ytjeidfknnophnaa
open Go.RowKit
set_option linter.unusedVariables false
namespace Ref
open Disk (Sec Secs St hasB)

def NoRow (w : World) (m : Rk) (g : Nat) : Prop :=
  ∀ b, (m.vn.ownBlock = some b ∨ m.vs.ownBlock = some b) → ∃ cs, Blk.Is w b 25 cs ∧ ∀ (i : Nat) x, i < m.n → cs[i]? = some x → x.ownBlock ≠ some g
theorem NoRow.chg {w w' : World} {m : Rk} {g : Nat} {S : Nat → Prop} (h : NoRow w m g) (hc : Blk.Chg S w w') (hv : ∀ b, (m.vn.ownBlock = some b ∨ m.vs.ownBlock = some b) → ¬ S b) : NoRow w' m g := fun b hb => by
  obtain ⟨cs, h1, h2⟩ := h b hb
  exact ⟨cs, hc.is h1 (hv b hb), h2⟩
theorem Tbl.noRow {w : World} {B n : Nat} {v : Value} {l : List (List Int)} (h : Tbl w B v n l) (g : Nat) (hg : w.heap.size ≤ g) (b : Nat) (hb : v.ownBlock = some b) :
    ∃ cs, Blk.Is w b 25 cs ∧ ∀ (i : Nat) x, i < n → cs[i]? = some x → x.ownBlock ≠ some g := by
  obtain ⟨_, cs, hcs⟩ := tbl_block h hb
  obtain ⟨vals, ho, hp⟩ := h.lies
  refine ⟨cs, hcs, fun i x hi hx e => ?_⟩
  obtain ⟨y, hy, hm⟩ := hp i hi
  rcases id ho.2 with ⟨h1, h2⟩ | ⟨g0, cap, cur, h1, _⟩
  · have : n = 0 := by rw [h1] at hb; simp [Value.ownBlock] at hb
    omega
  · subst h1
    have hbg : g0 = b := by simpa [Value.ownBlock] using hb
    subst hbg
    have hc := ho.cellAt i (by omega)
    rw [hcs.cell i, hx, hy] at hc
    cases hc
    have := (hm.block e).2.1
    omega
theorem At.noRow {w : World} {m : Rk} {s : St} (h : At w m s) (g : Nat) (hg : w.heap.size ≤ g) : NoRow w m g := fun b hb => by
  rcases hb with hb | hb
  · exact h.now.noRow g hg b hb
  · exact h.sure.noRow g hg b hb
theorem Tbl.chgBut {w w' : World} {B n g : Nat} {v : Value} {l : List (List Int)} (h : Tbl w B v n l) (hc : Blk.Chg (fun b => b = g) w w') (hn : ∀ b, v.ownBlock = some b → b ≠ g)
    (hr : ∀ b, v.ownBlock = some b → ∃ cs, Blk.Is w b 25 cs ∧ ∀ (i : Nat) x, i < n → cs[i]? = some x → x.ownBlock ≠ some g) : Tbl w' B v n l := by
  obtain ⟨vals, ho, hp⟩ := h.lies
  refine ⟨h.secs, h.few, vals, hc.owns ho hn, fun i hi => ?_⟩
  obtain ⟨x, hx, hm⟩ := hp i hi
  refine ⟨x, hx, hm.chg hc fun b hb e => ?_⟩
  subst e
  rcases id ho.2 with ⟨h1, h2⟩ | ⟨g0, cap, cur, h1, _⟩
  · have : n = 0 := by
      have := ho.1
      omega
    omega
  · subst h1
    obtain ⟨cs, h2, h3⟩ := hr g0 rfl
    have hcell := ho.cellAt i (by omega)
    rw [h2.cell i, hx] at hcell
    exact h3 i x hi hcell hb
theorem At.chgBut {w w' : World} {m : Rk} {s : St} {g : Nat} (h : At w m s) (hr : NoRow w m g) (hc : Blk.Chg (fun b => b = g) w w') (hn : ¬ m.Has g) : At w' m s :=
  ⟨hc.is h.obj (fun e => hn (.inl e.symm)), h.now.chgBut hc (fun b hb e => hn (.inr (.inl (e ▸ hb)))) (fun b hb => hr b (.inl hb)), h.sure.chgBut hc (fun b hb e => hn (.inr (.inr (e ▸ hb)))) (fun b hb => hr b (.inr hb)), h.base, h.apart, h.fuse0, h.fuse1⟩
theorem NoRow.stored {w : World} {m : Rk} {s : St} {g gb i : Nat} {x : Value} (h : NoRow w m g) (hx : x.ownBlock ≠ some g) : NoRow (w.setCell ⟨gb, i, none⟩ x) m g := fun b hb => by
  obtain ⟨cs, h1, h2⟩ := h b hb
  by_cases e : b = gb
  · subst e
    refine ⟨_, h1.set i x, fun j y hj hy => ?_⟩
    by_cases hij : i = j
    · subst hij
      rw [Array.getElem?_setIfInBounds] at hy
      simp only [if_true] at hy
      split at hy
      · cases hy; exact hx
      · cases hy
    · rw [Array.getElem?_setIfInBounds_ne hij] at hy
      exact h2 j y hj hy
  · exact ⟨cs, h1.setOther x (by exact e), h2⟩

set_option maxRecDepth 100000 in
theorem ref_write_fit (m : Rk) (s : St) (i : Int) (a : Option Addr) (cap : Nat) (zs : List Int) (w : World) (h : At w m s) (hc : s.calls < 4611686018427387904) (hr : Row w a 64 zs) (ha : ∀ x, a = some x → ¬ m.Has x.block) (hn : a = none → cap = 0) (ho : s.off = false) (hi : 0 ≤ i) (hi2 : i < m.n) :
    Calls Try.prog 28 #[m.ptr, .int .i64 i, .slice a 64 cap] w fun e w' => e = .returned (.int .i64 (s.writeErr i 64)) ∧ At w' m (refWrite s i zs) ∧ Blk.Chg m.Has w w' ∧ ∀ q, q < w.heap.size → NoRow w m q → NoRow w' m q := by
  have hcn := h.now.secs.count
  have hzl := hr.count
  have he := writeErr_eq s i 64
  have HC := Lib.hid h
  unfold Rk.ptr
  rw [ho, if_neg (by simp)] at he
  have h7 : callErr s = 0 := by simp [callErr, ho]
  have H7 := Lib.hid h7
  have hyes : (hasB i s.now.length && ((64 : Nat) == 64)) = true := by simp [hasB, hcn, hi, hi2]
  have hw : refWrite s i zs = s.call.put i zs := by
    rw [refWrite, ho, hzl, Bool.not_false, Bool.true_and, hyes]; rfl
  rw [hyes, if_pos rfl] at he
  have HW := Lib.hid hw
  have HE := Lib.hid he
  have HR := Lib.hid hr
  have hd : decide (i < 0) = false := by simpa using hi
  have hd2 : decide ((m.n : Int) ≤ i) = false := by simpa using hi2
  have hz : Sec zs := ⟨hzl, hr.byt⟩
  clear hw he h hr ho hcn hzl h7 hyes
  go_enter Try.func28, Try.ntmps28
  go_wp2_with fail
  refine (call_any m s _ HC.out hc).mono ?_
  rintro e w1 ⟨rfl, h1, b1⟩
  rw [H7.out]
  have hr1 := HR.out.keep b1 (fun _ b off e k => ha _ e (.inl k))
  have hno1 : ∀ q, NoRow w m q → NoRow w1 m q := fun q hq => hq.chg b1 fun b hb e => by
    subst e
    rcases hb with hb | hb
    · obtain ⟨_, c, k⟩ := tbl_block HC.out.now hb; exact (Blk.Is.ne k HC.out.obj (by decide)) rfl
    · obtain ⟨_, c, k⟩ := tbl_block HC.out.sure hb; exact (Blk.Is.ne k HC.out.obj (by decide)) rfl
  have hsz := b1.size
  have b1 : Blk.Chg m.Has w w1 := b1.mono fun k _ hk => .inl hk
  obtain ⟨g, cap1, a1, c1, hv, hg, hob, hfr, ⟨hcell, hle, hba, hby, hrow⟩⟩ := h1.now.place i.toNat (by omega)
  have c0 := h1.flds.c0
  rw [hv] at c0
  have hne : m.p ≠ g := by
    rintro rfl
    obtain ⟨_, cg, kg⟩ := tbl_block h1.now hob
    exact (Blk.Is.ne kg h1.obj (by decide)) rfl
  have K0 : KeepW w1.drew m.p g i.toNat (.slice (some ⟨g, 0, none⟩) m.n cap1) := ⟨c0, by rw [World.cell?_drew, hcell]; rfl, by rw [World.frozen?_drew]; exact hfr _⟩
  have k0 : ∀ u, KeepW u m.p g i.toNat (.slice (some ⟨g, 0, none⟩) m.n cap1) → u.cell? ⟨m.p, 0, none⟩ = some (.slice (some ⟨g, 0, none⟩) m.n cap1) := fun u hu => hu.head
  have k1 : ∀ u, KeepW u m.p g i.toNat (.slice (some ⟨g, 0, none⟩) m.n cap1) → u.cell? ⟨g, i.toNat, none⟩ = some (atC u g i.toNat) := fun u hu => hu.at
  have k2 : ∀ u, KeepW u m.p g i.toNat (.slice (some ⟨g, 0, none⟩) m.n cap1) → u.frozen? ⟨g, i.toNat, none⟩ = false := fun u hu => hu.free
  have HK0 := Lib.hid K0
  have H1 := Lib.hid h1
  have HV := Lib.hid hv
  have HNO := Lib.hid hno1
  have HSZ := Lib.hid hsz
  have HR1 := Lib.hid (hr1.below (Below.refl _ _).drew)
  have hbm : m.B ≤ w1.drew.heap.size := by have := h1.obj.lt; have := h1.base; show m.B ≤ w1.heap.size; omega
  clear K0 h1 hv hob hfr hcell hby hrow hr1 hno1 hsz
  go_wp2_with fail
  go_region_held3 (fun u => KeepW u m.p g i.toNat (.slice (some ⟨g, 0, none⟩) m.n cap1))
    (first | exact HK0.out | (refine HK0.out.grown ?_; assumption) | (refine KeepW.set ?_ hne _; assumption))
    ((refine step_append_bytes rfl (.const (.slice none 0 0)) (.tmp 40) rfl w1.drew.heap.size _ [] rfl (mine_none _ _) a 64 cap rfl zs HR1.out hn (by show 0 + 64 ≤ _; omega) (Nat.le_refl _) ?_; intro vA wA hmA hgA; obtain ⟨nA, aA, cA, rfl, hcA, hlA, hrA⟩ := hmA.rows))
  have hgA : w1.drew.grownBy wA none := hgA
  have hcA2 : Blk.Chg (fun _ => False) w1.drew wA := (Blk.Chg.refl _ _).grown hgA (by simp)
  have h2 := H1.out.drew.chg hcA2 (by simp) (by simp)
  have hnew : ∀ q, q < w.heap.size → (Value.slice aA nA cA).ownBlock ≠ some q := fun q hq e => by
    have h8 := (hmA.block e).1
    have h9 : w1.heap.size ≤ q := h8
    have := HSZ.out
    omega
  obtain ⟨g1, g2⟩ := h2.put i.toNat (by omega) HV.out _ zs hz (hmA.mono hbm) rfl
  have hfin := b1.trans ((Blk.Chg.ofDrew (hcA2.mono (S' := m.Has) (by intro k _ hk; exact hk.elim))).trans g2)
  have hnf : ∀ q, q < w.heap.size → NoRow w m q → NoRow (wA.setCell ⟨g, i.toNat, none⟩ (.slice aA nA cA)) m q := fun q hq hr =>
    NoRow.stored (s := s) ((HNO.out q hr).chg (Blk.Chg.ofDrew hcA2) (by simp)) (hnew q hq)
  have HNF := Lib.hid hnf
  clear k0 k1 k2 hmA hlA hrA hgA hcA2 h2 hnew hnf
  go_wp2_with fail
  refine (end_any _ _ _).mono ?_
  rintro e w' ⟨rfl, rfl⟩
  go_wp2
  go_ret
  exact ⟨by rw [HE.out]; rfl, by rw [HW.out]; exact g1, hfin, HNF.out⟩
end Ref
end Go.Proofs.Ytjeidfknnophnaa

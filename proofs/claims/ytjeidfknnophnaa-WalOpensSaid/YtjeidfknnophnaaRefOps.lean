/-
The contracts of the reference's Read, Write, Flush.
-/
import Derived.Test.YtjeidfknnophnaaRefMem
import Derived.Test.YtjeidfknnophnaaDiskWrites
namespace Go.Proofs.Ytjeidfknnophnaa
open Go.RowKit
set_option linter.unusedVariables false
namespace Ref
open Disk (Sec Secs St hasB)

def refWrite (s : St) (i : Int) (zs : List Int) : St := if !s.off && hasB i s.now.length && (zs.length == 64) then s.call.put i zs else s.call
theorem writeErr_eq (s : St) (i : Int) (len : Nat) : s.writeErr i len = if s.off then 7 else endErr (if hasB i s.now.length && (len == 64) then 0 else 1) (callLast s) := by
  unfold St.writeErr endErr callLast St.count
  cases s.off
  · by_cases h : s.fuse = 1 <;> simp [h]
  · simp

theorem At.put {w w' m s} (h : At w m s) (i : Nat) (hi : i < m.n) {g cap : Nat} (hv : m.vn = .slice (some ⟨g, 0, none⟩) m.n cap) (x : Value) (r : List Int) (hr : Sec r) (hx : Mine w m.B x r) (hw : w' = w.setCell ⟨g, i, none⟩ x) :
    At w' m (s.put i r) ∧ Blk.Chg m.Has w w' := by
  have hob : m.vn.ownBlock = some g := by rw [hv]; rfl
  have hc : Blk.Chg (fun k => k = g) w w' := by rw [hw]; exact Blk.Chg.setAt (Blk.Chg.refl _ w) rfl
  obtain ⟨_, cg, kg⟩ := tbl_block h.now hob
  have hu : ∀ b cur, Blk.Is w b 5 cur → ¬ b = g := by
    rintro b cur hb rfl
    exact (Blk.Is.ne hb kg (by decide)) rfl
  refine ⟨⟨hc.is h.obj (by rintro rfl; exact (Blk.Is.ne kg h.obj (by decide)) rfl), ?_, h.sure.chg hc (fun b hb e => h.apart g hob (e ▸ hb)) hu, h.base, h.apart, h.fuse0, h.fuse1⟩, hc.mono fun k _ hk => .inr (.inl (by rw [hob, hk]))⟩
  have := h.now
  rw [hv] at this
  rw [hv]
  exact this.set i hi x r hr hx hw

/-- The walk's own keeping, in Write's last statement. -/
structure KeepW (u : World) (p g i : Nat) (v : Value) : Prop where
  head : u.cell? ⟨p, 0, none⟩ = some v
  cell : (u.cell? ⟨g, i, none⟩).isSome = true
  free : u.frozen? ⟨g, i, none⟩ = false
def atC (u : World) (g i : Nat) : Value := (u.cell? ⟨g, i, none⟩).getD undef
theorem KeepW.at {u p g i v} (h : KeepW u p g i v) : u.cell? ⟨g, i, none⟩ = some (atC u g i) := by
  obtain ⟨x, hx⟩ := Option.isSome_iff_exists.1 h.cell
  rw [atC, hx]; rfl
theorem KeepW.grown {u u' p g i v} (h : KeepW u p g i v) (hg : u.grownBy u' none) : KeepW u' p g i v := by
  obtain ⟨x, hx⟩ := Option.isSome_iff_exists.1 h.cell
  refine ⟨hg.cell h.head (by simp), by rw [hg.cell hx (by simp)]; rfl, ?_⟩
  rw [World.frozen?_of_block (hg.block g (block_lt_of_cell hx) (by simp))]; exact h.free
theorem KeepW.set {u p g i v} (h : KeepW u p g i v) (hne : p ≠ g) (x : Value) : KeepW (u.setCell ⟨g, i, none⟩ x) p g i v := by
  refine ⟨by rw [World.cell?_setCell_other _ _ _ _ (by intro e; cases e; exact hne rfl)]; exact h.head, ?_, ?_⟩
  · rw [World.cell?_setCell_same _ _ _ h.at]; rfl
  · have := h.free
    simpa using this

set_option maxRecDepth 100000 in
theorem ref_write_any (m : Rk) (s : St) (i : Int) (a : Option Addr) (len cap : Nat) (zs : List Int) (w : World) (h : At w m s) (hc : s.calls < 4611686018427387904) (hr : Row w a len zs) (ha : ∀ x, a = some x → ¬ m.Has x.block) (hn : a = none → cap = 0) :
    Calls Try.prog 28 #[m.ptr, .int .i64 i, .slice a len cap] w fun e w' => e = .returned (.int .i64 (s.writeErr i len)) ∧ At w' m (refWrite s i zs) ∧ Blk.Chg m.Has w w' := by
  have hcn := h.now.secs.count
  have hzl := hr.count
  have he := writeErr_eq s i len
  have HC := Lib.hid h
  obtain ⟨a0, cap0, hv0, hcap0⟩ := h.now.shape
  have hlen0 : len ≤ 9223372036854775807 := hr.short
  unfold Rk.ptr
  cases ho : s.off with
  | true =>
    have hw : refWrite s i zs = s.call := by simp [refWrite, ho]
    have h7 : callErr s = 7 := by simp [callErr, ho]
    rw [ho, if_pos rfl] at he
    have HW := Lib.hid hw
    have HE := Lib.hid he
    have H7 := Lib.hid h7
    clear hw he h hr ho hcn hzl hv0 h7
    go_enter Try.func28, Try.ntmps28
    go_wp2_with fail
    refine (call_any m s _ HC.out hc).mono ?_
    rintro e w1 ⟨rfl, h1, b1⟩
    rw [H7.out]
    go_wp2
    go_ret
    exact ⟨by rw [HE.out]; rfl, by rw [HW.out]; exact h1, b1.mono fun k _ hk => .inl hk⟩
  | false =>
    rw [ho, if_neg (by simp)] at he
    have h7 : callErr s = 0 := by simp [callErr, ho]
    have H7 := Lib.hid h7
    by_cases hfit : 0 ≤ i ∧ i < m.n ∧ len = 64
    · obtain ⟨hi, hi2, rfl⟩ := hfit
      have hyes : (hasB i s.now.length && ((64 : Nat) == 64)) = true := by simp [hasB, hcn, hi, hi2]
      have hw : refWrite s i zs = s.call.put i zs := by
        rw [refWrite, ho, hzl, Bool.not_false, Bool.true_and, hyes]; rfl
      rw [hyes, if_pos rfl] at he
      have HW := Lib.hid hw
      have HE := Lib.hid he
      have HR := Lib.hid hr
      have hd : decide (i < 0) = false := by simpa using hi
      have hd2 : decide ((m.n : Int) ≤ i) = false := by simpa using hi2
      have hz : Sec zs := ⟨hzl, hr.byt⟩
      clear hw he h hr ho hcn hzl hv0 h7 hyes hcap0
      go_enter Try.func28, Try.ntmps28
      go_wp2_with fail
      refine (call_any m s _ HC.out hc).mono ?_
      rintro e w1 ⟨rfl, h1, b1⟩
      rw [H7.out]
      have hr1 := HR.out.keep b1 (fun _ b off e k => ha _ e (.inl k))
      have b1 : Blk.Chg m.Has w w1 := b1.mono fun k _ hk => .inl hk
      obtain ⟨g, cap1, a1, c1, hv, hg, hob, hfr, ⟨hcell, hle, hba, hby, hrow⟩⟩ := h1.now.place i.toNat (by omega)
      have c0 := h1.flds.c0
      rw [hv] at c0
      have hne : m.p ≠ g := by
        rintro rfl
        obtain ⟨_, cg, kg⟩ := tbl_block h1.now hob
        exact (Blk.Is.ne kg h1.obj (by decide)) rfl
      have K0 : KeepW w1.drew m.p g i.toNat (.slice (some ⟨g, 0, none⟩) m.n cap1) := ⟨c0, by rw [World.cell?_drew, hcell]; rfl, by rw [World.frozen?_drew]; exact hfr _⟩
      have k0 : ∀ u, KeepW u m.p g i.toNat (.slice (some ⟨g, 0, none⟩) m.n cap1) → u.cell? ⟨m.p, 0, none⟩ = some (.slice (some ⟨g, 0, none⟩) m.n cap1) := fun u hu => hu.head
      have k1 : ∀ u, KeepW u m.p g i.toNat (.slice (some ⟨g, 0, none⟩) m.n cap1) → u.cell? ⟨g, i.toNat, none⟩ = some (atC u g i.toNat) := fun u hu => hu.at
      have k2 : ∀ u, KeepW u m.p g i.toNat (.slice (some ⟨g, 0, none⟩) m.n cap1) → u.frozen? ⟨g, i.toNat, none⟩ = false := fun u hu => hu.free
      have HK0 := Lib.hid K0
      have H1 := Lib.hid h1
      have HV := Lib.hid hv
      have HR1 := Lib.hid (hr1.below (Below.refl _ _).drew)
      have hbm : m.B ≤ w1.drew.heap.size := by have := h1.obj.lt; have := h1.base; show m.B ≤ w1.heap.size; omega
      clear K0 h1 hv hob hfr hcell hby hrow hr1
      go_wp2_with fail
      go_region_held3 (fun u => KeepW u m.p g i.toNat (.slice (some ⟨g, 0, none⟩) m.n cap1))
        (first | exact HK0.out | (refine HK0.out.grown ?_; assumption) | (refine KeepW.set ?_ hne _; assumption))
        ((refine step_append_bytes rfl (.const (.slice none 0 0)) (.tmp 40) rfl m.B _ [] rfl (mine_none _ _) a 64 cap rfl zs HR1.out hn (by show 0 + 64 ≤ _; omega) hbm ?_; intro vA wA hmA hgA; obtain ⟨nA, aA, cA, rfl, hcA, hlA, hrA⟩ := hmA.rows))
      have hgA : w1.drew.grownBy wA none := hgA
      have hcA2 : Blk.Chg (fun _ => False) w1.drew wA := (Blk.Chg.refl _ _).grown hgA (by simp)
      have h2 := H1.out.drew.chg hcA2 (by simp) (by simp)
      obtain ⟨g1, g2⟩ := h2.put i.toNat (by omega) HV.out _ zs hz hmA rfl
      have hfin := b1.trans ((Blk.Chg.ofDrew (hcA2.mono (S' := m.Has) (by intro k _ hk; exact hk.elim))).trans g2)
      clear k0 k1 k2 hmA hlA hrA hgA hcA2 h2
      go_wp2_with fail
      refine (end_any _ _ _).mono ?_
      rintro e w' ⟨rfl, rfl⟩
      go_wp2
      go_ret
      exact ⟨by rw [HE.out]; rfl, by rw [HW.out]; exact g1, hfin⟩
    · have hno : (hasB i s.now.length && (len == 64)) = false := by
        rw [Bool.eq_false_iff]
        intro hx
        simp only [hasB, Bool.and_eq_true, decide_eq_true_eq, beq_iff_eq, hcn] at hx
        exact hfit ⟨hx.1.1, hx.1.2, hx.2⟩
      have hw : refWrite s i zs = s.call := by
        rw [refWrite, ho, hzl, Bool.not_false, Bool.true_and, hno]; rfl
      rw [hno, if_neg (by simp)] at he
      have HW := Lib.hid hw
      have HE := Lib.hid he
      rcases (show i < 0 ∨ 0 ≤ i ∧ (m.n : Int) ≤ i ∨ (0 ≤ i ∧ i < m.n) ∧ len ≠ 64 by omega) with hi | ⟨hi, hi2⟩ | ⟨⟨hi, hi2⟩, hl⟩
      · have hd : decide (i < 0) = true := by simpa using hi
        clear hw he h hr ho hcn hzl hv0 h7 hno hfit
        go_enter Try.func28, Try.ntmps28
        go_wp2_with fail
        refine (call_any m s _ HC.out hc).mono ?_
        rintro e w1 ⟨rfl, h1, b1⟩
        rw [H7.out]
        go_wp2_with fail
        refine (end_any _ _ _).mono ?_
        rintro e w' ⟨rfl, rfl⟩
        go_wp2
        go_ret
        exact ⟨by rw [HE.out]; rfl, by rw [HW.out]; exact h1, b1.mono fun k _ hk => .inl hk⟩
      all_goals
        have hd : decide (i < 0) = false := by simpa using hi
      · have hd2 : decide ((m.n : Int) ≤ i) = true := by simpa using hi2
        have HV := Lib.hid hv0
        clear hw he h hr ho hcn hzl hv0 h7 hno hfit
        go_enter Try.func28, Try.ntmps28
        go_wp2_with fail
        refine (call_any m s _ HC.out hc).mono ?_
        rintro e w1 ⟨rfl, h1, b1⟩
        have c0 := h1.flds.c0
        rw [HV.out] at c0
        have H1 := Lib.hid h1
        clear h1
        rw [H7.out]
        go_wp2_with fail
        refine (end_any _ _ _).mono ?_
        rintro e w' ⟨rfl, rfl⟩
        go_wp2
        go_ret
        exact ⟨by rw [HE.out]; rfl, by rw [HW.out]; exact H1.out, b1.mono fun k _ hk => .inl hk⟩
      · have hd2 : decide ((m.n : Int) ≤ i) = false := by simpa using hi2
        have hl2 : ((len : Int) != 64) = true := by rw [bne_iff_ne]; omega
        have HV := Lib.hid hv0
        clear hw he h hr ho hcn hzl hv0 h7 hno hfit
        go_enter Try.func28, Try.ntmps28
        go_wp2_with fail
        refine (call_any m s _ HC.out hc).mono ?_
        rintro e w1 ⟨rfl, h1, b1⟩
        have c0 := h1.flds.c0
        rw [HV.out] at c0
        have H1 := Lib.hid h1
        clear h1
        rw [H7.out]
        go_wp2_with fail
        refine (end_any _ _ _).mono ?_
        rintro e w' ⟨rfl, rfl⟩
        go_wp2
        go_ret
        exact ⟨by rw [HE.out]; rfl, by rw [HW.out]; exact H1.out, b1.mono fun k _ hk => .inl hk⟩

theorem mine_one {w : World} {B : Nat} {x : Value} {r : List Int} (h : Mine w B x r) : x.oneCell' = true := by
  obtain ⟨n, a, cap, rfl, _⟩ := h.rows
  rfl
theorem Tbl.runCopy (ty : TypeId) {w B v v' n l l'} (h : Tbl w B v n l) (k : Tbl w B v' n l') : ∃ w', (Builtin.copy_ #[26, 26] ty #[v, v']).run Try.prog w = .ok (goInt n) w' ∧ Tbl w' B v n l' ∧ Blk.Chg (fun b => v.ownBlock = some b) w w' := by
  obtain ⟨vals, ho, hp⟩ := h.lies
  obtain ⟨vals', ho', hp'⟩ := k.lies
  have hl' : vals'.length = n := by rw [ho'.1, Nat.mul_one]
  rcases id ho.2 with ⟨rfl, rfl⟩ | ⟨g, cap, cur, rfl, hg, hh, hn, hcap, hsz, htk⟩
  · obtain ⟨a, c, rfl, _⟩ := k.shape
    refine ⟨w, Blk.run_copy_zero w 26 26 ty 25 1 none a 0 0 0 c Try.underlying26 sizeBytes rfl, ?_, Blk.Chg.refl _ _⟩
    exact ⟨k.secs, k.few, vals, ho, fun i hi => absurd hi (by omega)⟩
  · have hne : ∀ y ys, Mine w B y ys → ∀ b, y.ownBlock = some b → ¬ b = g := by
      rintro y ys hm b hb rfl
      obtain ⟨_, _, c2, hc⟩ := hm.block hb
      exact (Blk.Is.ne hc (show Blk.Is w b _ _ from hh) (by decide)) rfl
    have hone : ∀ x ∈ vals', x.oneCell' = true := by
      intro x hx
      obtain ⟨i, hi, rfl⟩ := List.getElem_of_mem hx
      obtain ⟨y, hy, hm⟩ := hp' i (by omega)
      rw [List.getElem?_eq_getElem hi] at hy
      cases hy
      exact mine_one hm
    have hsrc : 0 < vals'.length → ∃ a cap', v' = .slice (some a) n cap' ∧ ∀ j x, vals'[j]? = some x → w.cell? (a.add j) = some x := by
      intro h0
      rcases id ho'.2 with ⟨_, h1⟩ | ⟨g', cap', cur', rfl, _, hh', _⟩
      · omega
      · exact ⟨_, cap', rfl, ho'.cells rfl⟩
    have hrun : ∃ a cap', v' = .slice a n cap' ∧ (0 < vals'.length → ∃ x, a = some x ∧ ∀ j y, vals'[j]? = some y → w.cell? (x.add j) = some y) := by
      by_cases h0 : 0 < vals'.length
      · obtain ⟨a, cap', e, hx⟩ := hsrc h0
        exact ⟨some a, cap', e, fun _ => ⟨a, rfl, hx⟩⟩
      · obtain ⟨a, cap', e, _⟩ := k.shape
        exact ⟨a, cap', e, fun h1 => absurd h1 h0⟩
    obtain ⟨a, cap', rfl, hx⟩ := hrun
    have hr := Blk.run_copy_sz (P := Try.prog) w 26 26 ty 25 1 g 0 n cap a n cap' cur 25 vals' Try.underlying26 sizeBytes hh (by rw [hl', show Nat.min n n = n from Nat.min_self n, Nat.mul_one]) hx (by omega) hone
    rw [show Nat.min n n = n from Nat.min_self n] at hr
    have hc : Blk.Chg (fun b => b = g) w (w.setRow g (Blk.over cur.toList 0 vals').toArray) := Blk.Chg.setRow (S := fun b => b = g) (Blk.Chg.refl _ w) rfl _
    refine ⟨_, hr, ⟨k.secs, k.few, vals', ⟨by rw [hl', Nat.mul_one], .inr ⟨g, cap, _, rfl, hg, Blk.Is.row (show Blk.Is w g _ _ from hh) _, hn, hcap, ?_, ?_⟩⟩, fun i hi => ?_⟩, hc.mono fun b _ e => by rw [e]; rfl⟩
    · simp only [Blk.over, List.size_toArray, List.length_append, List.length_take, List.length_drop, Array.length_toList]
      omega
    · simp only [Blk.over, List.take_zero, List.nil_append]
      rw [Nat.mul_one, List.take_append, hl', Nat.sub_self, List.take_zero, List.append_nil, List.take_of_length_le (by omega)]
    · obtain ⟨y, hy, hm⟩ := hp' i hi
      exact ⟨y, hy, hm.chg hc (hne y _ hm)⟩

def refFlush (s : St) : St := if s.off || callLast s then s.call else s.call.flushed
theorem flushErr_eq (s : St) : s.flushErr = if s.off then 7 else endErr 0 (callLast s) := by
  unfold St.flushErr endErr callLast St.count
  cases s.off
  · by_cases h : s.fuse = 1 <;> simp [h]
  · simp
theorem At.flushed {w m s} (h : At w m s) (ty : TypeId) : ∃ w', (Builtin.copy_ #[26, 26] ty #[m.vs, m.vn]).run Try.prog w = .ok (goInt m.n) w' ∧ At w' m s.flushed ∧ Blk.Chg m.Has w w' := by
  obtain ⟨w', hr, ht, hc⟩ := Tbl.runCopy ty h.sure h.now
  have hu : ∀ b cur, Blk.Is w b 5 cur → ¬ m.vs.ownBlock = some b := fun b cur hb e => h.bytes b cur hb (.inr (.inr e))
  refine ⟨w', hr, ⟨hc.is h.obj ?_, h.now.chg hc (fun b hb e => h.apart b hb e) hu, ht, h.base, h.apart, h.fuse0, h.fuse1⟩, hc.mono fun k _ e => .inr (.inr e)⟩
  intro e
  obtain ⟨_, c, k⟩ := tbl_block h.sure e
  exact (Blk.Is.ne k h.obj (by decide)) rfl
end Ref
end Go.Proofs.Ytjeidfknnophnaa

/-
The contracts of the program's disk: Flush, Write.
-/
import Derived.Test.YtjeidfknnophnaaDiskOps
namespace Go.Proofs.Ytjeidfknnophnaa
open Go.RowKit
set_option linter.unusedVariables false
namespace Disk

/-- Flush: the disk behind it, and what it tells. -/
def St.flush (s : St) : St := if s.count.off then s.count else s.count.flushed
def St.flushErr (s : St) : Int := if s.count.off then 7 else 0

theorem At.flushed {w w' d s} (h : At w d s) (cur : Array Value) (h1 : Blk.Is w d.bs 81 cur) (hw : w' = w.setRow d.bs (Blk.over cur.toList 0 (bcells s.now.flatten)).toArray) : At w' d s.flushed ∧ Blk.Chg d.Has w w' := by
  have hc : Blk.Chg (fun k => k = d.bs) w w' := by rw [hw]; exact Blk.Chg.setRow (S := fun k => k = d.bs) (Blk.Chg.refl _ w) rfl _
  refine ⟨⟨hc.is h.obj h.ne.2, h.now.chg hc h.apart, h.sure.copied _ h.now.secs cur h1 (by rw [hw]; exact h1.row _), h.apart, h.fuse0, h.fuse1⟩, hc.mono fun k _ hk => .inr (.inr hk)⟩
theorem Mem.runCopy {w b n cap l b' cap' l'} (ty : TypeId) (h : Mem w b n cap l) (k : Mem w b' n cap' l') (cur : Array Value) (h1 : Blk.Is w b 81 cur) :
    (Builtin.copy_ #[64, 64] ty #[.slice (some ⟨b, 0, none⟩) n cap, .slice (some ⟨b', 0, none⟩) n cap']).run Try.prog w = .ok (goInt n) (w.setRow b (Blk.over cur.toList 0 (bcells l'.flatten)).toArray) := by
  obtain ⟨cur1, g1, g2, g3⟩ := h.lies
  obtain ⟨cur2, k1, k2, k3⟩ := k.lies
  obtain rfl := (h1.inj g1).2
  have hf := k.secs.flat
  have hle := h.le
  have := Blk.run_copy_sz (P := Try.prog) w 64 64 ty 81 64 b 0 n cap (some ⟨b', 0, none⟩) n cap' cur 81 (bcells l'.flatten) Try.underlying64 sizeSector h1
    (by rw [bcells_length, hf, show Nat.min n n = n from Nat.min_self n]) (fun _ => ⟨_, rfl, fun j v hv => by
      have hj : j < l'.flatten.length := by simpa using (List.getElem?_eq_some_iff.1 hv).1
      rw [Addr.add_mid, Nat.zero_add, k1.at (take_at k3 hf j (by omega)), ← hv, bcells_at _ _ hj]⟩) (by rw [bcells_length, hf]; omega) (bcells_one _)
  rw [this, show Nat.min n n = n from Nat.min_self n]

theorem flush_any (d : Dk) (s : St) (w : World) (h : At w d s) (hc : s.calls < 4611686018427387904) :
    Calls Try.prog 38 #[d.ptr] w fun e w' => e = .returned (.int .i64 s.flushErr) ∧ At w' d s.flush ∧ Blk.Chg d.Has w w' := by
  unfold Dk.ptr
  have H := Lib.hid h
  clear h
  go_enter Try.func38, Try.ntmps38
  go_wp2_with fail
  refine (count_any d s _ H.out hc).mono ?_
  rintro e w1 ⟨rfl, h1, b1⟩
  have b1 : Blk.Chg d.Has w w1 := b1.mono fun k _ hk => .inl hk
  obtain ⟨c0, c1, c2, c3, c4, f⟩ := h1.flds
  clear f c2 c3
  cases ho : s.count.off with
  | true =>
    have hf : s.flush = s.count := by simp [St.flush, ho]
    have he : s.flushErr = 7 := by simp [St.flushErr, ho]
    rw [ho] at c4
    have HF := Lib.hid hf
    have HE := Lib.hid he
    have H1 := Lib.hid h1
    clear hf he ho h1
    go_wp2
    go_ret
    exact ⟨by rw [HE.out]; rfl, by rw [HF.out]; exact H1.out, b1⟩
  | false =>
    have hf : s.flush = s.count.flushed := by simp [St.flush, ho]
    have he : s.flushErr = 0 := by simp [St.flushErr, ho]
    rw [ho] at c4
    obtain ⟨cur, k1, k2, k3⟩ := h1.sure.lies
    have hr := fun ty => Mem.runCopy ty h1.drew.sure h1.drew.now cur k1.drew
    have hn := h1.drew.flushed cur k1.drew rfl
    have HF := Lib.hid hf
    have HE := Lib.hid he
    have H1 := Lib.hid h1
    have HR := Lib.hid hr
    have HN := Lib.hid hn
    clear hf he ho h1 hr hn k1 k2 k3
    go_wp2_with fail
    go_region_law ((refine Blk.step_copy rfl (.tmp 14) (.tmp 18) 64 64 rfl rfl rfl (HR.out _) ?_))
    all_goals
      go_wp2
      go_ret
      exact ⟨by rw [HE.out]; rfl, by rw [HF.out]; exact HN.out.1, b1.trans (Blk.Chg.ofDrew HN.out.2)⟩

/-- Write: the disk behind it, and what it tells. -/
def St.write (s : St) (i : Int) (zs : List Int) : St := if !s.off && hasB i s.now.length && (zs.length == 64) then s.count.put i zs else s.count
def St.writeErr (s : St) (i : Int) (len : Nat) : Int := if s.count.off then 7 else if hasB i s.now.length && (len == 64) then 0 else 1

theorem At.put {w w' d s} (h : At w d s) (i : Int) (h0 : 0 ≤ i) (hi : i < d.n) (zs : List Int) (hz : Sec zs) (cur : Array Value) (h1 : Blk.Is w d.br 81 cur) (hw : w' = w.setRow d.br (Blk.over cur.toList (i.toNat * 64) (bcells zs)).toArray) : At w' d (s.put i zs) ∧ Blk.Chg d.Has w w' := by
  have hc : Blk.Chg (fun k => k = d.br) w w' := by rw [hw]; exact Blk.Chg.setRow (S := fun k => k = d.br) (Blk.Chg.refl _ w) rfl _
  refine ⟨⟨hc.is h.obj h.ne.1, h.now.stored i.toNat (by omega) zs hz cur h1 (by rw [hw]; exact h1.row _), h.sure.chg hc (fun e => h.apart e.symm), h.apart, h.fuse0, h.fuse1⟩, hc.mono fun k _ hk => .inr (.inl hk)⟩

theorem write_yes (d : Dk) (s : St) (i : Int) (a : Option Addr) (len cap : Nat) (zs : List Int) (w : World) (h : At w d s) (hc : s.calls < 4611686018427387904) (hr : Row w a len zs) (ha : ∀ b off, a = some ⟨b, off, none⟩ → ¬ d.Has b)
    (hoff : s.off = false) (hb : hasB i d.n = true) (hl : len = 64) :
    Calls Try.prog 37 #[d.ptr, .int .i64 i, .slice a len cap] w fun e w' => e = .returned (.int .i64 (s.writeErr i len)) ∧ At w' d (s.write i zs) ∧ Blk.Chg d.Has w w' := by
  subst hl
  have hcn := h.now.secs.count
  have hzl := hr.count
  have hw : s.write i zs = s.count.put i zs := by simp [St.write, hoff, hcn, hb, hzl]
  have he : s.writeErr i 64 = if s.count.off then 7 else 0 := by simp [St.writeErr, hcn, hb]
  have HW := Lib.hid hw
  have HE := Lib.hid he
  clear hw he hcn hzl
  obtain ⟨g0, g1⟩ : 0 ≤ i ∧ i < d.n := by simpa [hasB] using hb
  have c4 := h.flds.c4
  rw [hoff] at c4
  have H := Lib.hid h
  have HB := Lib.hid hb
  have HR := Lib.hid hr
  clear h hb hoff hr
  unfold Dk.ptr
  go_enter Try.func37, Try.ntmps37
  go_wp2_with fail
  refine (count_any d s _ H.out hc).mono ?_
  rintro e w1 ⟨rfl, h1, b1⟩
  have hr1 := HR.out.keep b1 (fun _ b off e k => ha b off e (.inl k))
  have b1 : Blk.Chg d.Has w w1 := b1.mono fun k _ hk => .inl hk
  obtain ⟨cur, k1, k2, k3⟩ := h1.now.lies
  have hz : Sec zs := ⟨hr1.count, hr1.byt⟩
  have hrun := fun ty => Blk.run_copy_sz (P := Try.prog) w1 25 25 ty 5 1 d.br (i.toNat * 64) 64 64 a 64 cap cur 81 (bcells zs) Try.underlying25 sizeU8 k1
    (by rw [bcells_length, hr1.count]; rfl) (by have := hr1.source 64; rwa [List.take_of_length_le (by rw [hr1.count]; exact Nat.le_refl _)] at this)
    (by rw [bcells_length, hr1.count, k2]; have := h1.now.le; omega) (bcells_one _)
  have hn := h1.put i g0 g1 zs hz cur k1 rfl
  obtain ⟨c0, c1, c2, c3, c5, f⟩ := h1.flds
  obtain ⟨wc, hwc⟩ : ∃ x, x = w1.setRow d.br (Blk.over cur.toList (i.toNat * 64) (bcells zs)).toArray := ⟨_, rfl⟩
  rw [← hwc] at hn
  simp only [← hwc] at hrun
  have hn5 := hn.1.flds.c4
  rw [show (s.count.put i zs).off = s.count.off from rfl] at hn5
  have H1 := Lib.hid h1
  have HN := Lib.hid hn
  have HU := Lib.hid hrun
  clear f c1 c2 c3 c5 hr1 k1 k2 k3 hz hn hwc hrun h1
  go_wp2_with fail
  refine (has_any d s.count i _ H1.out).mono ?_
  rintro e w' ⟨rfl, rfl⟩
  rw [HB.out]
  cases hco : s.count.off
  all_goals
    have he := HE.out
    rw [hco] at hn5 he
    have HE' := Lib.hid he
    clear he hco
    go_wp2_with fail
    rw [HU.out]
    go_wp2
    go_ret
    exact ⟨by rw [HE'.out]; rfl, by rw [HW.out]; exact HN.out.1, b1.trans HN.out.2⟩

theorem write_no (d : Dk) (s : St) (i : Int) (a : Option Addr) (len cap : Nat) (zs : List Int) (w : World) (h : At w d s) (hc : s.calls < 4611686018427387904) (hz : zs.length = len) (hl : len ≤ 9223372036854775807)
    (hno : ¬ (s.off = false ∧ hasB i d.n = true ∧ len = 64)) :
    Calls Try.prog 37 #[d.ptr, .int .i64 i, .slice a len cap] w fun e w' => e = .returned (.int .i64 (s.writeErr i len)) ∧ At w' d (s.write i zs) ∧ Blk.Chg d.Has w w' := by
  have hcn := h.now.secs.count
  have hw : s.write i zs = s.count := by
    unfold St.write
    rw [if_neg]
    simp only [hz, hcn, Bool.and_eq_true, Bool.not_eq_true', beq_iff_eq]
    exact fun hx => hno ⟨hx.1.1, hx.1.2, hx.2⟩
  have he : s.writeErr i len = if s.count.off then 7 else if hasB i d.n && (len == 64) then 0 else 1 := by simp [St.writeErr, hcn]
  have HW := Lib.hid hw
  have c4 := h.flds.c4
  have hoffc : s.off = true → s.count.off = true := fun e => by simp [St.count, e]
  have H := Lib.hid h
  unfold Dk.ptr
  obtain ⟨b1, e1⟩ : ∃ b, s.off = b := ⟨_, rfl⟩
  obtain ⟨b2, e2⟩ : ∃ b, hasB i d.n = b := ⟨_, rfl⟩
  obtain ⟨b3, e3⟩ : ∃ b, ((len : Int) == 64) = b := ⟨_, rfl⟩
  obtain ⟨b4, e4⟩ : ∃ b, s.count.off = b := ⟨_, rfl⟩
  have e3' : (len == 64) = b3 := by
    rw [← e3, Bool.eq_iff_iff, beq_iff_eq, beq_iff_eq]; omega
  have hno' : ¬ (b1 = false ∧ b2 = true ∧ b3 = true) := fun ⟨x1, x2, x3⟩ => hno ⟨by rw [e1, x1], by rw [e2, x2], by rw [x3] at e3'; simpa using e3'⟩
  rw [e4, e2, e3'] at he
  rw [e1] at c4 hoffc
  rw [e4] at hoffc
  have E2 := Lib.hid e2
  have E4 := Lib.hid e4
  clear h hw hcn hno e1 e2 e3' e4 hz
  cases b1 <;> cases b2 <;> cases b3 <;> cases b4 <;> simp only [Bool.false_eq_true, and_true, and_false, not_true_eq_false, not_false_eq_true, if_true, if_false, Bool.and_true, Bool.and_false, forall_const, reduceCtorEq] at hno' he hoffc
  all_goals
    have HE := Lib.hid he
    clear he
    go_enter Try.func37, Try.ntmps37
    go_wp2_with fail
    refine (count_any d s _ H.out hc).mono ?_
    rintro e w1 ⟨rfl, h1, b1⟩
    have b1 : Blk.Chg d.Has w w1 := b1.mono fun k _ hk => .inl hk
    have c5 := h1.flds.c4
    rw [E4.out] at c5
    have H1 := Lib.hid h1
    clear h1
    go_wp2_with fail
    refine (has_any d s.count i _ H1.out).mono ?_
    rintro e w' ⟨rfl, rfl⟩
    rw [E2.out]
    go_wp2
    go_ret
    exact ⟨by rw [HE.out]; rfl, by rw [HW.out]; exact H1.out, b1⟩

theorem write_any (d : Dk) (s : St) (i : Int) (a : Option Addr) (len cap : Nat) (zs : List Int) (w : World) (h : At w d s) (hc : s.calls < 4611686018427387904) (hr : Row w a len zs) (ha : ∀ b off, a = some ⟨b, off, none⟩ → ¬ d.Has b) :
    Calls Try.prog 37 #[d.ptr, .int .i64 i, .slice a len cap] w fun e w' => e = .returned (.int .i64 (s.writeErr i len)) ∧ At w' d (s.write i zs) ∧ Blk.Chg d.Has w w' := by
  by_cases hy : s.off = false ∧ hasB i d.n = true ∧ len = 64
  · exact write_yes d s i a len cap zs w h hc hr ha hy.1 hy.2.1 hy.2.2
  · exact write_no d s i a len cap zs w h hc hr.count hr.short hy
end Disk
end Go.Proofs.Ytjeidfknnophnaa

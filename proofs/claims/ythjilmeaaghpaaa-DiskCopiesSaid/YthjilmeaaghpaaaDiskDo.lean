/-
A script's call, done to both disks.
-/
import Derived.Test.YthjilmeaaghpaaaDiskPair
import Derived.Deep.RegionHeld3
namespace Go.Proofs.Ythjilmeaaghpaaa
open Go.RowKit
set_option linter.unusedVariables false
namespace Pair
open Disk (Sec Secs St hasB Dk)
open Ref (Rk)

/-- A script's call as data. -/
structure Cl where
  d : Int
  i : Int
  b : Int
  sh : Bool
  pa : Option Addr
  pl : Nat
  pc : Nat
  picks : List Int
def Cl.cells (c : Cl) : Array Value := #[.int .i64 c.d, .int .i64 c.i, .int .u8 c.b, .bool c.sh, .slice c.pa c.pl c.pc]
/-- It reads so in the world w. -/
structure Ok (B : Nat) (w : World) (c : Cl) : Prop where
  imax : c.i ≤ 9223372036854775807
  b0 : 0 ≤ c.b
  b1 : c.b < 256
  row : Row w c.pa c.pl c.picks
  le : c.pl ≤ c.pc
  nil : c.pa = none → c.pc = 0
  lt : 0 < c.pl → ∀ x, c.pa = some x → x.block < B
theorem Ok.below {B w w' c} (h : Ok B w c) (hb : Below w.heap.size w w') : Ok B w' c :=
  ⟨h.imax, h.b0, h.b1, h.row.below hb, h.le, h.nil, h.lt⟩
/-- Both disks, apart from what came in (below B). -/
structure At (B : Nat) (w : World) (dk : Dk) (m : Rk) (sd sr : St) : Prop where
  d : Disk.At w dk sd
  r : Ref.At w m sr
  like : Like sd sr
  df : dk.From B
  rf : B ≤ m.B
def Has (dk : Dk) (m : Rk) (k : Nat) : Prop := dk.Has k ∨ m.Has k
theorem At.hasBase {B w dk m sd sr} (h : At B w dk m sd sr) {k : Nat} (hk : Has dk m k) : B ≤ k := by
  rcases hk with hk | hk
  · exact h.df.has hk
  · exact Nat.le_trans h.rf (h.r.hasBase hk)
/-- The two disks have no block in common. -/
theorem sep {w : World} {dk : Dk} {m : Rk} {sd sr : St} (h : Disk.At w dk sd) (k : Ref.At w m sr) : ∀ b, dk.Has b → ¬ m.Has b := by
  obtain ⟨c1, n1, _⟩ := h.now.lies
  obtain ⟨c2, n2, _⟩ := h.sure.lies
  have tr : ∀ b, m.Has b → ∃ T cs, Blk.Is w b T cs ∧ (T = 34 ∨ T = 28) := by
    rintro b (rfl | hb | hb)
    · exact ⟨_, _, k.obj, .inl rfl⟩
    · obtain ⟨_, c, hc⟩ := Ref.tbl_block k.now hb; exact ⟨_, _, hc, .inr rfl⟩
    · obtain ⟨_, c, hc⟩ := Ref.tbl_block k.sure hb; exact ⟨_, _, hc, .inr rfl⟩
  intro b hb hm
  obtain ⟨T, cs, hc, hT⟩ := tr b hm
  rcases hb with rfl | rfl | rfl
  · rcases hT with rfl | rfl
    · exact h.obj.ne hc (by decide) rfl
    · exact h.obj.ne hc (by decide) rfl
  · rcases hT with rfl | rfl
    · exact n1.ne hc (by decide) rfl
    · exact n1.ne hc (by decide) rfl
  · rcases hT with rfl | rfl
    · exact n2.ne hc (by decide) rfl
    · exact n2.ne hc (by decide) rfl
theorem noBytes {w : World} {dk : Dk} {sd : St} (h : Disk.At w dk sd) : ∀ b cur, Blk.Is w b 5 cur → ¬ dk.Has b := fun b cur hc => h.notBytes hc
/-- Each side's change leaves the other. -/
theorem refKeeps {w w' : World} {dk : Dk} {m : Rk} {sd sr : St} (h : Disk.At w dk sd) (k : Ref.At w m sr) (hc : Blk.Chg dk.Has w w') : Ref.At w' m sr :=
  k.chg hc (fun b hb hd => sep h k b hd hb) (noBytes h)
theorem diskKeeps {w w' : World} {dk : Dk} {m : Rk} {sd sr : St} (h : Disk.At w dk sd) (k : Ref.At w m sr) (hc : Blk.Chg m.Has w w') : Disk.At w' dk sd :=
  h.chg hc (fun b hd hb => sep h k b hd hb)
theorem okBytesD {w : World} {dk : Dk} {sd : St} (h : Disk.At w dk sd) {a : Nat} (k : ∃ cs, Blk.Is w a 5 cs) : ∀ b off, (some ⟨a, 0, none⟩ : Option Addr) = some ⟨b, off, none⟩ → ¬ dk.Has b := by
  rintro b off e; cases e
  obtain ⟨cs, hc⟩ := k; exact h.notBytes hc
theorem okBytesR {w : World} {m : Rk} {sr : St} (h : Ref.At w m sr) {a : Nat} (k : ∃ cs, Blk.Is w a 5 cs) : ∀ x, (some ⟨a, 0, none⟩ : Option Addr) = some x → ¬ m.Has x.block := by
  rintro x e; cases e
  obtain ⟨cs, hc⟩ := k; exact h.bytes _ cs hc

/-- The walk's own keeping: the box of the call. -/
structure Box (u : World) (cb : Nat) (cells : Array Value) : Prop where
  is : Blk.Is u cb 30 cells
theorem Box.below {u u' cb cells} (h : Box u cb cells) (hb : Below u.heap.size u u') : Box u' cb cells := ⟨(Blk.Chg.ofBelow' (S := fun _ => False) hb).is h.is (by simp)⟩
theorem Box.chgD {u u' cb cells} (h : Box u cb cells) {dk : Dk} {sd : St} (hd : Disk.At u dk sd) (hc : Blk.Chg dk.Has u u') : Box u' cb cells := by
  refine ⟨hc.is h.is fun hk => ?_⟩
  obtain ⟨c1, n1, _⟩ := hd.now.lies
  obtain ⟨c2, n2, _⟩ := hd.sure.lies
  rcases hk with rfl | rfl | rfl
  · exact hd.obj.ne h.is (by decide) rfl
  · exact n1.ne h.is (by decide) rfl
  · exact n2.ne h.is (by decide) rfl
theorem Box.chgR {u u' cb cells} (h : Box u cb cells) {m : Rk} {sr : St} (hr : Ref.At u m sr) (hc : Blk.Chg m.Has u u') : Box u' cb cells := by
  refine ⟨hc.is h.is fun hk => ?_⟩
  rcases hk with rfl | hb | hb
  · exact hr.obj.ne h.is (by decide) rfl
  · obtain ⟨_, c, k⟩ := Ref.tbl_block hr.now hb; exact k.ne h.is (by decide) rfl
  · obtain ⟨_, c, k⟩ := Ref.tbl_block hr.sure hb; exact k.ne h.is (by decide) rfl

/-- What do hands back. -/
def Done (B : Nat) (w : World) (dk : Dk) (m : Rk) (sd : St) (e : Ending) (w' : World) : Prop :=
  e = .returned (.bool true) ∧ (∃ sd' sr', At B w' dk m sd' sr' ∧ sd'.calls ≤ sd.calls + 1) ∧ Blk.Chg (Has dk m) w w'
theorem chgD {dk : Dk} {m : Rk} {w w' : World} (h : Blk.Chg dk.Has w w') : Blk.Chg (Has dk m) w w' := h.mono fun _ _ k => .inl k
theorem chgR {dk : Dk} {m : Rk} {w w' : World} (h : Blk.Chg m.Has w w') : Blk.Chg (Has dk m) w w' := h.mono fun _ _ k => .inr k
theorem Like.calls' {d r : St} (h : Like d r) {n : Nat} (hd : d.calls < n) : r.calls < n := by rw [← h.calls]; exact hd

theorem write_calls (s : St) (i : Int) (zs : List Int) : (s.write i zs).calls = s.calls + 1 := by
  unfold St.write; split <;> rfl
theorem flush_calls (s : St) : s.flush.calls = s.calls + 1 := by
  unfold St.flush; split <;> rfl
set_option maxRecDepth 100000 in
theorem do_write (B : Nat) (dk : Dk) (m : Rk) (sd sr : St) (c : Cl) (w : World) (h : At B w dk m sd sr) (hc : sd.calls < 4611686018427387904) (ho : Ok B w c) (hd : c.d = 0) :
    Calls Try.prog 11 #[dk.ptr, m.ptr, .agg c.cells] w fun e w' => Done B w dk m sd e w' := by
  have hbx : Box (w.alloc (.cells c.cells 30)) w.heap.size c.cells := ⟨Blk.Is.new w _ _⟩
  have h0 := h.d.below ((Below.refl _ _).alloc (Nat.le_refl _) (.cells c.cells 30))
  have r0 := h.r.below ((Below.refl _ _).alloc (Nat.le_refl _) (.cells c.cells 30))
  have hcr := h.like.calls' hc
  have hwe := h.like.writeErr c.i (secLen c.sh)
  have hlw := h.like.write h.d.fuse0 c.i (secBytes c.b c.sh)
  have hb := And.intro ho.b0 ho.b1
  unfold Cl.cells at *
  rw [hd] at *
  generalize c.i = ci at *
  generalize c.b = cb at *
  generalize c.sh = cs at *
  generalize Value.slice c.pa c.pl c.pc = cp at *
  have k0 : ∀ u, Box u w.heap.size #[.int .i64 0, .int .i64 ci, .int .u8 cb, .bool cs, cp] → u.cell? ⟨w.heap.size, 0, none⟩ = some (.int .i64 0) := fun u hu => hu.is.at rfl
  have k1 : ∀ u, Box u w.heap.size #[.int .i64 0, .int .i64 ci, .int .u8 cb, .bool cs, cp] → u.cell? ⟨w.heap.size, 1, none⟩ = some (.int .i64 ci) := fun u hu => hu.is.at rfl
  have k2 : ∀ u, Box u w.heap.size #[.int .i64 0, .int .i64 ci, .int .u8 cb, .bool cs, cp] → u.cell? ⟨w.heap.size, 2, none⟩ = some (.int .u8 cb) := fun u hu => hu.is.at rfl
  have k3 : ∀ u, Box u w.heap.size #[.int .i64 0, .int .i64 ci, .int .u8 cb, .bool cs, cp] → u.cell? ⟨w.heap.size, 3, none⟩ = some (.bool cs) := fun u hu => hu.is.at rfl
  have k4 : ∀ u, Box u w.heap.size #[.int .i64 0, .int .i64 ci, .int .u8 cb, .bool cs, cp] → u.cell? ⟨w.heap.size, 4, none⟩ = some cp := fun u hu => hu.is.at rfl
  have HBX := Lib.hid hbx
  have HD := Lib.hid h0
  have HR := Lib.hid r0
  have HWE := Lib.hid hwe
  have HLW := Lib.hid hlw
  have HH := Lib.hid h
  clear hbx h0 r0 hwe hlw h hd
  unfold Dk.ptr Rk.ptr
  go_enter Try.func11, Try.ntmps11
  go_wp2_with fail
  go_region_held3 (fun u => Box u w.heap.size #[.int .i64 0, .int .i64 ci, .int .u8 cb, .bool cs, cp])
    (first | exact HBX.out.below (Below.refl _ _).drew | (refine Box.chgR ?_ hRB hcR; assumption) | (refine Box.chgD ?_ hDB hcW; assumption) | (refine Box.below ?_ hbS; assumption))
    (first
      | (go_at_call 23; refine (sector_any _ _ _ _ _ _ hb).mono ?_; rintro e wS ⟨aS, rfl, hrowS, hisS, haS, hbS⟩)
      | (go_at_call 21; have hDB := HD.out.drew.below hbS; refine (Disk.write_any dk sd ci _ _ _ _ _ hDB hc hrowS (okBytesD hDB hisS)).mono ?_; rintro e wW ⟨rfl, hdW, hcW⟩; have hR2 := refKeeps hDB (HR.out.drew.below hbS) hcW; have hX := (((Blk.Chg.refl (Has dk m) w).alloc (.cells #[.int .i64 0, .int .i64 ci, .int .u8 cb, .bool cs, cp] 30)).drew.trans (Blk.Chg.ofBelow' hbS)).trans (chgD hcW); rw [HWE.out])
      | (go_at_call 24; have hRB := hR2.below hbS; refine (Ref.ref_write_any m sr ci _ _ _ _ _ hRB hcr hrowS (okBytesR hRB hisS) (by intro e; cases e)).mono ?_; rintro e wR ⟨rfl, hrR, hcR⟩))
  have hfin : Done B w dk m sd (.returned (.bool true)) wR :=
    ⟨rfl, ⟨_, _, ⟨diskKeeps (hdW.below hbS) hRB hcR, hrR, HLW.out, HH.out.df, HH.out.rf⟩, Nat.le_of_eq (write_calls _ _ _)⟩, hX.trans ((Blk.Chg.ofBelow' hbS).trans (chgR hcR))⟩
  have HF := Lib.hid hfin
  clear hfin hX hcR hrR hRB hbS hisS hrowS hR2 hcW hdW k0 k1 k2 k3 k4
  go_wp2
  go_ret
  exact HF.out

set_option maxRecDepth 100000 in
theorem do_flush (B : Nat) (dk : Dk) (m : Rk) (sd sr : St) (c : Cl) (w : World) (h : At B w dk m sd sr) (hc : sd.calls < 4611686018427387904) (hd : c.d = 1) :
    Calls Try.prog 11 #[dk.ptr, m.ptr, .agg c.cells] w fun e w' => Done B w dk m sd e w' := by
  have h0 := h.d.below ((Below.refl _ _).alloc (Nat.le_refl _) (.cells c.cells 30))
  have r0 := h.r.below ((Below.refl _ _).alloc (Nat.le_refl _) (.cells c.cells 30))
  have hcr := h.like.calls' hc
  have hwe := h.like.flushErr
  have hlw := h.like.flush h.d.fuse0
  have hx := (Blk.Chg.refl (Has dk m) w).alloc (.cells c.cells 30)
  unfold Cl.cells at *
  rw [hd] at *
  generalize c.i = ci at *
  generalize c.b = cb at *
  generalize c.sh = cs at *
  generalize Value.slice c.pa c.pl c.pc = cp at *
  have HD := Lib.hid h0
  have HR := Lib.hid r0
  have HWE := Lib.hid hwe
  have HLW := Lib.hid hlw
  have HH := Lib.hid h
  have HX := Lib.hid hx
  clear h0 r0 hwe hlw h hd hx
  unfold Dk.ptr Rk.ptr
  go_enter Try.func11, Try.ntmps11
  go_wp2_with fail
  refine (Disk.flush_any dk sd _ HD.out hc).mono ?_
  rintro e w1 ⟨rfl, h1, c1⟩
  have r1 := refKeeps HD.out HR.out c1
  have HD1 := Lib.hid h1
  have HR1 := Lib.hid r1
  rw [HWE.out]
  clear h1 r1
  go_wp2_with fail
  refine (Ref.ref_flush_any m sr _ HR1.out hcr).mono ?_
  rintro e w2 ⟨rfl, r2, c2⟩
  have hfin : Done B w dk m sd (.returned (.bool true)) w2 :=
    ⟨rfl, ⟨_, _, ⟨diskKeeps HD1.out HR1.out c2, r2, HLW.out, HH.out.df, HH.out.rf⟩, Nat.le_of_eq (flush_calls _)⟩, HX.out.trans ((chgD c1).trans (chgR c2))⟩
  have HF := Lib.hid hfin
  clear hfin r2 c2 c1
  go_wp2
  go_ret
  exact HF.out

set_option maxRecDepth 100000 in
theorem do_fuse (B : Nat) (dk : Dk) (m : Rk) (sd sr : St) (c : Cl) (w : World) (h : At B w dk m sd sr) (ho : Ok B w c) (hd : c.d = 2) :
    Calls Try.prog 11 #[dk.ptr, m.ptr, .agg c.cells] w fun e w' => Done B w dk m sd e w' := by
  have h0 := h.d.below ((Below.refl _ _).alloc (Nat.le_refl _) (.cells c.cells 30))
  have r0 := h.r.below ((Below.refl _ _).alloc (Nat.le_refl _) (.cells c.cells 30))
  have hbx : Box (w.alloc (.cells c.cells 30)) w.heap.size c.cells := ⟨Blk.Is.new w _ _⟩
  have hx := (Blk.Chg.refl (Has dk m) w).alloc (.cells c.cells 30)
  have hi := ho.imax
  unfold Cl.cells at *
  rw [hd] at *
  generalize c.i = ci at *
  generalize c.b = cb at *
  generalize c.sh = cs at *
  generalize Value.slice c.pa c.pl c.pc = cp at *
  have hlw := h.like.fuseSet (max ci 0)
  have HD := Lib.hid h0
  have HR := Lib.hid r0
  have HLW := Lib.hid hlw
  have HH := Lib.hid h
  have HX := Lib.hid hx
  have HBX := Lib.hid hbx
  clear h0 r0 hlw h hd hx ho hbx
  unfold Dk.ptr Rk.ptr
  go_enter Try.func11, Try.ntmps11
  go_wp2_with fail
  refine (Disk.fuse_any dk sd ci _ HD.out hi).mono ?_
  rintro e w1 ⟨rfl, h1, c1⟩
  have c1 : Blk.Chg dk.Has _ w1 := c1.mono fun k _ e => .inl e
  have r1 := refKeeps HD.out HR.out c1
  have b1 := (HBX.out.chgD HD.out c1).is.at (i := 1) rfl
  have f3 := r1.flds.f 3
  have q3 := r1.flds.c3
  have hrset : ∀ n : Int, 0 ≤ n → n ≤ 9223372036854775807 → Ref.At (w1.setCell ⟨m.p, 3, none⟩ (.int .i64 n)) m { sr with fuse := n } ∧ Blk.Chg m.Has w1 (w1.setCell ⟨m.p, 3, none⟩ (.int .i64 n)) := fun n n0 n1 => by
    have hc : Blk.Chg (fun k => k = m.p) w1 (w1.setCell ⟨m.p, 3, none⟩ (.int .i64 n)) := Blk.Chg.setAt (Blk.Chg.refl _ _) rfl
    refine ⟨r1.set _ rfl rfl n0 n1 ?_ hc, hc.mono fun k _ e => .inl e⟩
    have := r1.obj.set 3 (.int .i64 n)
    simpa [Rk.cells] using this
  have HD1 := Lib.hid h1
  have HR1 := Lib.hid r1
  have HS := Lib.hid hrset
  clear h1 r1 hrset
  go_wp2
  all_goals
    go_ret
    have hn : ∃ n : Int, max ci 0 = n ∧ 0 ≤ n ∧ n ≤ 9223372036854775807 := ⟨_, rfl, by omega, by omega⟩
    obtain ⟨n, en, n0, n1⟩ := hn
    obtain ⟨s1, s2⟩ := HS.out n n0 n1
    have hl := HLW.out
    have hd1 := HD1.out
    rw [en] at hl hd1
    have hfin := (⟨rfl, ⟨_, _, ⟨diskKeeps hd1 HR1.out s2, s1, hl, HH.out.df, HH.out.rf⟩, Nat.le_succ _⟩, HX.out.trans ((chgD c1).trans (chgR s2))⟩ : Done B w dk m sd (.returned (.bool true)) _)
    first
      | (obtain rfl : n = ci := by omega
         exact hfin)
      | (obtain rfl : n = 0 := by omega
         exact hfin)

theorem crash_calls (s : St) (p : List Int) : (s.crashed p).calls = s.calls := rfl
set_option maxRecDepth 100000 in
theorem do_crash (B : Nat) (dk : Dk) (m : Rk) (sd sr : St) (c : Cl) (w : World) (h : At B w dk m sd sr) (ho : Ok B w c) (hd : c.d = 3) :
    Calls Try.prog 11 #[dk.ptr, m.ptr, .agg c.cells] w fun e w' => Done B w dk m sd e w' := by
  have hbel := (Below.refl w.heap.size w).alloc (Nat.le_refl _) (.cells c.cells 30)
  have h0 := h.d.below hbel
  have r0 := h.r.below hbel
  have hp := ho.row.below hbel
  have hbx : Box (w.alloc (.cells c.cells 30)) w.heap.size c.cells := ⟨Blk.Is.new w _ _⟩
  have hx := (Blk.Chg.refl (Has dk m) w).alloc (.cells c.cells 30)
  have hlw := h.like.crash c.picks
  have hle := ho.le
  have hnil := ho.nil
  have had : 0 < c.pl → ∀ x, c.pa = some x → ¬ dk.Has x.block := fun h0 x e k => by have := ho.lt h0 x e; have := h.df.has k; omega
  have har : 0 < c.pl → ∀ x, c.pa = some x → ¬ m.Has x.block := fun h0 x e k => by have := ho.lt h0 x e; have := h.r.hasBase k; have := h.rf; omega
  unfold Cl.cells at *
  rw [hd] at *
  generalize c.i = ci at *
  generalize c.b = cb at *
  generalize c.sh = cs at *
  generalize c.pa = pa at *
  generalize c.pl = pl at *
  generalize c.pc = pc at *
  generalize c.picks = picks at *
  have HD := Lib.hid h0
  have HR := Lib.hid r0
  have HLW := Lib.hid hlw
  have HH := Lib.hid h
  have HX := Lib.hid hx
  have HBX := Lib.hid hbx
  have HP := Lib.hid hp
  have HN := Lib.hid hnil
  clear h0 r0 hlw h hd hx ho hbx hp hbel hnil
  unfold Dk.ptr Rk.ptr
  go_enter Try.func11, Try.ntmps11
  go_wp2_with fail
  refine (Disk.crash_any dk sd pa pl pc picks _ HD.out HP.out hle had HN.out).mono ?_
  rintro e w1 ⟨rfl, h1, c1⟩
  have r1 := refKeeps HD.out HR.out c1
  have b1 := (HBX.out.chgD HD.out c1).is.at (i := 4) rfl
  have p1 := HP.out.keep c1 (fun h0 b off e => had h0 _ e)
  have HD1 := Lib.hid h1
  have HR1 := Lib.hid r1
  have HP1 := Lib.hid p1
  clear h1 r1 p1
  go_wp2_with fail
  refine (Ref.ref_crash_any m sr pa pl pc picks _ HR1.out HP1.out hle har HN.out).mono ?_
  rintro e w2 ⟨rfl, r2, c2⟩
  have hfin : Done B w dk m sd (.returned (.bool true)) w2 :=
    ⟨rfl, ⟨_, _, ⟨diskKeeps HD1.out HR1.out c2, r2, HLW.out, HH.out.df, HH.out.rf⟩, by rw [crash_calls]; exact Nat.le_succ _⟩, HX.out.trans ((chgD c1).trans (chgR c2))⟩
  have HF := Lib.hid hfin
  clear hfin r2 c2 c1 b1
  go_wp2
  go_ret
  exact HF.out

set_option maxRecDepth 100000 in
theorem do_read (B : Nat) (dk : Dk) (m : Rk) (sd sr : St) (c : Cl) (w : World) (h : At B w dk m sd sr) (hd : c.d ≠ 0 ∧ c.d ≠ 1 ∧ c.d ≠ 2 ∧ c.d ≠ 3) :
    Calls Try.prog 11 #[dk.ptr, m.ptr, .agg c.cells] w fun e w' => Done B w dk m sd e w' := by
  have hbel := (Below.refl w.heap.size w).alloc (Nat.le_refl _) (.cells c.cells 30)
  have h0 := h.d.below hbel
  have r0 := h.r.below hbel
  have hbx : Box (w.alloc (.cells c.cells 30)) w.heap.size c.cells := ⟨Blk.Is.new w _ _⟩
  have hx := (Blk.Chg.refl (Has dk m) w).alloc (.cells c.cells 30)
  have hrd := h.like.read c.i
  obtain ⟨d0, d1, d2, d3⟩ := hd
  have t0 : (c.d == 0) = false := by simpa using d0
  have t1 : (c.d == 1) = false := by simpa using d1
  have t2 : (c.d == 2) = false := by simpa using d2
  have t3 : (c.d == 3) = false := by simpa using d3
  unfold Cl.cells at *
  generalize c.d = cd at *
  generalize c.i = ci at *
  generalize c.b = cb at *
  generalize c.sh = cs at *
  generalize Value.slice c.pa c.pl c.pc = cp at *
  have HD := Lib.hid h0
  have HR := Lib.hid r0
  have HH := Lib.hid h
  have HX := Lib.hid hx
  have HBX := Lib.hid hbx
  have HRD := Lib.hid hrd
  clear h0 r0 h d0 d1 d2 d3 hx hbx hbel hrd
  unfold Dk.ptr Rk.ptr
  go_enter Try.func11, Try.ntmps11
  go_wp2_with fail
  refine (Disk.read_any dk sd ci _ HD.out).mono ?_
  rintro e w1 ⟨v1, rfl, hm1, b1⟩
  obtain ⟨n1, a1, cap1, rfl, _, _, row1⟩ := hm1.rows
  have HD1 := Lib.hid (HD.out.below b1)
  have HR1 := Lib.hid (HR.out.below b1)
  have bx1 := (HBX.out.below b1).is.at (i := 1) rfl
  have HROW := Lib.hid row1
  clear hm1 row1
  go_wp2_with fail
  refine (Ref.ref_read_any m sr ci _ HR1.out).mono ?_
  rintro e w2 ⟨v2, rfl, hm2, b2⟩
  obtain ⟨n2, a2, cap2, rfl, _, _, row2⟩ := hm2.rows
  have e1 := (HROW.out.below b2).conv cap1
  have e2 := row2.conv cap2
  rw [HRD.out] at e1
  have hfin : Done B w dk m sd (.returned (.bool true)) w2 :=
    ⟨rfl, ⟨_, _, ⟨HD1.out.below b2, HR1.out.below b2, HH.out.like, HH.out.df, HH.out.rf⟩, Nat.le_succ _⟩, HX.out.trans ((Blk.Chg.ofBelow' b1).trans (Blk.Chg.ofBelow' b2))⟩
  have HF := Lib.hid hfin
  rw [HRD.out]
  generalize strOfNums (sr.read ci).1 = str at *
  generalize (sr.read ci).2 = er at *
  clear hfin hm2 row2 b1 b2 bx1
  go_wp2
  go_ret
  exact HF.out

theorem do_any (B : Nat) (dk : Dk) (m : Rk) (sd sr : St) (c : Cl) (w : World) (h : At B w dk m sd sr) (hc : sd.calls < 4611686018427387904) (ho : Ok B w c) :
    Calls Try.prog 11 #[dk.ptr, m.ptr, .agg c.cells] w fun e w' => Done B w dk m sd e w' := by
  by_cases d0 : c.d = 0
  · exact do_write B dk m sd sr c w h hc ho d0
  by_cases d1 : c.d = 1
  · exact do_flush B dk m sd sr c w h hc d1
  by_cases d2 : c.d = 2
  · exact do_fuse B dk m sd sr c w h ho d2
  by_cases d3 : c.d = 3
  · exact do_crash B dk m sd sr c w h ho d3
  exact do_read B dk m sd sr c w h ⟨d0, d1, d2, d3⟩
end Pair
end Go.Proofs.Ythjilmeaaghpaaa

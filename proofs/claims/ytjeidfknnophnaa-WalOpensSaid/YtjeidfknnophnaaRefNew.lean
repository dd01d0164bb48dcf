/-
The contract of the reference's New.
-/
import Derived.Test.YtjeidfknnophnaaRefOps
import Derived.Test.YtjeidfknnophnaaDiskNewCopy
import Derived.Test.YtjeidfknnophnaaDiskAwake
import Derived.Deep.RegionLaw
namespace Go.Proofs.Ytjeidfknnophnaa
open Go.RowKit
set_option linter.unusedVariables false
namespace Ref
open Disk (Sec Secs St zero zero_sec fresh secs_zero)

/-- append(rows, row), as one step of a region that draws its order. -/
theorem step_append_row {w : World} {ops : Array Oper} {o : Oper} {a : Act} {K : Act → World → Prop} {Q : Exit → Act → World → Prop} {E : Prop} (hgd : o.guard = none) (s x : Operand)
    (ho : o.op = .call { callee := .builtin .append, args := #[s, x], argTypes := #[26, 26] })
    (B : Nat) (v : Value) (n : Nat) (l : List (List Int)) (hv : a.eval s = v) (ht : Tbl w B v n l) (y : Addr) (c : Nat) (hx : a.eval x = .slice (some y) 1 c) (xv : Value) (r : List Int) (hcell : w.cell? (y.add 0) = some xv) (hm : Mine w B xv r) (hr : Sec r)
    (hn : n + 1 ≤ 4096) (hB : B ≤ w.heap.size)
    (h : ∀ v' w', Tbl w' B v' (n + 1) (l ++ [r]) → w.grownBy w' v.ownBlock → (∀ k, v'.ownBlock = some k → v.ownBlock = some k ∨ w.heap.size ≤ k) → K (a.put o.dst v') w') :
    if Region.wanted o (yielded ops a.tmps) = true then Oper.wp Try.prog o a w K Q else E := by
  have hw : Region.wanted o (yielded ops a.tmps) = true := by simp [Region.wanted, hgd]
  rw [if_pos hw]
  obtain ⟨i0, hi, hz0, hz1, hz2⟩ := info_parts infoBytes
  obtain ⟨vals, ho2, hp⟩ := ht.lies
  have hl : vals.length = n := by rw [ho2.1, Nat.mul_one]
  have hsrc : Src Try.prog 1 26 (.slice (some y) 1 c) 1 [xv] w := by
    refine Src.ofSlice w Try.underlying26 y 1 c [xv] rfl (fun j u hj => ?_) (fun u hu => by rw [List.mem_singleton.1 hu]; exact mine_one hm)
    have : j = 0 := by have := (List.getElem?_eq_some_iff.1 hj).1; simp at this; omega
    subst this
    simp at hj
    rw [← hj]; exact hcell
  refine Own.wp_append_src s x 26 26 ho B 25 i0 _ 1 24 Try.underlying26 hi hz0 hz1 hz2 rfl v n _ hv ho2 _ 1 [xv] hx hsrc (by simp only [maxLen]; omega) (by omega) hB fun v' w' h1 h2 h3 => ?_
  have hne : ∀ y ys, Mine w B y ys → Mine w' B y ys := by
    intro y ys hmy
    refine hmy.chg (S := fun b => v.ownBlock = some b) ((Blk.Chg.refl _ _).grown h2 (fun k e _ => e)) (fun b hb e => ?_)
    obtain ⟨_, _, cur, hc⟩ := hmy.block hb
    obtain ⟨_, cv, kv⟩ := tbl_block ht e
    exact (Blk.Is.ne hc kv (by decide)) rfl
  refine h v' w' ⟨⟨by simp [ht.secs.count], fun z hz => ?_⟩, hn, vals ++ [xv], h1, fun i hi => ?_⟩ h2 h3
  · rcases List.mem_append.1 hz with h | h
    · exact ht.secs.sec z h
    · rw [List.mem_singleton.1 h]; exact hr
  · by_cases e : i < n
    · obtain ⟨x', hx', hm'⟩ := hp i e
      refine ⟨x', by rw [List.getElem?_append_left (by omega)]; exact hx', ?_⟩
      have : (l ++ [r]).getD i [] = l.getD i [] := by
        simp only [List.getD_eq_getElem?_getD]
        rw [List.getElem?_append_left (by rw [ht.secs.count]; exact e)]
      rw [this]; exact hne _ _ hm'
    · obtain rfl : i = n := by omega
      refine ⟨xv, by rw [List.getElem?_append_right (by omega), hl, Nat.sub_self]; rfl, ?_⟩
      have : (l ++ [r]).getD i [] = r := by
        simp only [List.getD_eq_getElem?_getD]
        rw [List.getElem?_append_right (by rw [ht.secs.count]; exact Nat.le_refl _), ht.secs.count, Nat.sub_self]; rfl
      rw [this]; exact hne _ _ hm

/-- New under way: i rows read, j rows sure. -/
structure Making (w u : World) (vn vs : Value) (i j : Nat) : Prop where
  below : Below w.heap.size w u
  obj : Blk.Is u w.heap.size 76 #[vn, vs, .int .i64 0, .int .i64 0, .bool false]
  now : Tbl u w.heap.size vn i (List.replicate i zero)
  sure : Tbl u w.heap.size vs j (List.replicate j zero)
  apart : ∀ b, vn.ownBlock = some b → vs.ownBlock = some b → False

/-- The world in which the new row is appended. -/
def W3 (u : World) (z : Array Value) : World := ((u.alloc (.cells z 5)).alloc (.cells #[.slice (some ⟨u.heap.size, 0, none⟩) 64 64] 25)).drew
theorem W3.below (u : World) (z : Array Value) : Below u.heap.size u (W3 u z) := (((Below.refl _ _).alloc (Nat.le_refl _) _).alloc (by simp) _).drew
theorem W3.size (u : World) (z : Array Value) : (W3 u z).heap.size = u.heap.size + 1 + 1 := by simp [W3]
theorem W3.cell (u : World) (z : Array Value) : (W3 u z).cell? ((⟨u.heap.size + 1, 0, none⟩ : Addr).add 0) = some (.slice (some ⟨u.heap.size, 0, none⟩) 64 64) := by
  have := (Blk.Is.new (u.alloc (.cells z 5)) 25 #[.slice (some ⟨u.heap.size, 0, none⟩) 64 64]).drew.at (i := 0) rfl
  rw [World.size_alloc] at this
  rw [Addr.add_mid]; exact this
theorem W3.mine (u : World) (z : Array Value) (hz : z = (bcells zero).toArray) (B : Nat) (hB : B ≤ u.heap.size) : Mine (W3 u z) B (.slice (some ⟨u.heap.size, 0, none⟩) 64 64) zero := by
  have h : Blk.Is (W3 u z) u.heap.size 5 z := ((Blk.Is.new u 5 z).alloc _).drew
  refine ⟨⟨by simp [zero], .inr ⟨u.heap.size, 64, z, by simp [zero], hB, h, by simp [zero], by unfold maxLen; omega, by rw [hz]; simp [zero], ?_⟩⟩, zero_sec.byt⟩
  rw [hz, List.toList_toArray, List.take_of_length_le (by simp)]
theorem Making.w3 {w u : World} {vn vs : Value} {i j : Nat} (h : Making w u vn vs i j) (z : Array Value) : Making w (W3 u z) vn vs i j :=
  ⟨h.below.trans ((W3.below u z).mono h.below.size), (Blk.Chg.ofBelow' (S := fun _ => False) (W3.below u z)).is h.obj (by simp), h.now.below (W3.below u z), h.sure.below (W3.below u z), h.apart⟩
/-- The object behind an append onto one of the two. -/
theorem Making.objOf {w u u' : World} {vn vs v : Value} {i j : Nat} (h : Making w u vn vs i j) (hv : v = vn ∨ v = vs) (hg : u.grownBy u' v.ownBlock) : Blk.Is u' w.heap.size 76 #[vn, vs, .int .i64 0, .int .i64 0, .bool false] := by
  refine (Blk.Chg.grown (S := fun b => v.ownBlock = some b) (Blk.Chg.refl _ u) hg (fun k e _ => e)).is h.obj fun e => ?_
  rcases hv with rfl | rfl
  · obtain ⟨_, c, k⟩ := tbl_block h.now e; exact (Blk.Is.ne k h.obj (by decide)) rfl
  · obtain ⟨_, c, k⟩ := tbl_block h.sure e; exact (Blk.Is.ne k h.obj (by decide)) rfl
theorem Tbl.stored {w u : World} {B n : Nat} {v x : Value} {l : List (List Int)} {cs : Array Value} (h : Tbl u B v n l) (ho : Blk.Is u w.heap.size 76 cs) (o : Nat) : Tbl (u.setCell ⟨w.heap.size, o, none⟩ x) B v n l := by
  refine h.chg (S := fun b => b = w.heap.size) (Blk.Chg.setAt (Blk.Chg.refl _ _) rfl) ?_ ?_
  · rintro b hb rfl
    obtain ⟨_, c, k⟩ := tbl_block h hb; exact (Blk.Is.ne k ho (by decide)) rfl
  · rintro b cur hc rfl
    exact (Blk.Is.ne hc ho (by decide)) rfl
theorem Making.size {w u : World} {vn vs : Value} {i j : Nat} (h : Making w u vn vs i j) : w.heap.size < u.heap.size := h.obj.lt
theorem Making.pushNow {w u u' : World} {vn vs v' : Value} {i j : Nat} (h : Making w u vn vs i j) (ht : Tbl u' w.heap.size v' (i + 1) (List.replicate i zero ++ [zero])) (hg : u.grownBy u' vn.ownBlock) (hb : ∀ k, v'.ownBlock = some k → vn.ownBlock = some k ∨ u.heap.size ≤ k) :
    Making w (u'.setCell ⟨w.heap.size, 0, none⟩ v') v' vs (i + 1) j := by
  have ho := h.objOf (.inl rfl) hg
  have hc := Blk.Chg.grown (S := fun b => vn.ownBlock = some b) (Blk.Chg.refl _ u) hg (fun k e _ => e)
  have hs : Tbl u' w.heap.size vs j (List.replicate j zero) := h.sure.chg hc (fun b e k => h.apart b k e) (fun b cur hb' e => by
    obtain ⟨_, c, k⟩ := tbl_block h.now e; exact (Blk.Is.ne hb' k (by decide)) rfl)
  refine ⟨(h.below.grown hg (Nat.le_of_lt h.size) (fun k e => (tbl_block h.now e).1)).setCell (Nat.le_refl _) _, by simpa using ho.set 0 v', ?_, hs.stored ho 0, fun b e1 e2 => ?_⟩
  · rw [show List.replicate (i + 1) zero = List.replicate i zero ++ [zero] from List.replicate_succ']
    exact ht.stored ho 0
  · rcases hb b e1 with k | k
    · exact h.apart b k e2
    · obtain ⟨_, c, kk⟩ := tbl_block h.sure e2
      have := kk.lt; omega
theorem Making.pushSure {w u u' : World} {vn vs v' : Value} {i j : Nat} (h : Making w u vn vs i j) (ht : Tbl u' w.heap.size v' (j + 1) (List.replicate j zero ++ [zero])) (hg : u.grownBy u' vs.ownBlock) (hb : ∀ k, v'.ownBlock = some k → vs.ownBlock = some k ∨ u.heap.size ≤ k) :
    Making w (u'.setCell ⟨w.heap.size, 1, none⟩ v') vn v' i (j + 1) := by
  have ho := h.objOf (.inr rfl) hg
  have hc := Blk.Chg.grown (S := fun b => vs.ownBlock = some b) (Blk.Chg.refl _ u) hg (fun k e _ => e)
  have hs : Tbl u' w.heap.size vn i (List.replicate i zero) := h.now.chg hc (fun b e k => h.apart b e k) (fun b cur hb' e => by
    obtain ⟨_, c, k⟩ := tbl_block h.sure e; exact (Blk.Is.ne hb' k (by decide)) rfl)
  refine ⟨(h.below.grown hg (Nat.le_of_lt h.size) (fun k e => (tbl_block h.sure e).1)).setCell (Nat.le_refl _) _, by simpa using ho.set 1 v', hs.stored ho 1, ?_, fun b e1 e2 => ?_⟩
  · rw [show List.replicate (j + 1) zero = List.replicate j zero ++ [zero] from List.replicate_succ']
    exact ht.stored ho 1
  · rcases hb b e2 with k | k
    · exact h.apart b e1 k
    · obtain ⟨_, c, kk⟩ := tbl_block h.now e1
      have := kk.lt; omega

def MadeR (w : World) (n : Nat) (e : Ending) (w' : World) : Prop := ∃ m : Rk, e = .returned m.ptr ∧ m.n = n ∧ m.B = w.heap.size ∧ At w' m (fresh n) ∧ Below w.heap.size w w'
theorem Making.done {w u : World} {vn vs : Value} {n : Nat} (h : Making w u vn vs n n) : MadeR w n (.returned (.pointer (some ⟨w.heap.size, 0, none⟩))) u :=
  ⟨⟨w.heap.size, w.heap.size, vn, vs, n⟩, rfl, rfl, rfl, ⟨h.obj, h.now, h.sure, Nat.le_refl _, h.apart, Int.le_refl _, by show (0:Int) ≤ _; decide⟩, h.below⟩
theorem tbl_none (u : World) (B : Nat) : Tbl u B (.slice none 0 0) 0 [] := ⟨⟨rfl, by simp⟩, by omega, [], World.ownsRow_nil u B _ 1, fun i hi => absurd hi (by omega)⟩
theorem tbl_one {u : World} {B : Nat} {v : Value} {n : Nat} {l : List (List Int)} (h : Tbl u B v n l) : ∃ a c, v = .slice a n c := by
  obtain ⟨a, c, e, _⟩ := h.shape; exact ⟨a, c, e⟩
set_option maxRecDepth 100000 in
set_option maxHeartbeats 2000000 in
theorem ref_new_any (n : Int) (w : World) (hn : n ≤ 4096) :
    Calls Try.prog 27 #[.int .i64 n] w fun e w' => MadeR w (Disk.sizeOf n) e w' := by
  obtain ⟨z, hmk, hzz⟩ : ∃ z, (∀ w : World, (Instr.makeSlice 25 (.int .i64 64) (.int .i64 64)).run Try.prog w = .ok (.slice (some ⟨w.heap.size, 0, none⟩) 64 64) (w.alloc (.cells z 5))) ∧ z = (bcells zero).toArray := ⟨_, Disk.run_make_bytes, rfl⟩
  have HZ := Lib.hid hzz
  clear hzz
  obtain ⟨m, hm, hle⟩ : ∃ m, Disk.sizeOf n = m ∧ m ≤ 4096 := ⟨_, rfl, by unfold Disk.sizeOf; omega⟩
  rw [hm]
  unfold Disk.sizeOf at hm
  have hmk0 : Making w (w.alloc (.cells #[.slice none 0 0, .slice none 0 0, .int .i64 0, .int .i64 0, .bool false] 76)) (.slice none 0 0) (.slice none 0 0) 0 0 :=
    ⟨(Below.refl _ _).alloc (Nat.le_refl _) _, Blk.Is.new w _ _, tbl_none _ _, tbl_none _ _, fun b e => by cases e⟩
  have HMK0 := Lib.hid hmk0
  clear hmk0
  have hcase : n < 0 ∧ m = 0 ∨ n = 0 ∧ m = 0 ∨ (0 < n ∧ n ≤ 4096) ∧ n = m ∨ 4096 < n ∧ m = 4096 := by
    rcases (show n < 0 ∨ n = 0 ∨ 0 < n by omega) with h | h | h
    · rw [Int.max_eq_right (by omega)] at hm; omega
    · rw [Int.max_eq_right (by omega)] at hm; omega
    · rw [Int.max_eq_left (by omega)] at hm; omega
  clear hm
  rcases hcase with ⟨h0, rfl⟩ | ⟨rfl, rfl⟩ | ⟨⟨h0, h1⟩, rfl⟩ | ⟨h0, rfl⟩
  iterate 2
    · go_enter Try.func27, Try.ntmps27
      go_wp2_with fail
      go_loopw [9] (fun i u => ∃ k : Nat, ∃ vn vs : Value, k ≤ 0 ∧ i = .int .i64 k ∧ Making w u vn vs k k) (fun i _ => 0 - (intOf i).toNat)
      case atStart => exact ⟨0, _, _, by omega, rfl, HMK0.out⟩
      case round =>
        obtain ⟨k, vn, vs, hk, rfl, hu⟩ := hrel
        obtain rfl : k = 0 := by omega
        have hdone := hu.done
        have HD := Lib.hid hdone
        clear hu hdone
        go_wp2
        go_ret
        exact HD.out
  · have h2 : 0 < m := by omega
    go_enter Try.func27, Try.ntmps27
    go_wp2_with fail
    go_loopw [9] (fun i u => ∃ k : Nat, ∃ vn vs : Value, k ≤ m ∧ i = .int .i64 k ∧ Making w u vn vs k k) (fun i _ => m - (intOf i).toNat)
    case atStart => exact ⟨0, _, _, by omega, rfl, HMK0.out⟩
    case round =>
      obtain ⟨k, vn, vs, hk, rfl, hu⟩ := hrel
      by_cases hlt : k < m
      · obtain ⟨an, cn, rfl⟩ := tbl_one hu.now
        obtain ⟨ax, cx, rfl⟩ := tbl_one hu.sure
        have c0 := hu.obj.at (i := 0) rfl
        have hsz := hu.size
        have ht := (hu.w3 z).now
        have hcell := W3.cell wr z
        have hmine := W3.mine wr z HZ.out w.heap.size (Nat.le_of_lt hsz)
        have HU := Lib.hid hu
        have HT := Lib.hid ht
        have HCE := Lib.hid hcell
        have HMI := Lib.hid hmine
        clear hu ht hcell hmine
        go_wp2_with fail
        go_region_law ((refine step_append_row (w := W3 wr z) rfl (.tmp 15) (.tmp 17) rfl w.heap.size (.slice an k cn) k _ rfl HT.out ⟨wr.heap.size + 1, 0, none⟩ 1 rfl _ zero HCE.out HMI.out zero_sec (by omega) (by rw [W3.size]; omega) ?_; intro v1 u1 ht1 hg1 hb1; obtain ⟨a1, c1, rfl⟩ := tbl_one ht1; have ho1 := (HU.out.w3 z).objOf (.inl rfl) hg1; have d0 := ho1.at (i := 0) rfl; have f0 := ho1.free 0))
        all_goals
          have hu2 := (HU.out.w3 z).pushNow ht1 hg1 hb1
          clear HU HT HCE HMI ht1 hg1 hb1 ho1 d0 f0 c0 hsz
          obtain ⟨u2, hu2e⟩ : ∃ u2, u2 = u1.setCell ⟨w.heap.size, 0, none⟩ (.slice a1 (k + 1) c1) := ⟨_, rfl⟩
          rw [← hu2e] at hu2
          rw [← hu2e]
          clear hu2e
          have c0 := hu2.obj.at (i := 1) rfl
          have hsz := hu2.size
          have ht := (hu2.w3 z).sure
          have hcell := W3.cell u2 z
          have hmine := W3.mine u2 z HZ.out w.heap.size (Nat.le_of_lt hsz)
          have HU := Lib.hid hu2
          have HT := Lib.hid ht
          have HCE := Lib.hid hcell
          have HMI := Lib.hid hmine
          clear hu2 ht hcell hmine
          go_wp2_with fail
          go_region_law ((refine step_append_row (w := W3 u2 z) rfl (.tmp 25) (.tmp 27) rfl w.heap.size (.slice ax k cx) k _ rfl HT.out ⟨u2.heap.size + 1, 0, none⟩ 1 rfl _ zero HCE.out HMI.out zero_sec (by omega) (by rw [W3.size]; omega) ?_; intro v3 u3 ht1 hg1 hb1; obtain ⟨a3, c3, rfl⟩ := tbl_one ht1; have ho1 := (HU.out.w3 z).objOf (.inr rfl) hg1; have d0 := ho1.at (i := 1) rfl; have f0 := ho1.free 1))
          all_goals
            have hu4 := (HU.out.w3 z).pushSure ht1 hg1 hb1
            clear ht1 hg1 hb1 ho1 d0 f0
            go_wp2
            go_roundw
            case rel => exact ⟨k + 1, _, _, by omega, by go_num, hu4⟩
            case measure => simp [intOf]; omega
      · obtain rfl : k = m := by omega
        have hdone := hu.done
        have HD := Lib.hid hdone
        clear hu hdone
        go_wp2
        go_ret
        exact HD.out
  · omega
end Ref
end Go.Proofs.Ytjeidfknnophnaa

/-
Rows of rows of bytes as in WalRecs, whose rows all came in: they lie below B, so that a row of bytes from B on may change.
-/
import Derived.Test.YtjeidfknnophnaaWalArgs
namespace Go.Proofs.Ytjeidfknnophnaa
open Go.RowKit Go.ChangeShapes Go.WideShapes Go.Deep
set_option linter.unusedVariables false
namespace Wal
namespace Low
/-- A slice that leads to these bytes, which lie below B. -/
def El (w : World) (B : Nat) (x : Value) (r : List Int) : Prop :=
  ∃ ai ci, x = .slice ai r.length ci ∧ Row w ai r.length r ∧ r.length ≤ ci ∧ (ai = none → ci = 0) ∧ (0 < r.length → ∀ y, ai = some y → y.block < B)
/-- What may change without these being touched. -/
def Calm (S : Nat → Prop) (w : World) (B : Nat) : Prop := ∀ k, S k → B ≤ k ∧ True ∧ (∀ cur, ¬ Blk.Is w k 25 cur)
theorem calm_none (w : World) (B : Nat) : Calm (fun _ => False) w B := fun k h => h.elim
theorem El.chg {w w' : World} {B : Nat} {x : Value} {r : List Int} {S : Nat → Prop} (h : El w B x r) (hc : Blk.Chg S w w') (hS : ∀ k, S k → B ≤ k) : El w' B x r := by
  obtain ⟨ai, ci, h1, h2, h3, h4, h5⟩ := h
  refine ⟨ai, ci, h1, h2.keep hc (fun h0 b off e hs => ?_), h3, h4, h5⟩
  have h6 : b < B := h5 h0 _ e
  have := hS _ hs
  omega
theorem El.below {w w' : World} {B : Nat} {x : Value} {r : List Int} (h : El w B x r) (hb : Below w.heap.size w w') : El w' B x r :=
  h.chg (S := fun _ => False) (Blk.Chg.ofBelow' hb) (fun k h => h.elim)
theorem El.one {w B x r} (h : El w B x r) : x.oneCell' = true := by obtain ⟨_, _, rfl, _⟩ := h; rfl
def Recs (w : World) (B : Nat) (v : Value) (rs : List (List Int)) : Prop :=
  ∃ vals, w.ownsRow B 25 1 v rs.length vals ∧ ∀ i, i < rs.length → ∃ x, vals[i]? = some x ∧ El w B x (rs.getD i [])
theorem recs_nil (w : World) (B : Nat) : Recs w B (.slice none 0 0) [] := ⟨[], World.ownsRow_nil w B _ 1, fun i hi => absurd hi (by simp)⟩
theorem Recs.shape {w B v rs} (h : Recs w B v rs) : ∃ a cap, v = .slice a rs.length cap ∧ rs.length ≤ cap := by
  obtain ⟨vals, ho, _⟩ := h
  rcases ho.2 with ⟨h1, h2⟩ | ⟨g, cap, cur, h1, _, _, hn, _⟩
  · exact ⟨_, _, by rw [h1, h2], by rw [h2]; exact Nat.le_refl _⟩
  · exact ⟨_, _, h1, hn⟩
theorem Recs.block {w B v rs} (h : Recs w B v rs) {b : Nat} (hb : v.ownBlock = some b) : B ≤ b ∧ b < w.heap.size ∧ ∃ cur, Blk.Is w b 25 cur := by
  obtain ⟨vals, ho, _⟩ := h
  rcases ho.2 with ⟨rfl, _⟩ | ⟨g, cap, cur, rfl, hg, hh, _⟩
  · simp [Value.ownBlock] at hb
  · simp [Value.ownBlock] at hb; subst hb; exact ⟨hg, (show Blk.Is w g _ _ from hh).lt, cur, hh⟩
theorem Recs.chg {w w' : World} {B : Nat} {v : Value} {rs : List (List Int)} {S : Nat → Prop} (h : Recs w B v rs) (hc : Blk.Chg S w w') (hS : Calm S w B) : Recs w' B v rs := by
  have hbl := fun b hb => h.block (b := b) hb
  obtain ⟨vals, ho, hp⟩ := h
  refine ⟨vals, hc.owns ho (fun b hb hs => ?_), fun i hi => ?_⟩
  · obtain ⟨_, _, cur, hcur⟩ := hbl b hb
    exact (hS _ hs).2.2 cur hcur
  · obtain ⟨x, hx, he⟩ := hp i hi
    exact ⟨x, hx, he.chg hc (fun k hk => (hS k hk).1)⟩
theorem Recs.below {w w' : World} {B : Nat} {v : Value} {rs : List (List Int)} (h : Recs w B v rs) (hb : Below w.heap.size w w') : Recs w' B v rs := h.chg (Blk.Chg.ofBelow' hb) (calm_none w B)
theorem El.grown {u u' : World} {B : Nat} {v x : Value} {rs : List (List Int)} {r : List Int} (h : El u B x r) (hr : Recs u B v rs) (hg : u.grownBy u' v.ownBlock) : El u' B x r :=
  h.chg ((Blk.Chg.refl (fun b => v.ownBlock = some b) u).grown hg (fun k e _ => e)) fun k e => (hr.block e).1
theorem Recs.pushed {u u' : World} {B : Nat} {v v' x : Value} {rs : List (List Int)} {r : List Int} (h : Recs u B v rs) (he : El u B x r) (vals : List Value) (hv : ∀ i, i < rs.length → ∃ x, vals[i]? = some x ∧ El u B x (rs.getD i [])) (hl : vals.length = rs.length)
    (h1 : u'.ownsRow B 25 1 v' (rs.length + 1) (vals ++ [x])) (hg : u.grownBy u' v.ownBlock) : Recs u' B v' (rs ++ [r]) := by
  refine ⟨vals ++ [x], by simpa using h1, fun i hi => ?_⟩
  by_cases e : i < rs.length
  · obtain ⟨y, hy, hm⟩ := hv i e
    refine ⟨y, by rw [List.getElem?_append_left (by omega)]; exact hy, ?_⟩
    have : (rs ++ [r]).getD i [] = rs.getD i [] := by
      simp only [List.getD_eq_getElem?_getD]
      rw [List.getElem?_append_left e]
    rw [this]; exact hm.grown h hg
  · have hi' : i = rs.length := by simp at hi; omega
    subst hi'
    refine ⟨x, by rw [List.getElem?_append_right (by omega), hl, Nat.sub_self]; rfl, ?_⟩
    have : (rs ++ [r]).getD rs.length [] = r := by simp
    rw [this]; exact he.grown h hg
theorem append_rec2 {w : World} {ops : Array Oper} {rest : List Oper} {o : Oper} {a : Act} {Q : Exit → Act → World → Prop} (hgd : o.guard = none) (s x : Operand)
    (ho : o.op = .call { callee := .builtin .append, args := #[s, x], argTypes := #[26, 26] })
    (B : Nat) (v : Value) (rs : List (List Int)) (hv : a.eval s = v) (ht : Recs w B v rs) (y : Addr) (c : Nat) (hx : a.eval x = .slice (some y) 1 c) (xv : Value) (r : List Int) (hcell : w.cell? (y.add 0) = some xv) (hm : El w B xv r)
    (hn : rs.length + 1 ≤ 1000000000) (hB : B ≤ w.heap.size)
    (h : ∀ v' w', Recs w' B v' (rs ++ [r]) → w.grownBy w' v.ownBlock → (∀ k, v'.ownBlock = some k → v.ownBlock = some k ∨ w.heap.size ≤ k) → wpList Try.prog ops Q rest (a.put o.dst v') w') : wpList Try.prog ops Q (o :: rest) a w := by
  obtain ⟨i0, hi, hz0, hz1, hz2⟩ := info_parts Ref.infoBytes
  obtain ⟨vals, ho2, hp⟩ := id ht
  have hl : vals.length = rs.length := by rw [ho2.1, Nat.mul_one]
  have hsrc : Src Try.prog 1 26 (.slice (some y) 1 c) 1 [xv] w := by
    refine Src.ofSlice w Try.underlying26 y 1 c [xv] rfl (fun j u hj => ?_) (fun u hu => by rw [List.mem_singleton.1 hu]; exact hm.one)
    have : j = 0 := by have := (List.getElem?_eq_some_iff.1 hj).1; simp at this; omega
    subst this
    simp at hj
    rw [← hj]; exact hcell
  refine wpList_plain hgd fun _ hK => ?_
  exact Own.wp_append_src s x 26 26 ho B 25 i0 _ 1 24 Try.underlying26 hi hz0 hz1 hz2 rfl v rs.length _ hv ho2 _ 1 [xv] hx hsrc (by simp only [maxLen]; omega) (by omega) hB fun v' w' h1 h2 h3 => hK _ _ (h v' w' (ht.pushed hm vals hp hl h1 h2) h2 h3)
theorem Recs.at {w B v rs} (h : Recs w B v rs) (i : Nat) (hi : i < rs.length) : ∃ g cap ai ci, v = .slice (some ⟨g, 0, none⟩) rs.length cap ∧ w.cell? ⟨g, i, none⟩ = some (.slice ai (rs.getD i []).length ci) ∧
    Row w ai (rs.getD i []).length (rs.getD i []) ∧ (rs.getD i []).length ≤ ci ∧ (ai = none → ci = 0) ∧ (0 < (rs.getD i []).length → ∀ y, ai = some y → y.block < B) ∧ El w B (.slice ai (rs.getD i []).length ci) (rs.getD i []) := by
  obtain ⟨vals, ho, hp⟩ := h
  rcases id ho.2 with ⟨_, h2⟩ | ⟨g, cap, cur, h1, hg, hh, hn, hcap, _⟩
  · omega
  · obtain ⟨x, hx, ai, ci, rfl, h2, h3, h4, h5⟩ := hp i hi
    refine ⟨g, cap, ai, ci, h1, ?_, h2, h3, h4, h5, ⟨ai, ci, rfl, h2, h3, h4, h5⟩⟩
    subst h1
    rw [ho.cellAt i (by omega)]; exact hx
set_option maxRecDepth 100000 in
theorem small_any (B : Nat) (v : Value) (ls : List (List Int)) (w : World) (h : Arg B w v ls) (hB : B ≤ w.heap.size) :
    Calls Try.prog 15 #[v] w fun e w' => ∃ v', e = .returned v' ∧ Recs w' B v' (smallL ls) ∧ Below w.heap.size w w' := by
  obtain ⟨hs, a, cap, rfl, hcells⟩ := h
  obtain ⟨n, hn⟩ : ∃ n, ls.length = n := ⟨_, rfl⟩
  rw [hn] at hs hcells
  rw [hn]
  have HN := Lib.hid hn
  have HC := Lib.hid hcells
  clear hn hcells
  go_enter Try.func15, Try.ntmps15
  go_wp2_with fail
  go_loopw [3, 8] (fun v i u => ∃ k : Nat, k ≤ n ∧ i = .int .i64 k ∧ Recs u B v (smallTo ls k) ∧ (∀ b, v.ownBlock = some b → w.heap.size ≤ b) ∧ Below w.heap.size w u) (fun _ i _ => n - (intOf i).toNat)
  case atStart => exact ⟨0, by omega, rfl, by rw [show smallTo ls 0 = [] from rfl]; exact recs_nil _ _, fun b e => by simp [Value.ownBlock] at e, Below.refl _ _⟩
  case round =>
    obtain ⟨k, hk, rfl, hrec, hown, hb⟩ := hrel
    obtain ⟨a5, c5, rfl, hc5⟩ := hrec.shape
    have hlen := smallTo_len ls k
    have HREC := Lib.hid hrec
    have HB := Lib.hid hb
    have hBS := hb.size
    have HO := Lib.hid hown
    clear hrec hb hown
    by_cases hlt : k < n
    · obtain ⟨b, off, rfl, hbB, hat⟩ := HC.out (by omega)
      obtain ⟨ai, ci, h1, h2, h3, h4, h5⟩ := hat k hlt
      have c1 : wr.cell? ⟨b, off + k, none⟩ = some (.slice ai (ls.getD k []).length ci) := by rw [HB.out.cell (by exact Nat.lt_of_lt_of_le hbB hB)]; exact h1
      have hel : El wr B (.slice ai (ls.getD k []).length ci) (ls.getD k []) :=
        ⟨ai, ci, rfl, h2.keep (S := fun k => B ≤ k) (Blk.Chg.ofBelow HB.out fun k _ hk => Nat.le_trans hB hk) (fun hl b off e => by have h7 : b < B := h5 hl _ e; show ¬ B ≤ b; omega), h3, h4, h5⟩
      have hshort := h2.short
      have hsu := smallTo_succ ls k
      obtain ⟨r, hr⟩ : ∃ r, ls.getD k [] = r := ⟨_, rfl⟩
      rw [hr] at c1 hel hshort hsu
      obtain ⟨m, hm⟩ : ∃ m, r.length = m := ⟨_, rfl⟩
      rw [hm] at c1 hel hshort hsu
      have k0 : (0 : Int) ≤ k := by omega
      have k1 : (k : Int) < n := by omega
      have HEL := Lib.hid hel
      clear h1 h2 h3 h4 h5 hat hel hr
      by_cases h20 : k < 20
      · have hd20 : decide ((k : Int) < 20) = true := by simp; omega
        have hs1 := hsu h20 (by rw [HN.out]; exact hlt)
        by_cases h300 : m ≤ 300
        · have hd3 : decide ((m : Int) ≤ 300) = true := by simp; omega
          rw [if_pos h300] at hs1
          have HS1 := Lib.hid hs1
          have bA : Below wr.heap.size wr (wr.alloc (.cells #[.slice ai m ci] 25)) := (Below.refl _ _).alloc (Nat.le_refl _) _
          have hcell : (wr.alloc (.cells #[.slice ai m ci] 25)).cell? ((⟨wr.heap.size, 0, none⟩ : Addr).add 0) = some (.slice ai m ci) := by
            rw [Addr.add_mid]; exact (Blk.Is.new wr 25 #[.slice ai m ci]).at rfl
          have HCE := Lib.hid hcell
          have RA := Lib.hid (HREC.out.below bA)
          have EA := Lib.hid (HEL.out.below bA)
          have BA := Lib.hid (HB.out.trans (bA.mono hBS))
          have hBA : B ≤ (wr.alloc (.cells #[.slice ai m ci] 25)).heap.size := by rw [World.size_alloc]; omega
          clear hsu hs1 hcell bA HREC HEL
          go_wp2_with (at_builtin; refine append_rec2 rfl (.tmp 20) (.tmp 22) rfl B _ _ rfl RA.out _ _ rfl _ r HCE.out EA.out ?_ ?_ ?_)
          · omega
          · exact hBA
          intro v9 w9 r9 g9 k9
          have b9 := BA.out.grown g9 BA.out.size (fun k e => HO.out k e)
          have o9 : ∀ b, v9.ownBlock = some b → w.heap.size ≤ b := fun b e => by
            rcases k9 b e with h | h
            · exact HO.out b h
            · first
                | omega
                | (simp only [World.size_alloc] at h; omega)
          rw [← HS1.out] at r9
          obtain ⟨a9, c9, rfl, _⟩ := r9.shape
          have R9 := Lib.hid r9
          have B9 := Lib.hid b9
          have O9 := Lib.hid o9
          clear r9 b9 g9 k9 o9 RA EA BA hBA HCE c1
          go_wp2
          refine ⟨⟨k + 1, by omega, by go_num, R9.out, O9.out, B9.out⟩, ?_⟩
          simp [intOf]; omega
        · have hd3 : decide ((m : Int) ≤ 300) = false := by simp; omega
          rw [if_neg h300, List.append_nil] at hs1
          have HR1 := Lib.hid (show Recs wr B (.slice a5 (smallTo ls k).length c5) (smallTo ls (k + 1)) by rw [hs1]; exact HREC.out)
          clear hsu hs1 HREC HEL
          go_wp2
          refine ⟨⟨k + 1, by omega, by go_num, HR1.out, HO.out, HB.out⟩, ?_⟩
          simp [intOf]; omega
      · have hd20 : decide ((k : Int) < 20) = false := by simp; omega
        have HR1 := Lib.hid (show Recs wr B (.slice a5 (smallTo ls k).length c5) (smallTo ls (k + 1)) by rw [smallTo_skip ls k (by omega)]; exact HREC.out)
        clear hsu HREC HEL
        go_wp2
        refine ⟨⟨k + 1, by omega, by go_num, HR1.out, HO.out, HB.out⟩, ?_⟩
        simp [intOf]; omega
    · obtain rfl : k = n := by omega
      have hfin : Recs wr B (.slice a5 (smallTo ls k).length c5) (smallL ls) := by
        have := HREC.out
        rw [← HN.out, smallTo_all] at this
        rw [← HN.out, smallTo_all]; exact this
      have HFIN := Lib.hid hfin
      clear hfin HREC
      go_wp2
      go_ret
      exact ⟨_, rfl, HFIN.out, HB.out⟩
end Low
end Wal
end Go.Proofs.Ytjeidfknnophnaa

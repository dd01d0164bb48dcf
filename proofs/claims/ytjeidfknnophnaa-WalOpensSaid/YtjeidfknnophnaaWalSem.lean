/-
What writes, a flush, an Append make of a disk that holds a log; what a crash leaves of it. No program is named here.
-/
import Derived.Test.YtjeidfknnophnaaWalBits
import Derived.Test.YtjeidfknnophnaaWalAppend
namespace Go.Proofs.Ytjeidfknnophnaa
open Go.RowKit
set_option linter.unusedVariables false
namespace Wal
open Disk (Sec Secs St mix mixb hasB crashN crashStep pick)

/-! ### sectors written one behind the other -/
def put (now : List (List Int)) (i : Nat) (zs : List Int) : Nat → List (List Int)
  | 0 => now
  | k + 1 => put (now.set i (zs.take 64)) (i + 1) (zs.drop 64) k
theorem put_length (now : List (List Int)) (i : Nat) (zs : List Int) (k : Nat) : (put now i zs k).length = now.length := by
  induction k generalizing now i zs with
  | zero => rfl
  | succ k ih => rw [put, ih]; simp
theorem put_out (now : List (List Int)) (i : Nat) (zs : List Int) (k j : Nat) (h : j < i ∨ i + k ≤ j) : (put now i zs k).getD j [] = now.getD j [] := by
  induction k generalizing now i zs with
  | zero => rfl
  | succ k ih =>
    rw [put, ih _ _ _ (by omega)]
    simp [List.getElem?_set_ne (show i ≠ j by omega)]
theorem put_in (now : List (List Int)) (i : Nat) (zs : List Int) (k j : Nat) (h : i ≤ j) (h2 : j < i + k) (hl : i + k ≤ now.length) : (put now i zs k).getD j [] = (zs.drop (64 * (j - i))).take 64 := by
  induction k generalizing now i zs with
  | zero => omega
  | succ k ih =>
    rw [put]
    by_cases e : j = i
    · subst e
      rw [put_out _ _ _ _ _ (by omega)]
      simp [show j < now.length by omega]
    · rw [ih _ _ _ (by omega) (by omega) (by simp; omega), List.drop_drop]
      congr 2
      omega
theorem put_secs {N : Nat} {now : List (List Int)} (hs : Secs N now) (i : Nat) (zs : List Int) (k : Nat) (hz : zs.length = 64 * k) (hb : Byte zs) : Secs N (put now i zs k) := by
  induction k generalizing now i zs with
  | zero => exact hs
  | succ k ih =>
    rw [put]
    exact ih (hs.set i ⟨by rw [List.length_take]; omega, hb.take 64⟩) _ _ (by rw [List.length_drop]; omega) (hb.drop 64)
theorem secs_getD {N : Nat} {now : List (List Int)} (hc : now.length = N) (h : ∀ j, j < N → Sec (now.getD j [])) : Secs N now := by
  refine ⟨hc, fun r hr => ?_⟩
  obtain ⟨j, hj, rfl⟩ := List.getElem_of_mem hr
  have := h j (by omega)
  simpa [hj] using this
theorem ext_getD {N : Nat} {a b : List (List Int)} (ha : a.length = N) (hb : b.length = N) (h : ∀ j, j < N → a.getD j [] = b.getD j []) : a = b := by
  apply List.ext_getElem (by omega)
  intro j h1 h2
  have := h j (by omega)
  simpa [h1, h2] using this
theorem bytes_congr {N : Nat} {now now' : List (List Int)} (h1 : now.length = N) (h2 : now'.length = N) (a b : Nat) (hb : b ≤ N) (h : ∀ j, a ≤ j → j < b → now.getD j [] = now'.getD j []) : bytes now a b = bytes now' a b := by
  unfold bytes
  congr 1
  apply List.ext_getElem
  · simp [h1, h2]
  · intro j g1 g2
    simp only [List.length_take, List.length_drop] at g1 g2
    have := h (a + j) (by omega) (by omega)
    simp only [List.getElem_take, List.getElem_drop]
    simpa [show a + j < now.length by omega, show a + j < now'.length by omega] using this
theorem bytes_append {N : Nat} {now : List (List Int)} (hs : Secs N now) (a b c : Nat) (h1 : a ≤ b) (h2 : b ≤ c) (h3 : c ≤ N) : bytes now a c = bytes now a b ++ bytes now b c := by
  have e := List.take_append_drop (64 * (b - a)) (bytes now a c)
  rw [bytes_take hs a c (b - a) (by omega), bytes_drop hs a c (b - a), show a + (b - a) = b by omega] at e
  exact e.symm
theorem put_bytes {N : Nat} {now : List (List Int)} (hs : Secs N now) (i : Nat) (zs : List Int) (k : Nat) (hz : zs.length = 64 * k) (hb : Byte zs) (hk : i + k ≤ N) : bytes (put now i zs k) i (i + k) = zs := by
  have hps := put_secs hs i zs k hz hb
  have key : ∀ m, m ≤ k → bytes (put now i zs k) i (i + m) = zs.take (64 * m) := by
    intro m
    induction m with
    | zero => intro _; rw [Nat.add_zero, bytes_self]; simp
    | succ m ih =>
      intro hm
      rw [← Nat.add_assoc, bytes_succ hps i (i + m) (by omega) (by omega), ih (by omega), put_in now i zs k (i + m) (by omega) (by omega) (by rw [hs.count]; exact hk)]
      rw [show i + m - i = m by omega, show 64 * (m + 1) = 64 * m + 64 by omega, List.take_add]
  rw [key k (Nat.le_refl _), ← hz, List.take_length]

/-! ### the disk's calls -/
theorem St.count_now (s : St) : s.count.now = s.now := rfl
structure Same (s t : St) : Prop where
  fuse : s.fuse = 0 → t.fuse = 0
/-- Sectors written, and made sure; or the power went. -/
def Done (s : St) (N i : Nat) (zs : List Int) (k : Nat) (q : St × Int) : Prop :=
  q.2 = 0 ∧ q.1.off = false ∧ q.1.now = put s.now i zs k ∧ q.1.sure = put s.now i zs k ∧ q.1.calls = s.calls + k + 1 ∧ (s.fuse = 0 → q.1.fuse = 0)
def Lost (s : St) (N i : Nat) (zs : List Int) (k : Nat) (q : St × Int) : Prop :=
  q.2 = 7 ∧ q.1.off = true ∧ q.1.sure = s.sure ∧ Secs N q.1.now ∧ s.fuse ≠ 0 ∧ ∀ j, (j < i ∨ i + k ≤ j) → q.1.now.getD j [] = s.now.getD j []
theorem wsure_spec (N : Nat) (k : Nat) : ∀ (s : St) (i : Nat) (zs : List Int), s.off = false → Secs N s.now → i + k ≤ N → zs.length = 64 * k → Byte zs →
    Done s N i zs k (wsure s i zs k) ∨ Lost s N i zs k (wsure s i zs k) := by
  induction k with
  | zero =>
    intro s i zs ho hs hi hz hb
    rw [wsure]
    cases hc : s.count.off with
    | false =>
      left
      have hfl : s.flush = s.count.flushed := by unfold St.flush; rw [if_neg (by rw [hc]; decide)]
      have hfe : s.flushErr = 0 := by unfold St.flushErr; rw [if_neg (by rw [hc]; decide)]
      rw [hfl, hfe]
      exact ⟨rfl, hc, rfl, rfl, rfl, fun h => by simp [St.flushed, St.count, h]⟩
    | true =>
      right
      have hfl : s.flush = s.count := by unfold St.flush; rw [if_pos hc]
      have hfe : s.flushErr = 7 := by unfold St.flushErr; rw [if_pos hc]
      rw [hfl, hfe]
      refine ⟨rfl, hc, rfl, hs, ?_, fun j _ => rfl⟩
      intro h
      simp [St.count, ho, h] at hc
  | succ k ih =>
    intro s i zs ho hs hi hz hb
    have hlen := hs.count
    have hin : hasB (i : Int) s.now.length = true := by simp [hasB, hlen]; omega
    have hl : (zs.take 64).length = 64 := by rw [List.length_take]; omega
    have hw : s.write i (zs.take 64) = s.count.put i (zs.take 64) := by
      unfold St.write
      rw [if_pos]
      simp [ho, hin, hl]
    have he : s.writeErr i 64 = if s.count.off then 7 else 0 := by
      unfold St.writeErr; simp [hin]
    have hsec : Sec (zs.take 64) := ⟨hl, hb.take 64⟩
    rw [wsure, he, hw]
    cases hc : s.count.off with
    | false =>
      simp only [Bool.false_eq_true, if_false, if_true]
      rcases ih (s.count.put i (zs.take 64)) (i + 1) (zs.drop 64) (by simpa [St.put] using hc) (by simpa [St.put, St.count] using hs.set i hsec) (by omega) (by rw [List.length_drop]; omega) (hb.drop 64) with h | h
      · left
        obtain ⟨h1, h2, h3, h4, h5, h6⟩ := h
        have hnow : (s.count.put (i : Int) (zs.take 64)).now = s.now.set i (zs.take 64) := by simp [St.put, St.count]
        rw [hnow] at h3 h4
        refine ⟨h1, h2, by rw [put]; exact h3, by rw [put]; exact h4, ?_, fun h => h6 ?_⟩
        · rw [h5]; show s.calls + 1 + k + 1 = _; omega
        · simp [St.put, St.count, h]
      · right
        obtain ⟨h1, h2, h3, h4, h5, h6⟩ := h
        refine ⟨h1, h2, h3, h4, fun h => h5 (by simp [St.put, St.count, h]), fun j hj => ?_⟩
        rw [h6 j (by omega)]
        simp [St.put, St.count, List.getElem?_set_ne (show i ≠ j by omega)]
    | true =>
      simp only [if_true]
      rw [if_neg (by decide)]
      right
      refine ⟨rfl, by simpa [St.put] using hc, rfl, by simpa [St.put, St.count] using hs.set i hsec, ?_, fun j hj => ?_⟩
      · intro h; simp [St.count, ho, h] at hc
      · simp [St.put, St.count, List.getElem?_set_ne (show i ≠ j by omega)]

/-! ### crashes -/
theorem crashN_at (sure now : List (List Int)) (p : List Int) (j : Nat) (k : Nat) :
    (crashN sure now p k).1.length = now.length ∧ (now.getD j [] = sure.getD j [] → (crashN sure now p k).1.getD j [] = sure.getD j []) ∧
      (k ≤ j → (crashN sure now p k).1.getD j [] = now.getD j []) ∧
      (j < k → j < now.length → (crashN sure now p k).1.getD j [] = sure.getD j [] ∨ ∃ q, (crashN sure now p k).1.getD j [] = mix (sure.getD j []) (now.getD j []) (pick q)) := by
  induction k with
  | zero => exact ⟨rfl, fun h => h, fun _ => rfl, fun h => by omega⟩
  | succ k ih =>
    obtain ⟨h1, h2, h3, h4⟩ := ih
    rw [crashN, crashStep]
    split
    · rename_i he
      refine ⟨h1, h2, fun h => h3 (by omega), fun hj hl => ?_⟩
      by_cases hjk : j = k
      · subst hjk; exact .inl he
      · exact h4 (by omega) hl
    · rename_i he
      have hset : ∀ r, j ≠ k → ((crashN sure now p k).1.set k r).getD j [] = (crashN sure now p k).1.getD j [] := fun r hjk => by
        simp [List.getD, List.getElem?_set_ne (Ne.symm hjk)]
      refine ⟨by simp [h1], fun h => ?_, fun h => ?_, fun hj hl => ?_⟩
      · have hjk : j ≠ k := by rintro rfl; exact he (h2 h)
        rw [hset _ hjk]; exact h2 h
      · rw [hset _ (by omega)]; exact h3 (by omega)
      · by_cases hjk : j = k
        · subst hjk
          right
          refine ⟨(crashN sure now p j).2, ?_⟩
          have e := h3 (Nat.le_refl _)
          rw [e]
          simp [List.getD, h1, hl]
        · rw [hset _ hjk]; exact h4 (by omega) hl
theorem mixb_mod (a b p : Int) : mixb a b p = mixb a b (p % 256) := by
  have e : BitVec.ofInt 8 p = BitVec.ofInt 8 (p % 256) := by
    apply BitVec.eq_of_toNat_eq
    rw [BitVec.toNat_ofInt, BitVec.toNat_ofInt]
    congr 1
    omega
  unfold mixb bits
  simp only [IntKind.bits]
  rw [e]
theorem mix_mod (a b p : List Int) : mix a b p = mix a b (p.map (· % 256)) := by
  unfold mix
  apply List.map_congr_left
  intro i _
  have e : (p.map (· % 256)).getD i 0 = p.getD i 0 % 256 := by
    simp only [List.getD_eq_getElem?_getD, List.getElem?_map]
    cases p[i]? <;> simp
  rw [e]; exact mixb_mod _ _ _
theorem mod_byte (p : List Int) : Byte (p.map (· % 256)) := fun z hz => by
  obtain ⟨x, _, rfl⟩ := List.mem_map.1 hz
  show 0 ≤ x % 256 ∧ x % 256 < 256
  omega
theorem mix_markAny {m : List Int} (p : List Int) (hm : Sec m) {i : Nat} (hi : i < 512) : mix m (setMark m i) p = m ∨ mix m (setMark m i) p = setMark m i := by
  have hl := hm.len
  have hp : Sec ((List.range 64).map fun i => p.getD i 0 % 256) := ⟨by simp, fun z hz => by
    obtain ⟨x, _, rfl⟩ := List.mem_map.1 hz
    show 0 ≤ _ % 256 ∧ _ % 256 < 256
    omega⟩
  have e : mix m (setMark m i) p = mix m (setMark m i) ((List.range 64).map fun i => p.getD i 0 % 256) := by
    unfold mix
    apply List.map_congr_left
    intro k hk
    have hk' := List.mem_range.1 hk
    have e : ((List.range 64).map fun i => p.getD i 0 % 256).getD k 0 = p.getD k 0 % 256 := by simp [hk']
    rw [e]; exact mixb_mod _ _ _
  rw [e]
  exact mix_mark hm hp hi
theorem mixSec (a b p : List Int) : Sec (mix a b p) := ⟨mix_len a b p, fun z hz => by
  obtain ⟨i, _, rfl⟩ := List.mem_map.1 hz
  show 0 ≤ mixb _ _ _ ∧ mixb _ _ _ < 256
  unfold mixb
  simp only [bits, IntKind.wrap_u8]
  omega⟩
/-- What is there behind a crash. -/
structure Crashed (s t : St) (N : Nat) : Prop where
  off : t.off = false
  fuse : t.fuse = 0
  sure : t.sure = t.now
  secs : Secs N t.now
  calls : t.calls = s.calls
  same : ∀ j, j < N → s.now.getD j [] = s.sure.getD j [] → t.now.getD j [] = s.sure.getD j []
  some : ∀ j, j < N → t.now.getD j [] = s.sure.getD j [] ∨ ∃ p, t.now.getD j [] = mix (s.sure.getD j []) (s.now.getD j []) p
theorem crashed_of (s : St) (N : Nat) (p : List Int) (hn : Secs N s.now) (hs : Secs N s.sure) : Crashed s (s.crashed p) N := by
  have hnow : (s.crashed p).now = (crashN s.sure s.now p s.now.length).1 := rfl
  have hl := hn.count
  have hany : ∀ j, j < N → (s.crashed p).now.getD j [] = s.sure.getD j [] ∨ ∃ q, (s.crashed p).now.getD j [] = mix (s.sure.getD j []) (s.now.getD j []) q := fun j hj => by
    rw [hnow]
    rcases (crashN_at s.sure s.now p j s.now.length).2.2.2 (by omega) (by omega) with h | ⟨q, h⟩
    · exact .inl h
    · exact .inr ⟨_, h⟩
  refine ⟨rfl, rfl, rfl, secs_getD (by rw [hnow, (crashN_at s.sure s.now p 0 s.now.length).1, hl]) fun j hj => ?_, rfl, fun j hj h => ?_, hany⟩
  · rcases hany j hj with h | ⟨q, h⟩
    · rw [h]; exact hs.at hj
    · rw [h]; exact mixSec _ _ _
  · rw [hnow]; exact (crashN_at s.sure s.now p j s.now.length).2.1 h

/-! ### a log on a disk -/
structure Holds (N : Nat) (now : List (List Int)) (a b : Nat) (rs : List (List Int)) : Prop where
  fits : a + 1 + used rs ≤ b
  within : b ≤ N
  few : rs.length ≤ 512
  small : ∀ r ∈ rs, r.length ≤ 8192
  marks : ∀ i, i < 512 → mark (now.getD a []) i = decide (i < rs.length)
  recs : bytes now (a + 1) (a + 1 + used rs) = (rs.map record).flatten
theorem Holds.isMarks {N now a b rs} (h : Holds N now a b rs) : Marks (now.getD a []) rs.length :=
  ⟨h.few, fun i hi => by rw [h.marks i (by have := h.few; omega)]; simpa using hi, fun h5 => by rw [h.marks _ h5]; simp⟩
theorem Holds.read {N now a b rs} (h : Holds N now a b rs) (hs : Secs N now) : rdN (bytes now (a + 1) b) rs.length = some rs := by
  have hf := h.fits
  have := rdN_records rs (bytes now (a + 1) b) h.small (by rw [bytes_take hs (a + 1) b (used rs) (by omega)]; exact h.recs) rs.length (Nat.le_refl _)
  rwa [List.take_length] at this
theorem Holds.congr {N now now' a b rs} (h : Holds N now a b rs) (h1 : now.length = N) (h2 : now'.length = N) (he : ∀ j, a ≤ j → j < a + 1 + used rs → now'.getD j [] = now.getD j []) : Holds N now' a b rs := by
  refine ⟨h.fits, h.within, h.few, h.small, fun i hi => by rw [he a (by omega) (by omega)]; exact h.marks i hi, ?_⟩
  rw [← h.recs]
  exact bytes_congr h2 h1 _ _ (by have := h.fits; have := h.within; omega) fun j g1 g2 => he j (by omega) g2
theorem Holds.push {N now now' a b rs} (h : Holds N now a b rs) (hs : Secs N now) (hs' : Secs N now') (r : List Int) (hr : r.length ≤ 8192) (hf : a + 1 + used rs + needN r.length ≤ b) (hc : rs.length < 512)
    (hm : now'.getD a [] = setMark (now.getD a []) rs.length) (ho : ∀ j, a < j → j < a + 1 + used rs → now'.getD j [] = now.getD j [])
    (hb : bytes now' (a + 1 + used rs) (a + 1 + used rs + needN r.length) = record r) : Holds N now' a b (rs ++ [r]) := by
  have hw := h.within
  have hsa := hs.at (show a < N by omega)
  refine ⟨by rw [used_snoc]; omega, h.within, by simp; omega, fun x hx => ?_, fun i hi => ?_, ?_⟩
  · rcases List.mem_append.1 hx with hx | hx
    · exact h.small x hx
    · rw [List.mem_singleton.1 hx]; exact hr
  · rw [hm, mark_setMark hsa (by omega) hi, h.marks i hi, List.length_append, List.length_singleton, ← Bool.decide_or, decide_eq_decide]
    omega
  · rw [used_snoc, ← Nat.add_assoc, bytes_append hs' (a + 1) (a + 1 + used rs) _ (by omega) (by omega) (by omega), hb, List.map_append, List.flatten_append, ← h.recs]
    congr 1
    · exact bytes_congr hs'.count hs.count _ _ (by omega) fun j g1 g2 => ho j (by omega) g2
    · simp
theorem holds_new {N now a b} (hs : Secs N now) (h1 : a < b) (h2 : b ≤ N) (hz : now.getD a [] = Disk.zero) : Holds N now a b [] :=
  ⟨by simp; omega, h2, by simp, by simp, fun i hi => by rw [hz, zero_mark i hi]; simp, by simp [bytes_self]⟩

/-- A log under way on a disk. -/
structure Live (N : Nat) (s : St) (l : LSt) (a b : Nat) (rs : List (List Int)) : Prop where
  secs : Secs N s.now
  off : s.off = false
  sure : s.sure = s.now
  holds : Holds N s.now a b rs
  log : l = opened a b (s.now.getD a []) rs
/-- Behind an Append that the power has ended: whatever a crash picks, the records, or one more. -/
structure Cut (N : Nat) (s : St) (a b : Nat) (rs : List (List Int)) (r : List Int) : Prop where
  off : s.off = true
  now : Secs N s.now
  sure : Secs N s.sure
  back : ∀ t, Crashed s t N → Holds N t.now a b rs ∨ Holds N t.now a b (rs ++ [r])
theorem append_live {N s l a b rs} (h : Live N s l a b rs) (r : List Int) (hr : r.length ≤ 8192) (hby : Byte r) (hf : a + 1 + used rs + needN r.length ≤ b) (hc : rs.length < 512) :
    ((appendS s l r).2.2 = 0 ∧ Live N (appendS s l r).1 (appendS s l r).2.1 a b (rs ++ [r]) ∧ (appendS s l r).1.calls = s.calls + needN r.length + 3 ∧ (s.fuse = 0 → (appendS s l r).1.fuse = 0) ∧
      ∀ j, (j < a ∨ b ≤ j) → (appendS s l r).1.now.getD j [] = s.now.getD j []) ∨
    ((appendS s l r).2.2 = 7 ∧ (appendS s l r).2.1 = { l with failed := true } ∧ s.fuse ≠ 0 ∧ Cut N (appendS s l r).1 a b rs r) := by
  obtain ⟨hs, ho, hsu, hh, rfl⟩ := h
  have hw := hh.within
  have hN := needN_pos hr
  obtain ⟨n, hn⟩ : ∃ n, needN r.length = n := ⟨_, rfl⟩
  have hrl := record_lenN hr
  have hsa := hs.at (show a < N by omega)
  rw [hn] at hf hN hrl
  have hb1 : (opened a b (s.now.getD a []) rs).next = a + 1 + used rs := rfl
  have hb2 : (opened a b (s.now.getD a []) rs).base = a := rfl
  have hb3 : (opened a b (s.now.getD a []) rs).marks = s.now.getD a [] := rfl
  have hb4 : (opened a b (s.now.getD a []) rs).count = rs.length := rfl
  unfold appendS
  rw [hb1, hb2, hb3, hb4, hn]
  have h1 := wsure_spec N n s (a + 1 + used rs) (record r) ho hs (by omega) hrl (record_byte hby)
  obtain ⟨q1, hq1⟩ : ∃ q, wsure s (a + 1 + used rs) (record r) n = q := ⟨_, rfl⟩
  rw [hq1] at h1 ⊢
  obtain ⟨m, hm⟩ : ∃ m, s.now.getD a [] = m := ⟨_, rfl⟩
  rw [hm] at hsa ⊢
  have hsm := setMark_sec hsa rs.length
  rcases h1 with ⟨d1, d2, d3, d4, d5, d6⟩ | ⟨d1, d2, d3, d4, d5, d6⟩
  · have hps := put_secs hs (a + 1 + used rs) (record r) n hrl (record_byte hby)
    have h2 := wsure_spec N 1 q1.1 a (setMark m rs.length) d2 (by rw [d3]; exact hps) (by omega) hsm.len hsm.byt
    obtain ⟨q2, hq2⟩ : ∃ q, wsure q1.1 a (setMark m rs.length) 1 = q := ⟨_, rfl⟩
    rw [hq2] at h2 ⊢
    rw [if_pos d1]
    have hpa : (put s.now (a + 1 + used rs) (record r) n).getD a [] = m := by rw [put_out _ _ _ _ _ (by omega)]; exact hm
    rcases h2 with ⟨e1, e2, e3, e4, e5, e6⟩ | ⟨e1, e2, e3, e4, e5, e6⟩
    · left
      rw [if_pos e1]
      have hp2 := put_secs hps a (setMark m rs.length) 1 hsm.len hsm.byt
      rw [d3] at e3 e4
      have hat : (put (put s.now (a + 1 + used rs) (record r) n) a (setMark m rs.length) 1).getD a [] = setMark m rs.length := by
        rw [put_in _ _ _ _ _ (Nat.le_refl _) (by omega) (by rw [hps.count]; omega)]
        rw [Nat.sub_self, Nat.mul_zero, List.drop_zero, List.take_of_length_le (by rw [hsm.len]; exact Nat.le_refl _)]
      have hout : ∀ j, j ≠ a → (put (put s.now (a + 1 + used rs) (record r) n) a (setMark m rs.length) 1).getD j [] = (put s.now (a + 1 + used rs) (record r) n).getD j [] := fun j hj => put_out _ _ _ _ _ (by omega)
      have hpush := hh.push hs hp2 r hr (by rw [hn]; exact hf) hc (by rw [hat, hm]) (fun j g1 g2 => by rw [hout j (by omega), put_out _ _ _ _ _ (by omega)]) (by
        rw [hn]
        have := put_bytes hs (a + 1 + used rs) (record r) n hrl (record_byte hby) (by omega)
        exact (bytes_congr hp2.count hps.count _ _ (by omega) fun j g1 g2 => hout j (by omega)).trans this)
      refine ⟨rfl, ⟨by rw [e3]; exact hp2, e2, by rw [e3, e4], by rw [e3]; exact hpush, ?_⟩, ?_, fun h => e6 (d6 h), fun j hj => ?_⟩
      · rw [e3, hat]
        simp only [LSt.stepped, opened, used_snoc, hn, List.length_append, List.length_cons, List.length_nil, Nat.add_assoc]
      · rw [e5, d5]
      · rw [e3, hout j (by omega), put_out _ _ _ _ _ (by omega)]
    · right
      rw [if_neg (by rw [e1]; decide)]
      refine ⟨e1, rfl, fun h => e5 (d6 h), e2, e4, by rw [e3, d4]; exact hps, fun t ht => ?_⟩
      have hsure : q2.1.sure = put s.now (a + 1 + used rs) (record r) n := by rw [e3, d4]
      have hoff : ∀ j, j < N → j ≠ a → t.now.getD j [] = (put s.now (a + 1 + used rs) (record r) n).getD j [] := fun j hj hja => by
        rw [ht.same j hj (by rw [e6 j (by omega), d3, hsure]), hsure]
      have hma : t.now.getD a [] = m ∨ t.now.getD a [] = setMark m rs.length := by
        rcases ht.some a (by omega) with h | ⟨p, h⟩
        · left; rw [h, hsure, hpa]
        · have hqa : q2.1.now.getD a [] = setMark m rs.length ∨ q2.1.now.getD a [] = m := by
            have := hq2
            rw [wsure, wsure] at this
            have hwr : (q1.1.write (a : Int) ((setMark m rs.length).take 64)).now.getD a [] = setMark m rs.length ∨ (q1.1.write (a : Int) ((setMark m rs.length).take 64)).now.getD a [] = m := by
              unfold St.write
              split
              · left
                rw [List.take_of_length_le (by rw [hsm.len]; exact Nat.le_refl _)]
                simp [St.put, St.count, show a < q1.1.now.length by rw [d3, hps.count]; omega]
              · right; rw [St.count_now, d3, hpa]
            have hfl : ∀ x : St, x.flush.now = x.now := fun x => by unfold St.flush; split <;> rfl
            split at this
            · rw [← this]; show (St.flush _).now.getD a [] = _ ∨ _; rw [hfl]; exact hwr
            · rw [← this]; exact hwr
          rw [hsure, hpa] at h
          rcases hqa with hqa | hqa
          · rw [hqa] at h
            rcases mix_markAny p hsa (i := rs.length) (by omega) with g | g
            · left; rw [h, g]
            · right; rw [h, g]
          · left
            rw [hqa] at h
            rw [h]
            apply List.ext_getElem (by rw [mix_len, hsa.len])
            intro k g1 g2
            have g3 := mix_at m m p (k := k) (by rw [mix_len] at g1; exact g1)
            rw [mixb_mod, mixb_self (Byte.getD hsa.byt _) (by omega)] at g3
            simpa [g1, g2] using g3
      rcases hma with hma | hma
      · left
        refine hh.congr hs.count ht.secs.count fun j g1 g2 => ?_
        by_cases hja : j = a
        · subst hja; rw [hma, hm]
        · rw [hoff j (by omega) hja, put_out _ _ _ _ _ (by omega)]
      · right
        refine hh.push hs ht.secs r hr (by rw [hn]; exact hf) hc (by rw [hma, hm]) (fun j g1 g2 => by rw [hoff j (by omega) (by omega), put_out _ _ _ _ _ (by omega)]) ?_
        rw [hn]
        have := put_bytes hs (a + 1 + used rs) (record r) n hrl (record_byte hby) (by omega)
        exact (bytes_congr ht.secs.count hps.count _ _ (by omega) fun j g1 g2 => hoff j (by omega) (by omega)).trans this
  · right
    rw [if_neg (by rw [d1]; decide)]
    refine ⟨d1, rfl, d5, d2, d4, by rw [d3, hsu]; exact hs, fun t ht => .inl ?_⟩
    refine hh.congr hs.count ht.secs.count fun j g1 g2 => ?_
    rw [ht.same j (by omega) (by rw [d6 j (by omega), d3, hsu]), d3, hsu]
end Wal
end Go.Proofs.Ytjeidfknnophnaa

/-
The reader of package relation: white space, signs, words; what is done, taken, run over. The reader of package relation in memory: made, done, a sign taken, a run of signs.
-/
import Derived.Test.YtapmpdljapbpeaaGreatDoorRelSpans
import Derived.Test.YtapmpdljapbpeaaGreatDoorVerParse
import Derived.Test.YtapmpdljapbpeaaGreatDoorBlk
import Derived.StillTailTactics
import Derived.Deep.QuietTactic
import Derived.BigQuiet
namespace Go.Proofs.YtapmpdljapbpeaaGreatDoor
open Go.RowKit
set_option linter.unusedSimpArgs false
set_option linter.unusedVariables false
namespace Rl
open Ver (Bs li li_len S S_self S_of S_size S_li below_drewN)
def whN (c : Nat) : Bool := decide (c = 32) || decide (c = 9)
def sgN (c : Nat) : Bool := decide (c = 60) || decide (c = 61) || decide (c = 62)
def mkN (c : Nat) : Bool := decide (c = 44) || decide (c = 124) || decide (c = 40) || decide (c = 41)
def wdN (c : Nat) : Bool := !whN c && !sgN c && !mkN c
theorem wh_n (c : UInt8) : whN c.toNat = wh c := by unfold wh whN; simp [← UInt8.toNat_inj]
theorem sg_n (c : UInt8) : sgN c.toNat = sg c := by unfold sg sgN; simp [← UInt8.toNat_inj]
theorem mk_n (c : UInt8) : mkN c.toNat = mk c := by unfold mk mkN; simp [← UInt8.toNat_inj]
theorem wd_n (c : UInt8) : wdN c.toNat = wd c := by unfold wd wdN; rw [wh_n, sg_n, mk_n]
theorem isWhite_any (r : Nat) (w : World) : Calls Tryz.prog 159 #[.int .i32 r] w fun e w' => e = .returned (.bool (whN r)) ∧ w' = w := by
  go_enter Tryz.func159, Tryz.ntmps159
  go_wp2_with fail
  all_goals
    go_ret
    refine Ver.ret_bool ?_
    simp [whN]
    try omega
theorem isSign_any (r : Nat) (w : World) : Calls Tryz.prog 144 #[.int .i32 r] w fun e w' => e = .returned (.bool (sgN r)) ∧ w' = w := by
  go_enter Tryz.func144, Tryz.ntmps144
  go_wp2_with fail
  all_goals
    go_ret
    refine Ver.ret_bool ?_
    simp [sgN]
    try omega
theorem index_marks (r : Nat) (h : r < 128) : decide (0 ≤ Lib.indexByte [44, 124, 40, 41] (r : Int).toNat.toUInt8) = mkN r := by
  have : ∀ x : BitVec 7, decide (0 ≤ Lib.indexByte [44, 124, 40, 41] (x.toNat : Int).toNat.toUInt8) = mkN x.toNat := by decide +kernel
  have e := this (BitVec.ofNat 7 r)
  rwa [BitVec.toNat_ofNat, Nat.mod_eq_of_lt (by omega)] at e
theorem contains_any (r : Nat) (w : World) : Calls Tryz.prog 160 #[.string ⟨#[44, 124, 40, 41]⟩, .int .i32 r] w fun e w' => e = .returned (.bool (mkN r)) ∧ Below w.heap.size w w' := by
  by_cases h : r < 128
  · have c := Tryz.strings_ContainsRune_ascii ⟨#[44, 124, 40, 41]⟩ (r : Int) w (by omega) (by omega)
    rw [show (⟨#[44, 124, 40, 41]⟩ : ByteArray).data.toList = [44, 124, 40, 41] from rfl, index_marks r h] at c
    exact c.mono fun e w' hh => ⟨hh.1, by rw [hh.2]; exact Below.refl _ _⟩
  · have c := fun w => indexRune_high (r : Int) w (by omega)
    unfold marks at c
    rw [show mkN r = false by unfold mkN; simp; omega]
    clear h
    go_enter Tryz.func160, Tryz.ntmps160
    go_wp2_with fail
    refine (c _).mono ?_
    rintro e w' ⟨rfl, k⟩
    go_wp2_with fail
    go_ret
    exact ⟨rfl, k⟩
set_option maxRecDepth 100000 in
theorem isWord_any (r : Nat) (w : World) : Calls Tryz.prog 141 #[.int .i32 r] w fun e w' => e = .returned (.bool (wdN r)) ∧ Below w.heap.size w w' := by
  have c1 := fun w => isWhite_any r w
  have c2 := fun w => isSign_any r w
  have c3 := fun w => contains_any r w
  unfold wdN
  generalize whN r = a at *
  generalize sgN r = d at *
  generalize mkN r = f at *
  cases a
  · cases d
    · cases f
      all_goals
        go_enter Tryz.func141, Tryz.ntmps141
        go_wp2_with fail
        refine (c1 _).mono ?_
        rintro e w' ⟨rfl, rfl⟩
        go_wp2_with fail
        refine (c2 _).mono ?_
        rintro e w' ⟨rfl, rfl⟩
        go_wp2_with fail
        refine (c3 _).mono ?_
        rintro e w' ⟨rfl, k⟩
        go_wp2_with fail
        go_ret
        exact ⟨rfl, k⟩
    · go_enter Tryz.func141, Tryz.ntmps141
      go_wp2_with fail
      refine (c1 _).mono ?_
      rintro e w' ⟨rfl, rfl⟩
      go_wp2_with fail
      refine (c2 _).mono ?_
      rintro e w' ⟨rfl, rfl⟩
      go_wp2_with fail
      go_ret
      exact ⟨rfl, Below.refl _ _⟩
  · go_enter Tryz.func141, Tryz.ntmps141
    go_wp2_with fail
    refine (c1 _).mono ?_
    rintro e w' ⟨rfl, rfl⟩
    go_wp2_with fail
    go_ret
    exact ⟨rfl, Below.refl _ _⟩
/-! ### parts of a text -/
theorem spq_wh (l : Bs) : spq whN l = (l.takeWhile wh).length := by unfold spq; simp only [wh_n]
theorem spq_sg (l : Bs) : spq sgN l = (l.takeWhile sg).length := by unfold spq; simp only [sg_n]
theorem spq_wd (l : Bs) : spq wdN l = (l.takeWhile wd).length := by unfold spq; simp only [wd_n]
theorem span_white (s : ByteArray) (w : World) (hs : s.size ≤ 9223372036854775807) :
    Calls Tryz.prog 158 #[.string s, .func (.func 159) #[] #[]] w fun e w' => e = .returned (.int .i64 ((li s).takeWhile wh).length) ∧ Below w.heap.size w w' := by
  have := span_any 159 whN false (fun r h => by unfold whN; simp; omega) Tryz.call159 (fun r w => (isWhite_any r w).mono fun e w' hh => ⟨hh.1, by rw [hh.2]; exact Below.refl _ _⟩) s w hs
  rwa [spq_wh] at this
theorem span_sign (s : ByteArray) (w : World) (hs : s.size ≤ 9223372036854775807) :
    Calls Tryz.prog 158 #[.string s, .func (.func 144) #[] #[]] w fun e w' => e = .returned (.int .i64 ((li s).takeWhile sg).length) ∧ Below w.heap.size w w' := by
  have := span_any 144 sgN false (fun r h => by unfold sgN; simp; omega) Tryz.call144 (fun r w => (isSign_any r w).mono fun e w' hh => ⟨hh.1, by rw [hh.2]; exact Below.refl _ _⟩) s w hs
  rwa [spq_sg] at this
theorem span_word (s : ByteArray) (w : World) (hs : s.size ≤ 9223372036854775807) :
    Calls Tryz.prog 158 #[.string s, .func (.func 141) #[] #[]] w fun e w' => e = .returned (.int .i64 ((li s).takeWhile wd).length) ∧ Below w.heap.size w w' := by
  have := span_any 141 wdN true (fun r h => by unfold wdN whN sgN mkN; simp; omega) Tryz.call141 isWord_any s w hs
  rwa [spq_wd] at this
theorem tw_len (p : UInt8 → Bool) (l : Bs) : (l.takeWhile p).length ≤ l.length := (List.takeWhile_sublist _).length_le
theorem drop_tw (p : UInt8 → Bool) (l : Bs) : l.drop (l.takeWhile p).length = l.dropWhile p := by
  have := List.drop_left (l₁ := l.takeWhile p) (l₂ := l.dropWhile p)
  rwa [List.takeWhile_append_dropWhile] at this
theorem take_tw (p : UInt8 → Bool) (l : Bs) : l.take (l.takeWhile p).length = l.takeWhile p := by
  have := List.take_left (l₁ := l.takeWhile p) (l₂ := l.dropWhile p)
  rwa [List.takeWhile_append_dropWhile] at this
theorem skip_le (l : Bs) : (skip l).length ≤ l.length := (List.dropWhile_sublist _).length_le
set_option maxRecDepth 100000 in
theorem skip_any (s : ByteArray) (w : World) (hs : s.size ≤ 4611686018427387904) :
    Calls Tryz.prog 157 #[.string s] w fun e w' => e = .returned (.string (S (skip (li s)))) ∧ Below w.heap.size w w' := by
  have c := fun w => span_white s w (by omega)
  have hl := tw_len wh (li s)
  rw [li_len] at hl
  have hres : S (skip (li s)) = s.extract ((li s).takeWhile wh).length s.size := (S_of (by rw [Ver.li_ext_end, drop_tw]; rfl)).symm
  rw [hres]
  generalize ((li s).takeWhile wh).length = n at *
  have hl' : (n : Int) ≤ s.size := by omega
  have hwr : IntKind.i64.wrap (n : Int) = (n : Int) := IntWalk.i64_in _ (by omega)
  clear hres
  go_enter Tryz.func157, Tryz.ntmps157
  go_wp2_with fail

  refine (c _).mono ?_
  rintro e w' ⟨rfl, k⟩
  go_wp2_with fail
  go_ret
  exact ⟨rfl, k⟩
end Rl
end Go.Proofs.YtapmpdljapbpeaaGreatDoor
namespace Go.Proofs.YtapmpdljapbpeaaGreatDoor
open Go.RowKit
set_option linter.unusedSimpArgs false
set_option linter.unusedVariables false
namespace Rl
open Ver (Bs li li_len S S_self S_of S_size S_li below_drewN empty_is empty_no)
/-- A reader, at block p: what of the text has not been read yet. -/
def Rd (w : World) (p : Nat) (l : Bs) : Prop := Blk.Is w p 165 #[.string (S l)] ∧ l.length ≤ 4611686018427387904
theorem Rd.chg {w w' : World} {p : Nat} {l : Bs} {Q : Nat → Prop} (h : Rd w p l) (hc : Blk.Chg Q w w') (hn : ¬ Q p) : Rd w' p l := ⟨hc.is h.1 hn, h.2⟩
theorem Rd.below {w w' : World} {p : Nat} {l : Bs} (h : Rd w p l) (hb : Below w.heap.size w w') : Rd w' p l := h.chg (Q := fun _ => False) (Blk.Chg.ofBelow' hb) (by simp)
theorem Rd.set {w : World} {p : Nat} {l : Bs} (h : Rd w p l) (m : Bs) (hm : m.length ≤ 4611686018427387904) : Rd (w.setCell ⟨p, 0, none⟩ (.string (S m))) p m := ⟨by have := h.1.set 0 (.string (S m)); simpa using this, hm⟩
set_option maxRecDepth 100000 in
theorem new_any (s : ByteArray) (w : World) (hs : s.size ≤ 4611686018427387904) :
    Calls Tryz.prog 136 #[.string s] w fun e w' => ∃ p, e = .returned (.pointer (some ⟨p, 0, none⟩)) ∧ w.heap.size ≤ p ∧ Rd w' p (skip (li s)) ∧ Below w.heap.size w w' := by
  have c := fun w => skip_any s w hs
  have hl := skip_le (li s)
  rw [li_len] at hl
  have hl2 : (skip (li s)).length ≤ 4611686018427387904 := by omega
  have HL := Lib.hid hl2
  clear hl hl2
  obtain ⟨m, hm⟩ : ∃ m, skip (li s) = m := ⟨_, rfl⟩
  rw [hm] at c HL ⊢
  clear hm
  go_enter Tryz.func136, Tryz.ntmps136
  go_wp2_with fail
  refine (c _).mono ?_
  rintro e w' ⟨rfl, k⟩
  go_wp2_with fail
  go_ret
  exact ⟨_, rfl, k.size, ⟨Blk.Is.new _ _ _, HL.out⟩, k.alloc k.size _⟩
set_option maxRecDepth 100000 in
theorem done_any (p : Nat) (l : Bs) (w : World) (h : Rd w p l) :
    Calls Tryz.prog 137 #[.pointer (some ⟨p, 0, none⟩)] w fun e w' => e = .returned (.bool (decide (l = []))) ∧ w' = w := by
  have c0 : w.cell? ⟨p, 0, none⟩ = some (.string (S l)) := h.1.at rfl
  have he : (S l).toList.isEmpty = decide (l = []) := by
    rw [Lib.toList_data]; show (l.toArray.toList).isEmpty = _; cases l <;> rfl
  generalize S l = s at *
  go_enter Tryz.func137, Tryz.ntmps137
  go_wp2_with fail
  go_ret
  exact ⟨rfl, rfl⟩
theorem prefix_one (c : UInt8) (l : Bs) : Lib.hasPrefix l [c] = (tk c l).isSome := by
  cases l with
  | nil => rfl
  | cons x l =>
    show List.isPrefixOf [c] (x :: l) = _
    rw [tk_eq]
    by_cases h : x = c
    · rw [if_pos h, h]; simp [List.isPrefixOf]
    · rw [if_neg h]; simp [List.isPrefixOf]; exact fun e => h e.symm
set_option maxRecDepth 100000 in
theorem take_any (p : Nat) (l : Bs) (c : UInt8) (w : World) (h : Rd w p l) :
    Calls Tryz.prog 142 #[.pointer (some ⟨p, 0, none⟩), .string ⟨#[c]⟩] w fun e w' => e = .returned (.bool (tk c l).isSome) ∧ Rd w' p ((tk c l).getD l) ∧ Blk.Chg (fun k => k = p) w w' := by
  have c0 : w.cell? ⟨p, 0, none⟩ = some (.string (S l)) := h.1.at rfl
  have cp := fun w => Tryz.strings_CutPrefix (S l) ⟨#[c]⟩ w
  rw [show (S l).data.toList = l from S_li l, show (⟨#[c]⟩ : ByteArray).data.toList = [c] from rfl, prefix_one] at cp
  have hpl := h.1.lt
  cases ht : tk c l with
  | none =>
    rw [ht] at cp
    generalize (Lib.trimPrefix l [c]).toArray = y at *
    have H := Lib.hid h
    clear h ht
    go_enter Tryz.func142, Tryz.ntmps142
    go_wp2_with fail
    refine (cp _).mono ?_
    rintro e w' ⟨rfl, rfl⟩
    go_wp2_with fail
    go_ret
    exact ⟨rfl, H.out, Blk.Chg.refl _ _⟩
  | some r =>
    obtain ⟨t, rfl, rfl⟩ := tk_some ht
    have e1 : (Lib.trimPrefix (c :: t) [c]).toArray = t.toArray := by
      unfold Lib.trimPrefix
      rw [prefix_one, ht]
      rfl
    rw [ht, e1] at cp
    have hlt : t.length ≤ 4611686018427387904 := by have := h.2; simp at this; omega
    have cs := fun w => skip_any ⟨t.toArray⟩ w (by show t.toArray.size ≤ _; simpa using hlt)
    rw [show li ⟨t.toArray⟩ = t from by show t.toArray.toList = t; simp] at cs
    have hm : (skip t).length ≤ 4611686018427387904 := Nat.le_trans (skip_le t) hlt
    have HM := Lib.hid hm
    have H := Lib.hid h
    clear h ht e1 hlt hm
    generalize (⟨t.toArray⟩ : ByteArray) = y at *
    simp only [Option.getD_some, Option.isSome_some]
    generalize skip t = m at *
    generalize S (c :: t) = z at *
    go_enter Tryz.func142, Tryz.ntmps142
    go_wp2_with fail
    refine (cp _).mono ?_
    rintro e w' ⟨rfl, rfl⟩
    go_wp2_with fail
    refine (cs _).mono ?_
    rintro e w1 ⟨rfl, k⟩
    have h1 := H.out.below k
    have c1 := h1.1.at (i := 0) rfl
    have f1 := h1.1.free 0
    have hs1 := h1.set m HM.out
    have k1 : Blk.Chg (fun k => k = p) w' (w1.setCell ⟨p, 0, none⟩ (.string (S m))) := (Blk.Chg.ofBelow (S := fun k => k = p) k (fun j h1 h2 => by omega)).setAt rfl
    have HS := Lib.hid hs1
    have HK := Lib.hid k1
    clear hs1 k1 h1 k
    go_wp2_with fail
    go_ret
    exact ⟨rfl, HS.out, HK.out⟩
set_option maxRecDepth 100000 in
/-- A run of signs of one kind. -/
theorem run_gen (f : Nat) (pr : UInt8 → Bool) (hspan : ∀ (s : ByteArray) (w : World), s.size ≤ 9223372036854775807 → Calls Tryz.prog 158 #[.string s, .func (.func f) #[] #[]] w fun e w' => e = .returned (.int .i64 ((li s).takeWhile pr).length) ∧ Below w.heap.size w w')
    (p : Nat) (l : Bs) (w : World) (h : Rd w p l) :
    Calls Tryz.prog 140 #[.pointer (some ⟨p, 0, none⟩), .func (.func f) #[] #[]] w fun e w' => e = .returned (.string (S (l.takeWhile pr))) ∧ Rd w' p (skip (l.dropWhile pr)) ∧ Blk.Chg (fun k => k = p) w w' := by
  have c0 : w.cell? ⟨p, 0, none⟩ = some (.string (S l)) := h.1.at rfl
  have hlen := h.2
  have cs := fun w => hspan (S l) w (by rw [S_size]; omega)
  rw [S_li] at cs
  have hl := tw_len pr l
  have e1 : S (l.takeWhile pr) = (S l).extract 0 (l.takeWhile pr).length := (S_of (by rw [Ver.li_ext_zero _ _ (by rw [S_size]; exact hl), S_li, take_tw])).symm
  have e2 : li ((S l).extract (l.takeWhile pr).length (S l).size) = l.dropWhile pr := by rw [Ver.li_ext_end, S_li, drop_tw]
  have e3 : (l.dropWhile pr).length ≤ l.length := (List.dropWhile_sublist _).length_le
  have ck := fun w => skip_any ((S l).extract (l.takeWhile pr).length (S l).size) w (by rw [← li_len, e2]; omega)
  rw [e2] at ck
  have hm : (skip (l.dropWhile pr)).length ≤ 4611686018427387904 := by have := skip_le (l.dropWhile pr); omega
  have hz : (S l).size = l.length := S_size l
  have hl' : ((l.takeWhile pr).length : Int) ≤ (S l).size := by rw [hz]; omega
  have hwr : IntKind.i64.wrap ((l.takeWhile pr).length : Int) = ((l.takeWhile pr).length : Int) := IntWalk.i64_in _ (by omega)
  have hpl := h.1.lt
  rw [e1]
  have HM := Lib.hid hm
  have H := Lib.hid h
  clear h hm e1 e2 e3 hl hz hlen
  generalize skip (l.dropWhile pr) = m at *
  generalize (l.takeWhile pr).length = n at *
  generalize hq : S l = z at *
  clear hq
  go_enter Tryz.func140, Tryz.ntmps140
  go_wp2_with fail
  refine (cs _).mono ?_
  rintro e w1 ⟨rfl, k1⟩
  have c1 := (k1.cell (p := ⟨p, 0, none⟩) hpl).trans c0
  have hpl1 := Nat.lt_of_lt_of_le hpl k1.size
  have H1 := Lib.hid (H.out.below k1)
  clear c0
  go_wp2_with fail
  refine (ck _).mono ?_
  rintro e w2 ⟨rfl, k2⟩
  have h2 := H1.out.below k2
  have c2 := (k2.cell (p := ⟨p, 0, none⟩) hpl1).trans c1
  have f2 := h2.1.free 0
  have hs2 := h2.set m HM.out
  have k3 : Blk.Chg (fun k => k = p) w (w2.setCell ⟨p, 0, none⟩ (.string (S m))) := (Blk.Chg.ofBelow (S := fun k => k = p) (k1.trans (k2.mono k1.size)) (fun j h1 h2 => by omega)).setAt rfl
  have HS := Lib.hid hs2
  have HK := Lib.hid k3
  clear hs2 k3 h2 k1 k2 c1
  go_wp2_with fail
  go_ret
  exact ⟨rfl, HS.out, HK.out⟩
theorem run_word (p : Nat) (l : Bs) (w : World) (h : Rd w p l) :
    Calls Tryz.prog 140 #[.pointer (some ⟨p, 0, none⟩), .func (.func 141) #[] #[]] w fun e w' => e = .returned (.string (S (l.takeWhile wd))) ∧ Rd w' p (skip (l.dropWhile wd)) ∧ Blk.Chg (fun k => k = p) w w' := run_gen 141 wd span_word p l w h
theorem run_sign (p : Nat) (l : Bs) (w : World) (h : Rd w p l) :
    Calls Tryz.prog 140 #[.pointer (some ⟨p, 0, none⟩), .func (.func 144) #[] #[]] w fun e w' => e = .returned (.string (S (l.takeWhile sg))) ∧ Rd w' p (skip (l.dropWhile sg)) ∧ Blk.Chg (fun k => k = p) w w' := run_gen 144 sg span_sign p l w h
end Rl
end Go.Proofs.YtapmpdljapbpeaaGreatDoor

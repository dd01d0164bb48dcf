/-
The reference's Read.
-/
import Derived.Test.YtapmpdljapbpeaaGreatDoorValRead
namespace Go.Proofs.YtapmpdljapbpeaaGreatDoor
open Go.RowKit
set_option linter.unusedSimpArgs false
set_option linter.unusedVariables false
namespace Va
open Ver (Bs li li_len S S_self S_size S_li)
open Rl (At Pv Ats Pvs Clss Cls Vars whole rdC rdA rdP nmB isV erO xsO UC UA UP)
open Stz (sameS)
/-- What the reference's Read tells. -/
def YAns (o : Except Int Vl) (w : World) (rv : Value) (er : Int) : Prop := match o with
  | .ok x => er = 0 ∧ YAt w rv x
  | .error e => er = e ∧ rv = .agg #[.string ⟨#[]⟩, .string ⟨#[]⟩, .int .i64 0, .bool false, .slice none 0 0, .slice none 0 0, .slice none 0 0]
def YRdr (o : Except Int Vl) (w : World) (e : Ending) (w' : World) : Prop := ∃ rv er, e = .returned (.tuple #[rv, .int .i64 er]) ∧ Below w.heap.size w w' ∧ YAns o w' rv er
open Rl (WholeC WholeA WholeP same_C same_A same_P whole_len whole_clen)
theorem hRelation (s : ByteArray) (w : World) (hs : s.size ≤ 4611686018427387904) : Calls Tryz.prog 65 #[.string s] w fun e w' => Below w.heap.size w w' ∧ ∃ v, e = .returned (.tuple #[v, .int .i64 (erO (whole rdC (li s)))]) ∧ Hi w.heap.size w' (fun u => Clss u v (xsO (whole rdC (li s)))) := by
  have hl := fun xs h => whole_len (xs := xs) (rd := rdC) (s := li s) h
  have hc := fun xs h => whole_clen (xs := xs) (s := li s) h
  have c := Rl.yRelation_any s w hs
  rw [← show whole rdC (li s) = Rl.ywhole Rl.yrdC (li s) from same_C _] at c
  generalize whole rdC (li s) = O at *
  refine c.mono fun e w' h => ?_
  unfold Rl.WholeC at h
  cases O with
  | error er => exact ⟨h.1, _, h.2, fun u _ => nilC u⟩
  | ok xs =>
    obtain ⟨hb, v, vs, rfl, h2, h3⟩ := h
    have h4 := hl xs rfl
    exact ⟨hb, v, rfl, hi_clss h2 h3 (show xs.length ≤ _ by omega) fun c hcm => by have := hc xs rfl c hcm; omega⟩
theorem hAtomList (s : ByteArray) (w : World) (hs : s.size ≤ 4611686018427387904) : Calls Tryz.prog 66 #[.string s] w fun e w' => Below w.heap.size w w' ∧ ∃ v, e = .returned (.tuple #[v, .int .i64 (erO (whole rdA (li s)))]) ∧ Hi w.heap.size w' (fun u => Ats u v (xsO (whole rdA (li s)))) := by
  have hl := fun xs h => whole_len (xs := xs) (rd := rdA) (s := li s) h
  have c := Rl.yAtomList_any s w hs
  rw [← show whole rdA (li s) = Rl.ywhole Rl.yrdA (li s) from same_A _] at c
  generalize whole rdA (li s) = O at *
  refine c.mono fun e w' h => ?_
  unfold Rl.WholeA at h
  cases O with
  | error er => exact ⟨h.1, _, h.2, fun u _ => nilA u⟩
  | ok xs =>
    obtain ⟨hb, v, rfl, h2⟩ := h
    have h4 := hl xs rfl
    exact ⟨hb, v, rfl, hi_ats h2 (show xs.length ≤ _ by omega)⟩
theorem hProvideList (s : ByteArray) (w : World) (hs : s.size ≤ 4611686018427387904) : Calls Tryz.prog 67 #[.string s] w fun e w' => Below w.heap.size w w' ∧ ∃ v, e = .returned (.tuple #[v, .int .i64 (erO (whole rdP (li s)))]) ∧ Hi w.heap.size w' (fun u => Pvs u v (xsO (whole rdP (li s)))) := by
  have hl := fun xs h => whole_len (xs := xs) (rd := rdP) (s := li s) h
  have c := Rl.yProvideList_any s w hs
  rw [← show whole rdP (li s) = Rl.ywhole Rl.yrdP (li s) from same_P _] at c
  generalize whole rdP (li s) = O at *
  refine c.mono fun e w' h => ?_
  unfold Rl.WholeP at h
  cases O with
  | error er => exact ⟨h.1, _, h.2, fun u _ => nilP u⟩
  | ok xs =>
    obtain ⟨hb, v, rfl, h2⟩ := h
    have h4 := hl xs rfl
    exact ⟨hb, v, rfl, hi_pvs h2 (show xs.length ≤ _ by omega)⟩
set_option maxRecDepth 100000 in
set_option maxHeartbeats 4000000 in
theorem yread2 (name s : ByteArray) (hn : name.size ≤ 4611686018427387904) (hs : s.size ≤ 4611686018427387904) (h0 : isP0 name = false) (h1 : isP1 name = false) (h2 : isP2 name = true) (h3 : isP3 name = false) (h4 : isP4 name = false) (h5 : isP5 name = false) (h6 : isP6 name = false)  (w : World) :
    Calls Tryz.prog 31 #[.string name, .string s] w fun e w' => YRdr (rd 2 s) w e w' := by
  have hi7 : (Tryz.prog.info? 32).map (·.size) = some 7 := by kernel_rfl
  have i0 := Blk.Is.new w 32 #[.string ⟨#[]⟩, .string ⟨#[]⟩, .int .i64 0, .bool false, .slice none 0 0, .slice none 0 0, .slice none 0 0]
  have b0 : Below w.heap.size w (w.alloc (.cells #[.string ⟨#[]⟩, .string ⟨#[]⟩, .int .i64 0, .bool false, .slice none 0 0, .slice none 0 0, .slice none 0 0] 32)) := (Below.refl _ _).alloc (Nat.le_refl _) _
  have hs0 : (w.alloc (.cells #[.string ⟨#[]⟩, .string ⟨#[]⟩, .int .i64 0, .bool false, .slice none 0 0, .slice none 0 0, .slice none 0 0] 32)).heap.size = w.heap.size + 1 := by simp
  have cs := sort_if name (by omega) (w.alloc (.cells #[.string ⟨#[]⟩, .string ⟨#[]⟩, .int .i64 0, .bool false, .slice none 0 0, .slice none 0 0, .slice none 0 0] 32))
  simp only [h2, h3, h5, h4, h6, if_true, if_false, Bool.false_eq_true, ↓reduceIte] at cs
  have hr : rd 2 s = asV .clauses (whole rdC (li s)) := rfl
  rw [hr]
  have c0 := fun W => hRelation s W hs
  have her : ∀ er, whole rdC (li s) = .error er → er ≠ 0 := fun er h => er_ne (fun l e h => Rl.rdC_err h) h
  clear hr
  generalize whole rdC (li s) = O at *
  have HE := Lib.hid her
  have C0 := Lib.hid c0
  clear her c0
  go_enter Tryz.func31, Tryz.ntmps31
  go_wp2_with fail
  refine cs.mono ?_
  rintro e w1 ⟨rfl, n1, hn1⟩
  have k1 := Rl.drewn_below ⟨n1, hn1⟩
  have i0 := Rl.is_on i0 k1
  have b1 := b0.trans (k1.mono b0.size)
  have s1 : w.heap.size + 1 ≤ w1.heap.size := hs0 ▸ k1.size
  clear cs k1 hn1 b0 hs0
  have i1 := Blk.Is.new w1 32 #[.string ⟨#[99, 108, 97, 117, 115, 101, 115]⟩, .string ⟨#[]⟩, .int .i64 0, .bool false, .slice none 0 0, .slice none 0 0, .slice none 0 0]
  have i0 := i0.alloc (.cells #[.string ⟨#[99, 108, 97, 117, 115, 101, 115]⟩, .string ⟨#[]⟩, .int .i64 0, .bool false, .slice none 0 0, .slice none 0 0, .slice none 0 0] 32)
  have b1 : Below w.heap.size w (w1.alloc (.cells #[.string ⟨#[99, 108, 97, 117, 115, 101, 115]⟩, .string ⟨#[]⟩, .int .i64 0, .bool false, .slice none 0 0, .slice none 0 0, .slice none 0 0] 32)) := b1.alloc b1.size _
  have s2 : (w1.alloc (.cells #[.string ⟨#[99, 108, 97, 117, 115, 101, 115]⟩, .string ⟨#[]⟩, .int .i64 0, .bool false, .slice none 0 0, .slice none 0 0, .slice none 0 0] 32)).heap.size = w1.heap.size + 1 := by simp
  obtain ⟨W, hW⟩ : ∃ W, w1.alloc (.cells #[.string ⟨#[99, 108, 97, 117, 115, 101, 115]⟩, .string ⟨#[]⟩, .int .i64 0, .bool false, .slice none 0 0, .slice none 0 0, .slice none 0 0] 32) = W := ⟨_, rfl⟩
  rw [hW] at i0 i1 b1 s2
  have HW := Lib.hid hW
  clear hW
  have c := C0.out W
  clear hs hn h0 h1 h2 h3 h4 h5 h6 C0
  rw [← HW.out] at c
  go_wp2_with fail
  refine c.mono ?_
  rintro e w2 ⟨k2, v, rfl, hv⟩
  rw [HW.out] at k2 hv
  clear HW
  have i0 := Rl.is_on i0 k2
  have i1 := Rl.is_on i1 k2
  have b1 := b1.trans (k2.mono b1.size)
  obtain ⟨sa, sc, rfl⟩ := hv.here.shape
  obtain ⟨N, hN⟩ : ∃ N, (xsO O).length = N := ⟨_, rfl⟩
  rw [hN] at hv ⊢
  have hc := (Blk.Chg.refl (fun k => k < W.heap.size) w2).setAt (b := w1.heap.size) (o := 4) (u := .slice sa N sc) (show w1.heap.size < W.heap.size by omega)
  have HV := Lib.hid (hv.on hc)
  have HS2 := Lib.hid (show w.heap.size < W.heap.size by omega)
  clear c k2 hv hN hc
  have q0 := i1.at (i := 4) rfl
  have q1 := i1.free 4
  have i0 := i0.setOther (a := ⟨w1.heap.size, 4, none⟩) (.slice sa N sc) (by simp; omega)
  have i1 := i1.set 4 (.slice sa N sc)
  have b1 := b1.setCell (p := ⟨w1.heap.size, 4, none⟩) (by simp; omega) (.slice sa N sc)
  cases O with
  | ok xs =>
    have e0 : erO (.ok xs : Except Int _) = 0 := rfl
    rw [e0]
    clear e0 HE
    obtain ⟨u, hu⟩ : ∃ u, w2.setCell ⟨w1.heap.size, 4, none⟩ (.slice sa N sc) = u := ⟨_, rfl⟩
    rw [hu] at i0 i1 b1 HV
    have L9 := Lib.hid (HV.out.on ((Blk.Chg.refl _ u).setRow (g := w.heap.size) HS2.out #[.string ⟨#[99, 108, 97, 117, 115, 101, 115]⟩, .string ⟨#[]⟩, .int .i64 0, .bool false, .slice sa N sc, .slice none 0 0, .slice none 0 0])).here
    have z0 := i1.at (i := 0) rfl
    have z1 := i1.at (i := 1) rfl
    have z2 := i1.at (i := 2) rfl
    have z3 := i1.at (i := 3) rfl
    have z4 := i1.at (i := 4) rfl
    have z5 := i1.at (i := 5) rfl
    have z6 := i1.at (i := 6) rfl
    have i9 := i0.row #[.string ⟨#[99, 108, 97, 117, 115, 101, 115]⟩, .string ⟨#[]⟩, .int .i64 0, .bool false, .slice sa N sc, .slice none 0 0, .slice none 0 0]
    have b9 := below_row b1 (Nat.le_refl _) #[.string ⟨#[99, 108, 97, 117, 115, 101, 115]⟩, .string ⟨#[]⟩, .int .i64 0, .bool false, .slice sa N sc, .slice none 0 0, .slice none 0 0]
    have y0 := i9.at (i := 0) rfl
    have y1 := i9.at (i := 1) rfl
    have y2 := i9.at (i := 2) rfl
    have y3 := i9.at (i := 3) rfl
    have y4 := i9.at (i := 4) rfl
    have y5 := i9.at (i := 5) rfl
    have y6 := i9.at (i := 6) rfl
    have I0 := Lib.hid i0
    have B9 := Lib.hid b9
    have Y9 := Lib.hid (⟨y0, y1, y2, y3, y4, y5, y6⟩ : _ ∧ _ ∧ _ ∧ _ ∧ _ ∧ _ ∧ _)
    clear i0 i1 i9 b1 b9 y0 y1 y2 y3 y4 y5 y6
    go_wp2_with (refine wpList_store_row rfl 32 (.tmp 4) (.tmp 83) rfl w.heap.size #[.string ⟨#[99, 108, 97, 117, 115, 101, 115]⟩, .string ⟨#[]⟩, .int .i64 0, .bool false, .slice sa N sc, .slice none 0 0, .slice none 0 0] rfl rfl 32 #[.string ⟨#[]⟩, .string ⟨#[]⟩, .int .i64 0, .bool false, .slice none 0 0, .slice none 0 0, .slice none 0 0] I0.out hi7 (by rfl) (by simp [Value.oneCell']) ?_)
    clear hu z0 z1 z2 z3 z4 z5 z6
    obtain ⟨y0, y1, y2, y3, y4, y5, y6⟩ := Y9.out
    refine bodyPost_ret (v := .tuple #[.agg #[.string ⟨#[99, 108, 97, 117, 115, 101, 115]⟩, .string ⟨#[]⟩, .int .i64 0, .bool false, .slice sa N sc, .slice none 0 0, .slice none 0 0], .int .i64 0]) ?_ rfl ?_
    · simp [results, Tryz.results31, go_sem, y0, y1, y2, y3, y4, y5, y6]
    · exact ⟨_, _, rfl, B9.out, rfl, ⟨_, _, _, rfl, L9.out, nilA _, nilP _⟩⟩
  | error er =>
    have e0 : erO (.error er : Except Int (List (List At))) = er := rfl
    have hne : (er != 0) = true := by simp [HE.out er rfl]
    rw [e0]
    clear e0 HE
    obtain ⟨u, hu⟩ : ∃ u, w2.setCell ⟨w1.heap.size, 4, none⟩ (.slice sa N sc) = u := ⟨_, rfl⟩
    rw [hu] at i0 i1 b1
    have i9 := i0.row #[.string ⟨#[]⟩, .string ⟨#[]⟩, .int .i64 0, .bool false, .slice none 0 0, .slice none 0 0, .slice none 0 0]
    have b9 := below_row b1 (Nat.le_refl _) #[.string ⟨#[]⟩, .string ⟨#[]⟩, .int .i64 0, .bool false, .slice none 0 0, .slice none 0 0, .slice none 0 0]
    have y0 := i9.at (i := 0) rfl
    have y1 := i9.at (i := 1) rfl
    have y2 := i9.at (i := 2) rfl
    have y3 := i9.at (i := 3) rfl
    have y4 := i9.at (i := 4) rfl
    have y5 := i9.at (i := 5) rfl
    have y6 := i9.at (i := 6) rfl
    have I0 := Lib.hid i0
    have B9 := Lib.hid b9
    have Y9 := Lib.hid (⟨y0, y1, y2, y3, y4, y5, y6⟩ : _ ∧ _ ∧ _ ∧ _ ∧ _ ∧ _ ∧ _)
    clear i0 i1 i9 b1 b9 y0 y1 y2 y3 y4 y5 y6
    go_wp2_with (refine wpList_store_row rfl 32 (.tmp 4) (.tmp 81) rfl w.heap.size #[.string ⟨#[]⟩, .string ⟨#[]⟩, .int .i64 0, .bool false, .slice none 0 0, .slice none 0 0, .slice none 0 0] rfl rfl 32 #[.string ⟨#[]⟩, .string ⟨#[]⟩, .int .i64 0, .bool false, .slice none 0 0, .slice none 0 0, .slice none 0 0] I0.out hi7 (by rfl) (by simp [Value.oneCell']) ?_)
    clear hu
    obtain ⟨y0, y1, y2, y3, y4, y5, y6⟩ := Y9.out
    refine bodyPost_ret (v := .tuple #[.agg #[.string ⟨#[]⟩, .string ⟨#[]⟩, .int .i64 0, .bool false, .slice none 0 0, .slice none 0 0, .slice none 0 0], .int .i64 er]) ?_ rfl ?_
    · simp [results, Tryz.results31, go_sem, y0, y1, y2, y3, y4, y5, y6]
    · exact ⟨_, _, rfl, B9.out, rfl, rfl⟩
set_option maxRecDepth 100000 in
set_option maxHeartbeats 4000000 in
theorem yread3 (name s : ByteArray) (hn : name.size ≤ 4611686018427387904) (hs : s.size ≤ 4611686018427387904) (h0 : isP0 name = false) (h1 : isP1 name = false) (h2 : isP2 name = false) (h3 : isP3 name = true) (h4 : isP4 name = false) (h5 : isP5 name = false) (h6 : isP6 name = false)  (w : World) :
    Calls Tryz.prog 31 #[.string name, .string s] w fun e w' => YRdr (rd 3 s) w e w' := by
  have hi7 : (Tryz.prog.info? 32).map (·.size) = some 7 := by kernel_rfl
  have i0 := Blk.Is.new w 32 #[.string ⟨#[]⟩, .string ⟨#[]⟩, .int .i64 0, .bool false, .slice none 0 0, .slice none 0 0, .slice none 0 0]
  have b0 : Below w.heap.size w (w.alloc (.cells #[.string ⟨#[]⟩, .string ⟨#[]⟩, .int .i64 0, .bool false, .slice none 0 0, .slice none 0 0, .slice none 0 0] 32)) := (Below.refl _ _).alloc (Nat.le_refl _) _
  have hs0 : (w.alloc (.cells #[.string ⟨#[]⟩, .string ⟨#[]⟩, .int .i64 0, .bool false, .slice none 0 0, .slice none 0 0, .slice none 0 0] 32)).heap.size = w.heap.size + 1 := by simp
  have cs := sort_if name (by omega) (w.alloc (.cells #[.string ⟨#[]⟩, .string ⟨#[]⟩, .int .i64 0, .bool false, .slice none 0 0, .slice none 0 0, .slice none 0 0] 32))
  simp only [h2, h3, h5, h4, h6, if_true, if_false, Bool.false_eq_true, ↓reduceIte] at cs
  have hr : rd 3 s = asV .atoms (whole rdA (li s)) := rfl
  rw [hr]
  have c0 := fun W => hAtomList s W hs
  have her : ∀ er, whole rdA (li s) = .error er → er ≠ 0 := fun er h => er_ne (fun l e h => Rl.rdA_er l e h) h
  clear hr
  generalize whole rdA (li s) = O at *
  have HE := Lib.hid her
  have C0 := Lib.hid c0
  clear her c0
  go_enter Tryz.func31, Tryz.ntmps31
  go_wp2_with fail
  refine cs.mono ?_
  rintro e w1 ⟨rfl, n1, hn1⟩
  have k1 := Rl.drewn_below ⟨n1, hn1⟩
  have i0 := Rl.is_on i0 k1
  have b1 := b0.trans (k1.mono b0.size)
  have s1 : w.heap.size + 1 ≤ w1.heap.size := hs0 ▸ k1.size
  clear cs k1 hn1 b0 hs0
  have i1 := Blk.Is.new w1 32 #[.string ⟨#[97, 116, 111, 109, 115]⟩, .string ⟨#[]⟩, .int .i64 0, .bool false, .slice none 0 0, .slice none 0 0, .slice none 0 0]
  have i0 := i0.alloc (.cells #[.string ⟨#[97, 116, 111, 109, 115]⟩, .string ⟨#[]⟩, .int .i64 0, .bool false, .slice none 0 0, .slice none 0 0, .slice none 0 0] 32)
  have b1 : Below w.heap.size w (w1.alloc (.cells #[.string ⟨#[97, 116, 111, 109, 115]⟩, .string ⟨#[]⟩, .int .i64 0, .bool false, .slice none 0 0, .slice none 0 0, .slice none 0 0] 32)) := b1.alloc b1.size _
  have s2 : (w1.alloc (.cells #[.string ⟨#[97, 116, 111, 109, 115]⟩, .string ⟨#[]⟩, .int .i64 0, .bool false, .slice none 0 0, .slice none 0 0, .slice none 0 0] 32)).heap.size = w1.heap.size + 1 := by simp
  obtain ⟨W, hW⟩ : ∃ W, w1.alloc (.cells #[.string ⟨#[97, 116, 111, 109, 115]⟩, .string ⟨#[]⟩, .int .i64 0, .bool false, .slice none 0 0, .slice none 0 0, .slice none 0 0] 32) = W := ⟨_, rfl⟩
  rw [hW] at i0 i1 b1 s2
  have HW := Lib.hid hW
  clear hW
  have c := C0.out W
  clear hs hn h0 h1 h2 h3 h4 h5 h6 C0
  rw [← HW.out] at c
  go_wp2_with fail
  refine c.mono ?_
  rintro e w2 ⟨k2, v, rfl, hv⟩
  rw [HW.out] at k2 hv
  clear HW
  have i0 := Rl.is_on i0 k2
  have i1 := Rl.is_on i1 k2
  have b1 := b1.trans (k2.mono b1.size)
  obtain ⟨sa, sc, rfl⟩ := hv.here.shape
  obtain ⟨N, hN⟩ : ∃ N, (xsO O).length = N := ⟨_, rfl⟩
  rw [hN] at hv ⊢
  have hc := (Blk.Chg.refl (fun k => k < W.heap.size) w2).setAt (b := w1.heap.size) (o := 5) (u := .slice sa N sc) (show w1.heap.size < W.heap.size by omega)
  have HV := Lib.hid (hv.on hc)
  have HS2 := Lib.hid (show w.heap.size < W.heap.size by omega)
  clear c k2 hv hN hc
  have q0 := i1.at (i := 5) rfl
  have q1 := i1.free 5
  have i0 := i0.setOther (a := ⟨w1.heap.size, 5, none⟩) (.slice sa N sc) (by simp; omega)
  have i1 := i1.set 5 (.slice sa N sc)
  have b1 := b1.setCell (p := ⟨w1.heap.size, 5, none⟩) (by simp; omega) (.slice sa N sc)
  cases O with
  | ok xs =>
    have e0 : erO (.ok xs : Except Int _) = 0 := rfl
    rw [e0]
    clear e0 HE
    obtain ⟨u, hu⟩ : ∃ u, w2.setCell ⟨w1.heap.size, 5, none⟩ (.slice sa N sc) = u := ⟨_, rfl⟩
    rw [hu] at i0 i1 b1 HV
    have L9 := Lib.hid (HV.out.on ((Blk.Chg.refl _ u).setRow (g := w.heap.size) HS2.out #[.string ⟨#[97, 116, 111, 109, 115]⟩, .string ⟨#[]⟩, .int .i64 0, .bool false, .slice none 0 0, .slice sa N sc, .slice none 0 0])).here
    have z0 := i1.at (i := 0) rfl
    have z1 := i1.at (i := 1) rfl
    have z2 := i1.at (i := 2) rfl
    have z3 := i1.at (i := 3) rfl
    have z4 := i1.at (i := 4) rfl
    have z5 := i1.at (i := 5) rfl
    have z6 := i1.at (i := 6) rfl
    have i9 := i0.row #[.string ⟨#[97, 116, 111, 109, 115]⟩, .string ⟨#[]⟩, .int .i64 0, .bool false, .slice none 0 0, .slice sa N sc, .slice none 0 0]
    have b9 := below_row b1 (Nat.le_refl _) #[.string ⟨#[97, 116, 111, 109, 115]⟩, .string ⟨#[]⟩, .int .i64 0, .bool false, .slice none 0 0, .slice sa N sc, .slice none 0 0]
    have y0 := i9.at (i := 0) rfl
    have y1 := i9.at (i := 1) rfl
    have y2 := i9.at (i := 2) rfl
    have y3 := i9.at (i := 3) rfl
    have y4 := i9.at (i := 4) rfl
    have y5 := i9.at (i := 5) rfl
    have y6 := i9.at (i := 6) rfl
    have I0 := Lib.hid i0
    have B9 := Lib.hid b9
    have Y9 := Lib.hid (⟨y0, y1, y2, y3, y4, y5, y6⟩ : _ ∧ _ ∧ _ ∧ _ ∧ _ ∧ _ ∧ _)
    clear i0 i1 i9 b1 b9 y0 y1 y2 y3 y4 y5 y6
    go_wp2_with (refine wpList_store_row rfl 32 (.tmp 4) (.tmp 83) rfl w.heap.size #[.string ⟨#[97, 116, 111, 109, 115]⟩, .string ⟨#[]⟩, .int .i64 0, .bool false, .slice none 0 0, .slice sa N sc, .slice none 0 0] rfl rfl 32 #[.string ⟨#[]⟩, .string ⟨#[]⟩, .int .i64 0, .bool false, .slice none 0 0, .slice none 0 0, .slice none 0 0] I0.out hi7 (by rfl) (by simp [Value.oneCell']) ?_)
    clear hu z0 z1 z2 z3 z4 z5 z6
    obtain ⟨y0, y1, y2, y3, y4, y5, y6⟩ := Y9.out
    refine bodyPost_ret (v := .tuple #[.agg #[.string ⟨#[97, 116, 111, 109, 115]⟩, .string ⟨#[]⟩, .int .i64 0, .bool false, .slice none 0 0, .slice sa N sc, .slice none 0 0], .int .i64 0]) ?_ rfl ?_
    · simp [results, Tryz.results31, go_sem, y0, y1, y2, y3, y4, y5, y6]
    · exact ⟨_, _, rfl, B9.out, rfl, ⟨_, _, _, rfl, nilC _, L9.out, nilP _⟩⟩
  | error er =>
    have e0 : erO (.error er : Except Int (List At)) = er := rfl
    have hne : (er != 0) = true := by simp [HE.out er rfl]
    rw [e0]
    clear e0 HE
    obtain ⟨u, hu⟩ : ∃ u, w2.setCell ⟨w1.heap.size, 5, none⟩ (.slice sa N sc) = u := ⟨_, rfl⟩
    rw [hu] at i0 i1 b1
    have i9 := i0.row #[.string ⟨#[]⟩, .string ⟨#[]⟩, .int .i64 0, .bool false, .slice none 0 0, .slice none 0 0, .slice none 0 0]
    have b9 := below_row b1 (Nat.le_refl _) #[.string ⟨#[]⟩, .string ⟨#[]⟩, .int .i64 0, .bool false, .slice none 0 0, .slice none 0 0, .slice none 0 0]
    have y0 := i9.at (i := 0) rfl
    have y1 := i9.at (i := 1) rfl
    have y2 := i9.at (i := 2) rfl
    have y3 := i9.at (i := 3) rfl
    have y4 := i9.at (i := 4) rfl
    have y5 := i9.at (i := 5) rfl
    have y6 := i9.at (i := 6) rfl
    have I0 := Lib.hid i0
    have B9 := Lib.hid b9
    have Y9 := Lib.hid (⟨y0, y1, y2, y3, y4, y5, y6⟩ : _ ∧ _ ∧ _ ∧ _ ∧ _ ∧ _ ∧ _)
    clear i0 i1 i9 b1 b9 y0 y1 y2 y3 y4 y5 y6
    go_wp2_with (refine wpList_store_row rfl 32 (.tmp 4) (.tmp 81) rfl w.heap.size #[.string ⟨#[]⟩, .string ⟨#[]⟩, .int .i64 0, .bool false, .slice none 0 0, .slice none 0 0, .slice none 0 0] rfl rfl 32 #[.string ⟨#[]⟩, .string ⟨#[]⟩, .int .i64 0, .bool false, .slice none 0 0, .slice none 0 0, .slice none 0 0] I0.out hi7 (by rfl) (by simp [Value.oneCell']) ?_)
    clear hu
    obtain ⟨y0, y1, y2, y3, y4, y5, y6⟩ := Y9.out
    refine bodyPost_ret (v := .tuple #[.agg #[.string ⟨#[]⟩, .string ⟨#[]⟩, .int .i64 0, .bool false, .slice none 0 0, .slice none 0 0, .slice none 0 0], .int .i64 er]) ?_ rfl ?_
    · simp [results, Tryz.results31, go_sem, y0, y1, y2, y3, y4, y5, y6]
    · exact ⟨_, _, rfl, B9.out, rfl, rfl⟩
set_option maxRecDepth 100000 in
set_option maxHeartbeats 4000000 in
theorem yread4 (name s : ByteArray) (hn : name.size ≤ 4611686018427387904) (hs : s.size ≤ 4611686018427387904) (h0 : isP0 name = false) (h1 : isP1 name = false) (h2 : isP2 name = false) (h3 : isP3 name = false) (h4 : isP4 name = true) (h5 : isP5 name = false) (h6 : isP6 name = false)  (w : World) :
    Calls Tryz.prog 31 #[.string name, .string s] w fun e w' => YRdr (rd 4 s) w e w' := by
  have hi7 : (Tryz.prog.info? 32).map (·.size) = some 7 := by kernel_rfl
  have i0 := Blk.Is.new w 32 #[.string ⟨#[]⟩, .string ⟨#[]⟩, .int .i64 0, .bool false, .slice none 0 0, .slice none 0 0, .slice none 0 0]
  have b0 : Below w.heap.size w (w.alloc (.cells #[.string ⟨#[]⟩, .string ⟨#[]⟩, .int .i64 0, .bool false, .slice none 0 0, .slice none 0 0, .slice none 0 0] 32)) := (Below.refl _ _).alloc (Nat.le_refl _) _
  have hs0 : (w.alloc (.cells #[.string ⟨#[]⟩, .string ⟨#[]⟩, .int .i64 0, .bool false, .slice none 0 0, .slice none 0 0, .slice none 0 0] 32)).heap.size = w.heap.size + 1 := by simp
  have cs := sort_if name (by omega) (w.alloc (.cells #[.string ⟨#[]⟩, .string ⟨#[]⟩, .int .i64 0, .bool false, .slice none 0 0, .slice none 0 0, .slice none 0 0] 32))
  simp only [h2, h3, h5, h4, h6, if_true, if_false, Bool.false_eq_true, ↓reduceIte] at cs
  have hr : rd 4 s = asV .provs (whole rdP (li s)) := rfl
  rw [hr]
  have c0 := fun W => hProvideList s W hs
  have her : ∀ er, whole rdP (li s) = .error er → er ≠ 0 := fun er h => er_ne (fun l e h => rdP_er l e h) h
  clear hr
  generalize whole rdP (li s) = O at *
  have HE := Lib.hid her
  have C0 := Lib.hid c0
  clear her c0
  go_enter Tryz.func31, Tryz.ntmps31
  go_wp2_with fail
  refine cs.mono ?_
  rintro e w1 ⟨rfl, n1, hn1⟩
  have k1 := Rl.drewn_below ⟨n1, hn1⟩
  have i0 := Rl.is_on i0 k1
  have b1 := b0.trans (k1.mono b0.size)
  have s1 : w.heap.size + 1 ≤ w1.heap.size := hs0 ▸ k1.size
  clear cs k1 hn1 b0 hs0
  have i1 := Blk.Is.new w1 32 #[.string ⟨#[112, 114, 111, 118, 105, 100, 101, 115]⟩, .string ⟨#[]⟩, .int .i64 0, .bool false, .slice none 0 0, .slice none 0 0, .slice none 0 0]
  have i0 := i0.alloc (.cells #[.string ⟨#[112, 114, 111, 118, 105, 100, 101, 115]⟩, .string ⟨#[]⟩, .int .i64 0, .bool false, .slice none 0 0, .slice none 0 0, .slice none 0 0] 32)
  have b1 : Below w.heap.size w (w1.alloc (.cells #[.string ⟨#[112, 114, 111, 118, 105, 100, 101, 115]⟩, .string ⟨#[]⟩, .int .i64 0, .bool false, .slice none 0 0, .slice none 0 0, .slice none 0 0] 32)) := b1.alloc b1.size _
  have s2 : (w1.alloc (.cells #[.string ⟨#[112, 114, 111, 118, 105, 100, 101, 115]⟩, .string ⟨#[]⟩, .int .i64 0, .bool false, .slice none 0 0, .slice none 0 0, .slice none 0 0] 32)).heap.size = w1.heap.size + 1 := by simp
  obtain ⟨W, hW⟩ : ∃ W, w1.alloc (.cells #[.string ⟨#[112, 114, 111, 118, 105, 100, 101, 115]⟩, .string ⟨#[]⟩, .int .i64 0, .bool false, .slice none 0 0, .slice none 0 0, .slice none 0 0] 32) = W := ⟨_, rfl⟩
  rw [hW] at i0 i1 b1 s2
  have HW := Lib.hid hW
  clear hW
  have c := C0.out W
  clear hs hn h0 h1 h2 h3 h4 h5 h6 C0
  rw [← HW.out] at c
  go_wp2_with fail
  refine c.mono ?_
  rintro e w2 ⟨k2, v, rfl, hv⟩
  rw [HW.out] at k2 hv
  clear HW
  have i0 := Rl.is_on i0 k2
  have i1 := Rl.is_on i1 k2
  have b1 := b1.trans (k2.mono b1.size)
  obtain ⟨sa, sc, rfl⟩ := hv.here.shape
  obtain ⟨N, hN⟩ : ∃ N, (xsO O).length = N := ⟨_, rfl⟩
  rw [hN] at hv ⊢
  have hc := (Blk.Chg.refl (fun k => k < W.heap.size) w2).setAt (b := w1.heap.size) (o := 6) (u := .slice sa N sc) (show w1.heap.size < W.heap.size by omega)
  have HV := Lib.hid (hv.on hc)
  have HS2 := Lib.hid (show w.heap.size < W.heap.size by omega)
  clear c k2 hv hN hc
  have q0 := i1.at (i := 6) rfl
  have q1 := i1.free 6
  have i0 := i0.setOther (a := ⟨w1.heap.size, 6, none⟩) (.slice sa N sc) (by simp; omega)
  have i1 := i1.set 6 (.slice sa N sc)
  have b1 := b1.setCell (p := ⟨w1.heap.size, 6, none⟩) (by simp; omega) (.slice sa N sc)
  cases O with
  | ok xs =>
    have e0 : erO (.ok xs : Except Int _) = 0 := rfl
    rw [e0]
    clear e0 HE
    obtain ⟨u, hu⟩ : ∃ u, w2.setCell ⟨w1.heap.size, 6, none⟩ (.slice sa N sc) = u := ⟨_, rfl⟩
    rw [hu] at i0 i1 b1 HV
    have L9 := Lib.hid (HV.out.on ((Blk.Chg.refl _ u).setRow (g := w.heap.size) HS2.out #[.string ⟨#[112, 114, 111, 118, 105, 100, 101, 115]⟩, .string ⟨#[]⟩, .int .i64 0, .bool false, .slice none 0 0, .slice none 0 0, .slice sa N sc])).here
    have z0 := i1.at (i := 0) rfl
    have z1 := i1.at (i := 1) rfl
    have z2 := i1.at (i := 2) rfl
    have z3 := i1.at (i := 3) rfl
    have z4 := i1.at (i := 4) rfl
    have z5 := i1.at (i := 5) rfl
    have z6 := i1.at (i := 6) rfl
    have i9 := i0.row #[.string ⟨#[112, 114, 111, 118, 105, 100, 101, 115]⟩, .string ⟨#[]⟩, .int .i64 0, .bool false, .slice none 0 0, .slice none 0 0, .slice sa N sc]
    have b9 := below_row b1 (Nat.le_refl _) #[.string ⟨#[112, 114, 111, 118, 105, 100, 101, 115]⟩, .string ⟨#[]⟩, .int .i64 0, .bool false, .slice none 0 0, .slice none 0 0, .slice sa N sc]
    have y0 := i9.at (i := 0) rfl
    have y1 := i9.at (i := 1) rfl
    have y2 := i9.at (i := 2) rfl
    have y3 := i9.at (i := 3) rfl
    have y4 := i9.at (i := 4) rfl
    have y5 := i9.at (i := 5) rfl
    have y6 := i9.at (i := 6) rfl
    have I0 := Lib.hid i0
    have B9 := Lib.hid b9
    have Y9 := Lib.hid (⟨y0, y1, y2, y3, y4, y5, y6⟩ : _ ∧ _ ∧ _ ∧ _ ∧ _ ∧ _ ∧ _)
    clear i0 i1 i9 b1 b9 y0 y1 y2 y3 y4 y5 y6
    go_wp2_with (refine wpList_store_row rfl 32 (.tmp 4) (.tmp 83) rfl w.heap.size #[.string ⟨#[112, 114, 111, 118, 105, 100, 101, 115]⟩, .string ⟨#[]⟩, .int .i64 0, .bool false, .slice none 0 0, .slice none 0 0, .slice sa N sc] rfl rfl 32 #[.string ⟨#[]⟩, .string ⟨#[]⟩, .int .i64 0, .bool false, .slice none 0 0, .slice none 0 0, .slice none 0 0] I0.out hi7 (by rfl) (by simp [Value.oneCell']) ?_)
    clear hu z0 z1 z2 z3 z4 z5 z6
    obtain ⟨y0, y1, y2, y3, y4, y5, y6⟩ := Y9.out
    refine bodyPost_ret (v := .tuple #[.agg #[.string ⟨#[112, 114, 111, 118, 105, 100, 101, 115]⟩, .string ⟨#[]⟩, .int .i64 0, .bool false, .slice none 0 0, .slice none 0 0, .slice sa N sc], .int .i64 0]) ?_ rfl ?_
    · simp [results, Tryz.results31, go_sem, y0, y1, y2, y3, y4, y5, y6]
    · exact ⟨_, _, rfl, B9.out, rfl, ⟨_, _, _, rfl, nilC _, nilA _, L9.out⟩⟩
  | error er =>
    have e0 : erO (.error er : Except Int (List Pv)) = er := rfl
    have hne : (er != 0) = true := by simp [HE.out er rfl]
    rw [e0]
    clear e0 HE
    obtain ⟨u, hu⟩ : ∃ u, w2.setCell ⟨w1.heap.size, 6, none⟩ (.slice sa N sc) = u := ⟨_, rfl⟩
    rw [hu] at i0 i1 b1
    have i9 := i0.row #[.string ⟨#[]⟩, .string ⟨#[]⟩, .int .i64 0, .bool false, .slice none 0 0, .slice none 0 0, .slice none 0 0]
    have b9 := below_row b1 (Nat.le_refl _) #[.string ⟨#[]⟩, .string ⟨#[]⟩, .int .i64 0, .bool false, .slice none 0 0, .slice none 0 0, .slice none 0 0]
    have y0 := i9.at (i := 0) rfl
    have y1 := i9.at (i := 1) rfl
    have y2 := i9.at (i := 2) rfl
    have y3 := i9.at (i := 3) rfl
    have y4 := i9.at (i := 4) rfl
    have y5 := i9.at (i := 5) rfl
    have y6 := i9.at (i := 6) rfl
    have I0 := Lib.hid i0
    have B9 := Lib.hid b9
    have Y9 := Lib.hid (⟨y0, y1, y2, y3, y4, y5, y6⟩ : _ ∧ _ ∧ _ ∧ _ ∧ _ ∧ _ ∧ _)
    clear i0 i1 i9 b1 b9 y0 y1 y2 y3 y4 y5 y6
    go_wp2_with (refine wpList_store_row rfl 32 (.tmp 4) (.tmp 81) rfl w.heap.size #[.string ⟨#[]⟩, .string ⟨#[]⟩, .int .i64 0, .bool false, .slice none 0 0, .slice none 0 0, .slice none 0 0] rfl rfl 32 #[.string ⟨#[]⟩, .string ⟨#[]⟩, .int .i64 0, .bool false, .slice none 0 0, .slice none 0 0, .slice none 0 0] I0.out hi7 (by rfl) (by simp [Value.oneCell']) ?_)
    clear hu
    obtain ⟨y0, y1, y2, y3, y4, y5, y6⟩ := Y9.out
    refine bodyPost_ret (v := .tuple #[.agg #[.string ⟨#[]⟩, .string ⟨#[]⟩, .int .i64 0, .bool false, .slice none 0 0, .slice none 0 0, .slice none 0 0], .int .i64 er]) ?_ rfl ?_
    · simp [results, Tryz.results31, go_sem, y0, y1, y2, y3, y4, y5, y6]
    · exact ⟨_, _, rfl, B9.out, rfl, rfl⟩
set_option maxRecDepth 100000 in
set_option maxHeartbeats 4000000 in
theorem yread6y (name s : ByteArray) (hn : name.size ≤ 4611686018427387904) (hs : s.size ≤ 4611686018427387904) (h0 : isP0 name = false) (h1 : isP1 name = false) (h2 : isP2 name = false) (h3 : isP3 name = false) (h4 : isP4 name = false) (h5 : isP5 name = false) (h6 : isP6 name = true) (hq : Txt.numOK s) (w : World) :
    Calls Tryz.prog 31 #[.string name, .string s] w fun e w' => YRdr (rd 6 s) w e w' := by
  have hi7 : (Tryz.prog.info? 32).map (·.size) = some 7 := by kernel_rfl
  have i0 := Blk.Is.new w 32 #[.string ⟨#[]⟩, .string ⟨#[]⟩, .int .i64 0, .bool false, .slice none 0 0, .slice none 0 0, .slice none 0 0]
  have b0 : Below w.heap.size w (w.alloc (.cells #[.string ⟨#[]⟩, .string ⟨#[]⟩, .int .i64 0, .bool false, .slice none 0 0, .slice none 0 0, .slice none 0 0] 32)) := (Below.refl _ _).alloc (Nat.le_refl _) _
  have hs0 : (w.alloc (.cells #[.string ⟨#[]⟩, .string ⟨#[]⟩, .int .i64 0, .bool false, .slice none 0 0, .slice none 0 0, .slice none 0 0] 32)).heap.size = w.heap.size + 1 := by simp
  have cs := sort_if name (by omega) (w.alloc (.cells #[.string ⟨#[]⟩, .string ⟨#[]⟩, .int .i64 0, .bool false, .slice none 0 0, .slice none 0 0, .slice none 0 0] 32))
  simp only [h2, h3, h5, h4, h6, if_true, if_false, Bool.false_eq_true, ↓reduceIte] at cs
  have hr : rd 6 s = .ok (.count (Txt.numOf s)) := by show (if Txt.numOK s then Except.ok (Vl.count (Txt.numOf s)) else .error 3) = _; rw [if_pos hq]
  rw [hr]
  have c0 := fun W => Txt.ynumber_any s W (by omega)
  simp only [decide_eq_true hq] at c0
  clear hr
  generalize Txt.numOf s = X at *
  go_enter Tryz.func31, Tryz.ntmps31
  go_wp2_with fail
  refine cs.mono ?_
  rintro e w1 ⟨rfl, n1, hn1⟩
  have k1 := Rl.drewn_below ⟨n1, hn1⟩
  have i0 := Rl.is_on i0 k1
  have b1 := b0.trans (k1.mono b0.size)
  have s1 : w.heap.size + 1 ≤ w1.heap.size := hs0 ▸ k1.size
  clear cs k1 hn1 b0 hs0
  have i1 := Blk.Is.new w1 32 #[.string ⟨#[99, 111, 117, 110, 116]⟩, .string ⟨#[]⟩, .int .i64 0, .bool false, .slice none 0 0, .slice none 0 0, .slice none 0 0]
  have i0 := i0.alloc (.cells #[.string ⟨#[99, 111, 117, 110, 116]⟩, .string ⟨#[]⟩, .int .i64 0, .bool false, .slice none 0 0, .slice none 0 0, .slice none 0 0] 32)
  have b1 : Below w.heap.size w (w1.alloc (.cells #[.string ⟨#[99, 111, 117, 110, 116]⟩, .string ⟨#[]⟩, .int .i64 0, .bool false, .slice none 0 0, .slice none 0 0, .slice none 0 0] 32)) := b1.alloc b1.size _
  have s2 : (w1.alloc (.cells #[.string ⟨#[99, 111, 117, 110, 116]⟩, .string ⟨#[]⟩, .int .i64 0, .bool false, .slice none 0 0, .slice none 0 0, .slice none 0 0] 32)).heap.size = w1.heap.size + 1 := by simp
  obtain ⟨W, hW⟩ : ∃ W, w1.alloc (.cells #[.string ⟨#[99, 111, 117, 110, 116]⟩, .string ⟨#[]⟩, .int .i64 0, .bool false, .slice none 0 0, .slice none 0 0, .slice none 0 0] 32) = W := ⟨_, rfl⟩
  rw [hW] at i0 i1 b1 s2
  have HW := Lib.hid hW
  clear hW
  have c := c0 W
  clear hs hn h0 h1 h2 h3 h4 h5 h6 hq c0
  rw [← HW.out] at c
  go_wp2_with fail
  refine c.mono ?_
  rintro e w2 ⟨rfl, hw2⟩
  rw [HW.out] at hw2
  subst hw2
  clear HW c
  have q0 := i1.at (i := 2) rfl
  have q1 := i1.free 2
  have i0 := i0.setOther (a := ⟨w1.heap.size, 2, none⟩) (.int .i64 X) (by simp; omega)
  have i1 := i1.set 2 (.int .i64 X)
  have b1 := b1.setCell (p := ⟨w1.heap.size, 2, none⟩) (by simp; omega) (.int .i64 X)
  obtain ⟨u, hu⟩ : ∃ u, w2.setCell ⟨w1.heap.size, 2, none⟩ (.int .i64 X) = u := ⟨_, rfl⟩
  rw [hu] at i0 i1 b1
  have z0 := i1.at (i := 0) rfl
  have z1 := i1.at (i := 1) rfl
  have z2 := i1.at (i := 2) rfl
  have z3 := i1.at (i := 3) rfl
  have z4 := i1.at (i := 4) rfl
  have z5 := i1.at (i := 5) rfl
  have z6 := i1.at (i := 6) rfl
  have i9 := i0.row #[.string ⟨#[99, 111, 117, 110, 116]⟩, .string ⟨#[]⟩, .int .i64 X, .bool false, .slice none 0 0, .slice none 0 0, .slice none 0 0]
  have b9 := below_row b1 (Nat.le_refl _) #[.string ⟨#[99, 111, 117, 110, 116]⟩, .string ⟨#[]⟩, .int .i64 X, .bool false, .slice none 0 0, .slice none 0 0, .slice none 0 0]
  have y0 := i9.at (i := 0) rfl
  have y1 := i9.at (i := 1) rfl
  have y2 := i9.at (i := 2) rfl
  have y3 := i9.at (i := 3) rfl
  have y4 := i9.at (i := 4) rfl
  have y5 := i9.at (i := 5) rfl
  have y6 := i9.at (i := 6) rfl
  have I0 := Lib.hid i0
  have B9 := Lib.hid b9
  have Y9 := Lib.hid (⟨y0, y1, y2, y3, y4, y5, y6⟩ : _ ∧ _ ∧ _ ∧ _ ∧ _ ∧ _ ∧ _)
  clear i0 i1 i9 b1 b9 y0 y1 y2 y3 y4 y5 y6
  go_wp2_with (refine wpList_store_row rfl 32 (.tmp 4) (.tmp 83) rfl w.heap.size #[.string ⟨#[99, 111, 117, 110, 116]⟩, .string ⟨#[]⟩, .int .i64 X, .bool false, .slice none 0 0, .slice none 0 0, .slice none 0 0] rfl rfl 32 #[.string ⟨#[]⟩, .string ⟨#[]⟩, .int .i64 0, .bool false, .slice none 0 0, .slice none 0 0, .slice none 0 0] I0.out hi7 (by rfl) (by simp [Value.oneCell']) ?_)
  clear hu z0 z1 z2 z3 z4 z5 z6
  obtain ⟨y0, y1, y2, y3, y4, y5, y6⟩ := Y9.out
  refine bodyPost_ret (v := .tuple #[.agg #[.string ⟨#[99, 111, 117, 110, 116]⟩, .string ⟨#[]⟩, .int .i64 X, .bool false, .slice none 0 0, .slice none 0 0, .slice none 0 0], .int .i64 0]) ?_ rfl ?_
  · simp [results, Tryz.results31, go_sem, y0, y1, y2, y3, y4, y5, y6]
  · exact ⟨_, _, rfl, B9.out, rfl, ⟨_, _, _, rfl, nilC _, nilA _, nilP _⟩⟩
set_option maxRecDepth 100000 in
set_option maxHeartbeats 4000000 in
theorem yread6n (name s : ByteArray) (hn : name.size ≤ 4611686018427387904) (hs : s.size ≤ 4611686018427387904) (h0 : isP0 name = false) (h1 : isP1 name = false) (h2 : isP2 name = false) (h3 : isP3 name = false) (h4 : isP4 name = false) (h5 : isP5 name = false) (h6 : isP6 name = true) (hq : ¬ Txt.numOK s) (w : World) :
    Calls Tryz.prog 31 #[.string name, .string s] w fun e w' => YRdr (rd 6 s) w e w' := by
  have hi7 : (Tryz.prog.info? 32).map (·.size) = some 7 := by kernel_rfl
  have i0 := Blk.Is.new w 32 #[.string ⟨#[]⟩, .string ⟨#[]⟩, .int .i64 0, .bool false, .slice none 0 0, .slice none 0 0, .slice none 0 0]
  have b0 : Below w.heap.size w (w.alloc (.cells #[.string ⟨#[]⟩, .string ⟨#[]⟩, .int .i64 0, .bool false, .slice none 0 0, .slice none 0 0, .slice none 0 0] 32)) := (Below.refl _ _).alloc (Nat.le_refl _) _
  have hs0 : (w.alloc (.cells #[.string ⟨#[]⟩, .string ⟨#[]⟩, .int .i64 0, .bool false, .slice none 0 0, .slice none 0 0, .slice none 0 0] 32)).heap.size = w.heap.size + 1 := by simp
  have cs := sort_if name (by omega) (w.alloc (.cells #[.string ⟨#[]⟩, .string ⟨#[]⟩, .int .i64 0, .bool false, .slice none 0 0, .slice none 0 0, .slice none 0 0] 32))
  simp only [h2, h3, h5, h4, h6, if_true, if_false, Bool.false_eq_true, ↓reduceIte] at cs
  have hr : rd 6 s = .error 3 := by show (if Txt.numOK s then Except.ok (Vl.count (Txt.numOf s)) else .error 3) = _; rw [if_neg hq]
  rw [hr]
  have c0 := fun W => Txt.ynumber_any s W (by omega)
  simp only [decide_eq_false hq] at c0
  clear hr
  generalize Txt.numOf s = X at *
  go_enter Tryz.func31, Tryz.ntmps31
  go_wp2_with fail
  refine cs.mono ?_
  rintro e w1 ⟨rfl, n1, hn1⟩
  have k1 := Rl.drewn_below ⟨n1, hn1⟩
  have i0 := Rl.is_on i0 k1
  have b1 := b0.trans (k1.mono b0.size)
  have s1 : w.heap.size + 1 ≤ w1.heap.size := hs0 ▸ k1.size
  clear cs k1 hn1 b0 hs0
  have i1 := Blk.Is.new w1 32 #[.string ⟨#[99, 111, 117, 110, 116]⟩, .string ⟨#[]⟩, .int .i64 0, .bool false, .slice none 0 0, .slice none 0 0, .slice none 0 0]
  have i0 := i0.alloc (.cells #[.string ⟨#[99, 111, 117, 110, 116]⟩, .string ⟨#[]⟩, .int .i64 0, .bool false, .slice none 0 0, .slice none 0 0, .slice none 0 0] 32)
  have b1 : Below w.heap.size w (w1.alloc (.cells #[.string ⟨#[99, 111, 117, 110, 116]⟩, .string ⟨#[]⟩, .int .i64 0, .bool false, .slice none 0 0, .slice none 0 0, .slice none 0 0] 32)) := b1.alloc b1.size _
  have s2 : (w1.alloc (.cells #[.string ⟨#[99, 111, 117, 110, 116]⟩, .string ⟨#[]⟩, .int .i64 0, .bool false, .slice none 0 0, .slice none 0 0, .slice none 0 0] 32)).heap.size = w1.heap.size + 1 := by simp
  obtain ⟨W, hW⟩ : ∃ W, w1.alloc (.cells #[.string ⟨#[99, 111, 117, 110, 116]⟩, .string ⟨#[]⟩, .int .i64 0, .bool false, .slice none 0 0, .slice none 0 0, .slice none 0 0] 32) = W := ⟨_, rfl⟩
  rw [hW] at i0 i1 b1 s2
  have HW := Lib.hid hW
  clear hW
  have c := c0 W
  clear hs hn h0 h1 h2 h3 h4 h5 h6 hq c0
  rw [← HW.out] at c
  go_wp2_with fail
  refine c.mono ?_
  rintro e w2 ⟨rfl, hw2⟩
  rw [HW.out] at hw2
  subst hw2
  clear HW c
  have q0 := i1.at (i := 2) rfl
  have q1 := i1.free 2
  have i0 := i0.setOther (a := ⟨w1.heap.size, 2, none⟩) (.int .i64 X) (by simp; omega)
  have i1 := i1.set 2 (.int .i64 X)
  have b1 := b1.setCell (p := ⟨w1.heap.size, 2, none⟩) (by simp; omega) (.int .i64 X)
  obtain ⟨u, hu⟩ : ∃ u, w2.setCell ⟨w1.heap.size, 2, none⟩ (.int .i64 X) = u := ⟨_, rfl⟩
  rw [hu] at i0 i1 b1
  have i9 := i0.row #[.string ⟨#[]⟩, .string ⟨#[]⟩, .int .i64 0, .bool false, .slice none 0 0, .slice none 0 0, .slice none 0 0]
  have b9 := below_row b1 (Nat.le_refl _) #[.string ⟨#[]⟩, .string ⟨#[]⟩, .int .i64 0, .bool false, .slice none 0 0, .slice none 0 0, .slice none 0 0]
  have y0 := i9.at (i := 0) rfl
  have y1 := i9.at (i := 1) rfl
  have y2 := i9.at (i := 2) rfl
  have y3 := i9.at (i := 3) rfl
  have y4 := i9.at (i := 4) rfl
  have y5 := i9.at (i := 5) rfl
  have y6 := i9.at (i := 6) rfl
  have I0 := Lib.hid i0
  have B9 := Lib.hid b9
  have Y9 := Lib.hid (⟨y0, y1, y2, y3, y4, y5, y6⟩ : _ ∧ _ ∧ _ ∧ _ ∧ _ ∧ _ ∧ _)
  clear i0 i1 i9 b1 b9 y0 y1 y2 y3 y4 y5 y6
  go_wp2_with (refine wpList_store_row rfl 32 (.tmp 4) (.tmp 81) rfl w.heap.size #[.string ⟨#[]⟩, .string ⟨#[]⟩, .int .i64 0, .bool false, .slice none 0 0, .slice none 0 0, .slice none 0 0] rfl rfl 32 #[.string ⟨#[]⟩, .string ⟨#[]⟩, .int .i64 0, .bool false, .slice none 0 0, .slice none 0 0, .slice none 0 0] I0.out hi7 (by rfl) (by simp [Value.oneCell']) ?_)
  clear hu
  obtain ⟨y0, y1, y2, y3, y4, y5, y6⟩ := Y9.out
  refine bodyPost_ret (v := .tuple #[.agg #[.string ⟨#[]⟩, .string ⟨#[]⟩, .int .i64 0, .bool false, .slice none 0 0, .slice none 0 0, .slice none 0 0], .int .i64 3]) ?_ rfl ?_
  · simp [results, Tryz.results31, go_sem, y0, y1, y2, y3, y4, y5, y6]
  · exact ⟨_, _, rfl, B9.out, rfl, rfl⟩
set_option maxRecDepth 100000 in
set_option maxHeartbeats 4000000 in
theorem yread5y (name s : ByteArray) (hn : name.size ≤ 4611686018427387904) (hs : s.size ≤ 4611686018427387904) (h0 : isP0 name = false) (h1 : isP1 name = false) (h2 : isP2 name = false) (h3 : isP3 name = false) (h4 : isP4 name = false) (h5 : isP5 name = true) (h6 : isP6 name = false) (hq : s = yesT) (w : World) :
    Calls Tryz.prog 31 #[.string name, .string s] w fun e w' => YRdr (rd 5 s) w e w' := by
  have hi7 : (Tryz.prog.info? 32).map (·.size) = some 7 := by kernel_rfl
  have i0 := Blk.Is.new w 32 #[.string ⟨#[]⟩, .string ⟨#[]⟩, .int .i64 0, .bool false, .slice none 0 0, .slice none 0 0, .slice none 0 0]
  have b0 : Below w.heap.size w (w.alloc (.cells #[.string ⟨#[]⟩, .string ⟨#[]⟩, .int .i64 0, .bool false, .slice none 0 0, .slice none 0 0, .slice none 0 0] 32)) := (Below.refl _ _).alloc (Nat.le_refl _) _
  have hs0 : (w.alloc (.cells #[.string ⟨#[]⟩, .string ⟨#[]⟩, .int .i64 0, .bool false, .slice none 0 0, .slice none 0 0, .slice none 0 0] 32)).heap.size = w.heap.size + 1 := by simp
  have cs := sort_if name (by omega) (w.alloc (.cells #[.string ⟨#[]⟩, .string ⟨#[]⟩, .int .i64 0, .bool false, .slice none 0 0, .slice none 0 0, .slice none 0 0] 32))
  simp only [h2, h3, h5, h4, h6, if_true, if_false, Bool.false_eq_true, ↓reduceIte] at cs
  have hr : rd 5 s = .ok (.yes true) := by
    show (if s = yesT then Except.ok (Vl.yes true) else if s = noT then .ok (.yes false) else .error 3) = _
    rw [if_pos hq]
  rw [hr]
  clear hr
  subst hq
  unfold yesT
  go_enter Tryz.func31, Tryz.ntmps31
  go_wp2_with fail
  refine cs.mono ?_
  rintro e w1 ⟨rfl, n1, hn1⟩
  have k1 := Rl.drewn_below ⟨n1, hn1⟩
  have i0 := Rl.is_on i0 k1
  have b1 := b0.trans (k1.mono b0.size)
  have s1 : w.heap.size + 1 ≤ w1.heap.size := hs0 ▸ k1.size
  clear cs k1 hn1 b0 hs0
  have i1 := Blk.Is.new w1 32 #[.string ⟨#[121, 101, 115]⟩, .string ⟨#[]⟩, .int .i64 0, .bool true, .slice none 0 0, .slice none 0 0, .slice none 0 0]
  have i0 := i0.alloc (.cells #[.string ⟨#[121, 101, 115]⟩, .string ⟨#[]⟩, .int .i64 0, .bool true, .slice none 0 0, .slice none 0 0, .slice none 0 0] 32)
  have b1 : Below w.heap.size w (w1.alloc (.cells #[.string ⟨#[121, 101, 115]⟩, .string ⟨#[]⟩, .int .i64 0, .bool true, .slice none 0 0, .slice none 0 0, .slice none 0 0] 32)) := b1.alloc b1.size _
  clear hs hn h0 h1 h2 h3 h4 h5 h6
  have hu := hi7
  have z0 := i1.at (i := 0) rfl
  have z1 := i1.at (i := 1) rfl
  have z2 := i1.at (i := 2) rfl
  have z3 := i1.at (i := 3) rfl
  have z4 := i1.at (i := 4) rfl
  have z5 := i1.at (i := 5) rfl
  have z6 := i1.at (i := 6) rfl
  have i9 := i0.row #[.string ⟨#[121, 101, 115]⟩, .string ⟨#[]⟩, .int .i64 0, .bool true, .slice none 0 0, .slice none 0 0, .slice none 0 0]
  have b9 := below_row b1 (Nat.le_refl _) #[.string ⟨#[121, 101, 115]⟩, .string ⟨#[]⟩, .int .i64 0, .bool true, .slice none 0 0, .slice none 0 0, .slice none 0 0]
  have y0 := i9.at (i := 0) rfl
  have y1 := i9.at (i := 1) rfl
  have y2 := i9.at (i := 2) rfl
  have y3 := i9.at (i := 3) rfl
  have y4 := i9.at (i := 4) rfl
  have y5 := i9.at (i := 5) rfl
  have y6 := i9.at (i := 6) rfl
  have I0 := Lib.hid i0
  have B9 := Lib.hid b9
  have Y9 := Lib.hid (⟨y0, y1, y2, y3, y4, y5, y6⟩ : _ ∧ _ ∧ _ ∧ _ ∧ _ ∧ _ ∧ _)
  clear i0 i1 i9 b1 b9 y0 y1 y2 y3 y4 y5 y6
  go_wp2_with (refine wpList_store_row rfl 32 (.tmp 4) (.tmp 83) rfl w.heap.size #[.string ⟨#[121, 101, 115]⟩, .string ⟨#[]⟩, .int .i64 0, .bool true, .slice none 0 0, .slice none 0 0, .slice none 0 0] rfl rfl 32 #[.string ⟨#[]⟩, .string ⟨#[]⟩, .int .i64 0, .bool false, .slice none 0 0, .slice none 0 0, .slice none 0 0] I0.out hi7 (by rfl) (by simp [Value.oneCell']) ?_)
  clear hu z0 z1 z2 z3 z4 z5 z6
  obtain ⟨y0, y1, y2, y3, y4, y5, y6⟩ := Y9.out
  refine bodyPost_ret (v := .tuple #[.agg #[.string ⟨#[121, 101, 115]⟩, .string ⟨#[]⟩, .int .i64 0, .bool true, .slice none 0 0, .slice none 0 0, .slice none 0 0], .int .i64 0]) ?_ rfl ?_
  · simp [results, Tryz.results31, go_sem, y0, y1, y2, y3, y4, y5, y6]
  · exact ⟨_, _, rfl, B9.out, rfl, ⟨_, _, _, rfl, nilC _, nilA _, nilP _⟩⟩
set_option maxRecDepth 100000 in
set_option maxHeartbeats 4000000 in
theorem yread5n (name s : ByteArray) (hn : name.size ≤ 4611686018427387904) (hs : s.size ≤ 4611686018427387904) (h0 : isP0 name = false) (h1 : isP1 name = false) (h2 : isP2 name = false) (h3 : isP3 name = false) (h4 : isP4 name = false) (h5 : isP5 name = true) (h6 : isP6 name = false) (hq : s = noT) (w : World) :
    Calls Tryz.prog 31 #[.string name, .string s] w fun e w' => YRdr (rd 5 s) w e w' := by
  have hi7 : (Tryz.prog.info? 32).map (·.size) = some 7 := by kernel_rfl
  have i0 := Blk.Is.new w 32 #[.string ⟨#[]⟩, .string ⟨#[]⟩, .int .i64 0, .bool false, .slice none 0 0, .slice none 0 0, .slice none 0 0]
  have b0 : Below w.heap.size w (w.alloc (.cells #[.string ⟨#[]⟩, .string ⟨#[]⟩, .int .i64 0, .bool false, .slice none 0 0, .slice none 0 0, .slice none 0 0] 32)) := (Below.refl _ _).alloc (Nat.le_refl _) _
  have hs0 : (w.alloc (.cells #[.string ⟨#[]⟩, .string ⟨#[]⟩, .int .i64 0, .bool false, .slice none 0 0, .slice none 0 0, .slice none 0 0] 32)).heap.size = w.heap.size + 1 := by simp
  have cs := sort_if name (by omega) (w.alloc (.cells #[.string ⟨#[]⟩, .string ⟨#[]⟩, .int .i64 0, .bool false, .slice none 0 0, .slice none 0 0, .slice none 0 0] 32))
  simp only [h2, h3, h5, h4, h6, if_true, if_false, Bool.false_eq_true, ↓reduceIte] at cs
  have hr : rd 5 s = .ok (.yes false) := by
    show (if s = yesT then Except.ok (Vl.yes true) else if s = noT then .ok (.yes false) else .error 3) = _
    rw [if_neg (by rw [hq]; decide), if_pos hq]
  rw [hr]
  clear hr
  subst hq
  unfold noT
  go_enter Tryz.func31, Tryz.ntmps31
  go_wp2_with fail
  refine cs.mono ?_
  rintro e w1 ⟨rfl, n1, hn1⟩
  have k1 := Rl.drewn_below ⟨n1, hn1⟩
  have i0 := Rl.is_on i0 k1
  have b1 := b0.trans (k1.mono b0.size)
  have s1 : w.heap.size + 1 ≤ w1.heap.size := hs0 ▸ k1.size
  clear cs k1 hn1 b0 hs0
  have i1 := Blk.Is.new w1 32 #[.string ⟨#[121, 101, 115]⟩, .string ⟨#[]⟩, .int .i64 0, .bool false, .slice none 0 0, .slice none 0 0, .slice none 0 0]
  have i0 := i0.alloc (.cells #[.string ⟨#[121, 101, 115]⟩, .string ⟨#[]⟩, .int .i64 0, .bool false, .slice none 0 0, .slice none 0 0, .slice none 0 0] 32)
  have b1 : Below w.heap.size w (w1.alloc (.cells #[.string ⟨#[121, 101, 115]⟩, .string ⟨#[]⟩, .int .i64 0, .bool false, .slice none 0 0, .slice none 0 0, .slice none 0 0] 32)) := b1.alloc b1.size _
  clear hs hn h0 h1 h2 h3 h4 h5 h6
  have hu := hi7
  have z0 := i1.at (i := 0) rfl
  have z1 := i1.at (i := 1) rfl
  have z2 := i1.at (i := 2) rfl
  have z3 := i1.at (i := 3) rfl
  have z4 := i1.at (i := 4) rfl
  have z5 := i1.at (i := 5) rfl
  have z6 := i1.at (i := 6) rfl
  have i9 := i0.row #[.string ⟨#[121, 101, 115]⟩, .string ⟨#[]⟩, .int .i64 0, .bool false, .slice none 0 0, .slice none 0 0, .slice none 0 0]
  have b9 := below_row b1 (Nat.le_refl _) #[.string ⟨#[121, 101, 115]⟩, .string ⟨#[]⟩, .int .i64 0, .bool false, .slice none 0 0, .slice none 0 0, .slice none 0 0]
  have y0 := i9.at (i := 0) rfl
  have y1 := i9.at (i := 1) rfl
  have y2 := i9.at (i := 2) rfl
  have y3 := i9.at (i := 3) rfl
  have y4 := i9.at (i := 4) rfl
  have y5 := i9.at (i := 5) rfl
  have y6 := i9.at (i := 6) rfl
  have I0 := Lib.hid i0
  have B9 := Lib.hid b9
  have Y9 := Lib.hid (⟨y0, y1, y2, y3, y4, y5, y6⟩ : _ ∧ _ ∧ _ ∧ _ ∧ _ ∧ _ ∧ _)
  clear i0 i1 i9 b1 b9 y0 y1 y2 y3 y4 y5 y6
  go_wp2_with (refine wpList_store_row rfl 32 (.tmp 4) (.tmp 83) rfl w.heap.size #[.string ⟨#[121, 101, 115]⟩, .string ⟨#[]⟩, .int .i64 0, .bool false, .slice none 0 0, .slice none 0 0, .slice none 0 0] rfl rfl 32 #[.string ⟨#[]⟩, .string ⟨#[]⟩, .int .i64 0, .bool false, .slice none 0 0, .slice none 0 0, .slice none 0 0] I0.out hi7 (by rfl) (by simp [Value.oneCell']) ?_)
  clear hu z0 z1 z2 z3 z4 z5 z6
  obtain ⟨y0, y1, y2, y3, y4, y5, y6⟩ := Y9.out
  refine bodyPost_ret (v := .tuple #[.agg #[.string ⟨#[121, 101, 115]⟩, .string ⟨#[]⟩, .int .i64 0, .bool false, .slice none 0 0, .slice none 0 0, .slice none 0 0], .int .i64 0]) ?_ rfl ?_
  · simp [results, Tryz.results31, go_sem, y0, y1, y2, y3, y4, y5, y6]
  · exact ⟨_, _, rfl, B9.out, rfl, ⟨_, _, _, rfl, nilC _, nilA _, nilP _⟩⟩
set_option maxRecDepth 100000 in
set_option maxHeartbeats 4000000 in
theorem yread5e (name s : ByteArray) (hn : name.size ≤ 4611686018427387904) (hs : s.size ≤ 4611686018427387904) (h0 : isP0 name = false) (h1 : isP1 name = false) (h2 : isP2 name = false) (h3 : isP3 name = false) (h4 : isP4 name = false) (h5 : isP5 name = true) (h6 : isP6 name = false) (hq : (s ≠ yesT ∧ s ≠ noT)) (w : World) :
    Calls Tryz.prog 31 #[.string name, .string s] w fun e w' => YRdr (rd 5 s) w e w' := by
  have hi7 : (Tryz.prog.info? 32).map (·.size) = some 7 := by kernel_rfl
  have i0 := Blk.Is.new w 32 #[.string ⟨#[]⟩, .string ⟨#[]⟩, .int .i64 0, .bool false, .slice none 0 0, .slice none 0 0, .slice none 0 0]
  have b0 : Below w.heap.size w (w.alloc (.cells #[.string ⟨#[]⟩, .string ⟨#[]⟩, .int .i64 0, .bool false, .slice none 0 0, .slice none 0 0, .slice none 0 0] 32)) := (Below.refl _ _).alloc (Nat.le_refl _) _
  have hs0 : (w.alloc (.cells #[.string ⟨#[]⟩, .string ⟨#[]⟩, .int .i64 0, .bool false, .slice none 0 0, .slice none 0 0, .slice none 0 0] 32)).heap.size = w.heap.size + 1 := by simp
  have cs := sort_if name (by omega) (w.alloc (.cells #[.string ⟨#[]⟩, .string ⟨#[]⟩, .int .i64 0, .bool false, .slice none 0 0, .slice none 0 0, .slice none 0 0] 32))
  simp only [h2, h3, h5, h4, h6, if_true, if_false, Bool.false_eq_true, ↓reduceIte] at cs
  have hr : rd 5 s = .error 3 := by
    show (if s = yesT then Except.ok (Vl.yes true) else if s = noT then .ok (.yes false) else .error 3) = _
    rw [if_neg hq.1, if_neg hq.2]
  rw [hr]
  clear hr
  go_enter Tryz.func31, Tryz.ntmps31
  go_wp2_with fail
  refine cs.mono ?_
  rintro e w1 ⟨rfl, n1, hn1⟩
  have k1 := Rl.drewn_below ⟨n1, hn1⟩
  have i0 := Rl.is_on i0 k1
  have b1 := b0.trans (k1.mono b0.size)
  have s1 : w.heap.size + 1 ≤ w1.heap.size := hs0 ▸ k1.size
  clear cs k1 hn1 b0 hs0
  have i1 := Blk.Is.new w1 32 #[.string ⟨#[121, 101, 115]⟩, .string ⟨#[]⟩, .int .i64 0, .bool false, .slice none 0 0, .slice none 0 0, .slice none 0 0]
  have i0 := i0.alloc (.cells #[.string ⟨#[121, 101, 115]⟩, .string ⟨#[]⟩, .int .i64 0, .bool false, .slice none 0 0, .slice none 0 0, .slice none 0 0] 32)
  have b1 : Below w.heap.size w (w1.alloc (.cells #[.string ⟨#[121, 101, 115]⟩, .string ⟨#[]⟩, .int .i64 0, .bool false, .slice none 0 0, .slice none 0 0, .slice none 0 0] 32)) := b1.alloc b1.size _
  clear hs hn h0 h1 h2 h3 h4 h5 h6
  have e1 : (s.toList == [121, 101, 115]) = false := beq_eq_false_iff_ne.2 fun h => hq.1 (ByteArray.ext (Array.ext' (by rw [← Lib.toList_data, h]; rfl)))
  have e2 : (s.toList == [110, 111]) = false := beq_eq_false_iff_ne.2 fun h => hq.2 (ByteArray.ext (Array.ext' (by rw [← Lib.toList_data, h]; rfl)))
  clear hq
  have hu := hi7
  have i9 := i0.row #[.string ⟨#[]⟩, .string ⟨#[]⟩, .int .i64 0, .bool false, .slice none 0 0, .slice none 0 0, .slice none 0 0]
  have b9 := below_row b1 (Nat.le_refl _) #[.string ⟨#[]⟩, .string ⟨#[]⟩, .int .i64 0, .bool false, .slice none 0 0, .slice none 0 0, .slice none 0 0]
  have y0 := i9.at (i := 0) rfl
  have y1 := i9.at (i := 1) rfl
  have y2 := i9.at (i := 2) rfl
  have y3 := i9.at (i := 3) rfl
  have y4 := i9.at (i := 4) rfl
  have y5 := i9.at (i := 5) rfl
  have y6 := i9.at (i := 6) rfl
  have I0 := Lib.hid i0
  have B9 := Lib.hid b9
  have Y9 := Lib.hid (⟨y0, y1, y2, y3, y4, y5, y6⟩ : _ ∧ _ ∧ _ ∧ _ ∧ _ ∧ _ ∧ _)
  clear i0 i1 i9 b1 b9 y0 y1 y2 y3 y4 y5 y6
  go_wp2_with (refine wpList_store_row rfl 32 (.tmp 4) (.tmp 81) rfl w.heap.size #[.string ⟨#[]⟩, .string ⟨#[]⟩, .int .i64 0, .bool false, .slice none 0 0, .slice none 0 0, .slice none 0 0] rfl rfl 32 #[.string ⟨#[]⟩, .string ⟨#[]⟩, .int .i64 0, .bool false, .slice none 0 0, .slice none 0 0, .slice none 0 0] I0.out hi7 (by rfl) (by simp [Value.oneCell']) ?_)
  clear hu
  obtain ⟨y0, y1, y2, y3, y4, y5, y6⟩ := Y9.out
  refine bodyPost_ret (v := .tuple #[.agg #[.string ⟨#[]⟩, .string ⟨#[]⟩, .int .i64 0, .bool false, .slice none 0 0, .slice none 0 0, .slice none 0 0], .int .i64 3]) ?_ rfl ?_
  · simp [results, Tryz.results31, go_sem, y0, y1, y2, y3, y4, y5, y6]
  · exact ⟨_, _, rfl, B9.out, rfl, rfl⟩
set_option maxRecDepth 100000 in
set_option maxHeartbeats 4000000 in
theorem yread7 (name s : ByteArray) (hn : name.size ≤ 4611686018427387904) (hs : s.size ≤ 4611686018427387904) (h0 : isP0 name = false) (h1 : isP1 name = false) (h2 : isP2 name = false) (h3 : isP3 name = false) (h4 : isP4 name = false) (h5 : isP5 name = false) (h6 : isP6 name = false)  (w : World) :
    Calls Tryz.prog 31 #[.string name, .string s] w fun e w' => YRdr (rd 7 s) w e w' := by
  have hi7 : (Tryz.prog.info? 32).map (·.size) = some 7 := by kernel_rfl
  have i0 := Blk.Is.new w 32 #[.string ⟨#[]⟩, .string ⟨#[]⟩, .int .i64 0, .bool false, .slice none 0 0, .slice none 0 0, .slice none 0 0]
  have b0 : Below w.heap.size w (w.alloc (.cells #[.string ⟨#[]⟩, .string ⟨#[]⟩, .int .i64 0, .bool false, .slice none 0 0, .slice none 0 0, .slice none 0 0] 32)) := (Below.refl _ _).alloc (Nat.le_refl _) _
  have hs0 : (w.alloc (.cells #[.string ⟨#[]⟩, .string ⟨#[]⟩, .int .i64 0, .bool false, .slice none 0 0, .slice none 0 0, .slice none 0 0] 32)).heap.size = w.heap.size + 1 := by simp
  have cs := sort_if name (by omega) (w.alloc (.cells #[.string ⟨#[]⟩, .string ⟨#[]⟩, .int .i64 0, .bool false, .slice none 0 0, .slice none 0 0, .slice none 0 0] 32))
  simp only [h2, h3, h5, h4, h6, if_true, if_false, Bool.false_eq_true, ↓reduceIte] at cs
  have hr : rd 7 s = .ok (.text s) := by
    rfl
  rw [hr]
  clear hr
  have e0 : sameS name ⟨#[112, 97, 99, 107, 97, 103, 101]⟩ = isP0 name := by rw [lsP0]; simp [ls0]
  have e1 : sameS name ⟨#[118, 101, 114, 115, 105, 111, 110]⟩ = isP1 name := by rw [lsP1]; simp [ls1]
  have cp := fun w => Stz.ysame_any name ⟨#[112, 97, 99, 107, 97, 103, 101]⟩ w (by omega)
  have cv := fun w => Stz.ysame_any name ⟨#[118, 101, 114, 115, 105, 111, 110]⟩ w (by omega)
  simp only [e0, h0] at cp
  simp only [e1, h1] at cv
  clear e0 e1
  go_enter Tryz.func31, Tryz.ntmps31
  go_wp2_with fail
  refine cs.mono ?_
  rintro e w1 ⟨rfl, n1, hn1⟩
  have k1 := Rl.drewn_below ⟨n1, hn1⟩
  have i0 := Rl.is_on i0 k1
  have b1 := b0.trans (k1.mono b0.size)
  have s1 : w.heap.size + 1 ≤ w1.heap.size := hs0 ▸ k1.size
  clear cs k1 hn1 b0 hs0
  have i1 := Blk.Is.new w1 32 #[.string ⟨#[116, 101, 120, 116]⟩, .string s, .int .i64 0, .bool false, .slice none 0 0, .slice none 0 0, .slice none 0 0]
  have i0 := i0.alloc (.cells #[.string ⟨#[116, 101, 120, 116]⟩, .string s, .int .i64 0, .bool false, .slice none 0 0, .slice none 0 0, .slice none 0 0] 32)
  have b1 : Below w.heap.size w (w1.alloc (.cells #[.string ⟨#[116, 101, 120, 116]⟩, .string s, .int .i64 0, .bool false, .slice none 0 0, .slice none 0 0, .slice none 0 0] 32)) := b1.alloc b1.size _
  clear hs hn h0 h1 h2 h3 h4 h5 h6
  go_wp2_with fail
  refine (cp _).mono ?_
  rintro e w2 ⟨rfl, hd2⟩
  have k2 := Rl.drewn_below hd2
  have i0 := Rl.is_on i0 k2
  have i1 := Rl.is_on i1 k2
  have b1 := b1.trans (k2.mono b1.size)
  clear k2
  clear hd2 cp
  go_wp2_with fail
  refine (cv _).mono ?_
  rintro e w4 ⟨rfl, hd4⟩
  have k4 := Rl.drewn_below hd4
  have i0 := Rl.is_on i0 k4
  have i1 := Rl.is_on i1 k4
  have b1 := b1.trans (k4.mono b1.size)
  clear k4
  clear hd4 cv
  obtain ⟨u, hu⟩ : ∃ u, w4 = u := ⟨_, rfl⟩
  rw [hu] at i0 i1 b1
  have z0 := i1.at (i := 0) rfl
  have z1 := i1.at (i := 1) rfl
  have z2 := i1.at (i := 2) rfl
  have z3 := i1.at (i := 3) rfl
  have z4 := i1.at (i := 4) rfl
  have z5 := i1.at (i := 5) rfl
  have z6 := i1.at (i := 6) rfl
  have i9 := i0.row #[.string ⟨#[116, 101, 120, 116]⟩, .string s, .int .i64 0, .bool false, .slice none 0 0, .slice none 0 0, .slice none 0 0]
  have b9 := below_row b1 (Nat.le_refl _) #[.string ⟨#[116, 101, 120, 116]⟩, .string s, .int .i64 0, .bool false, .slice none 0 0, .slice none 0 0, .slice none 0 0]
  have y0 := i9.at (i := 0) rfl
  have y1 := i9.at (i := 1) rfl
  have y2 := i9.at (i := 2) rfl
  have y3 := i9.at (i := 3) rfl
  have y4 := i9.at (i := 4) rfl
  have y5 := i9.at (i := 5) rfl
  have y6 := i9.at (i := 6) rfl
  have I0 := Lib.hid i0
  have B9 := Lib.hid b9
  have Y9 := Lib.hid (⟨y0, y1, y2, y3, y4, y5, y6⟩ : _ ∧ _ ∧ _ ∧ _ ∧ _ ∧ _ ∧ _)
  clear i0 i1 i9 b1 b9 y0 y1 y2 y3 y4 y5 y6
  go_wp2_with (refine wpList_store_row rfl 32 (.tmp 4) (.tmp 83) rfl w.heap.size #[.string ⟨#[116, 101, 120, 116]⟩, .string s, .int .i64 0, .bool false, .slice none 0 0, .slice none 0 0, .slice none 0 0] rfl rfl 32 #[.string ⟨#[]⟩, .string ⟨#[]⟩, .int .i64 0, .bool false, .slice none 0 0, .slice none 0 0, .slice none 0 0] I0.out hi7 (by rfl) (by simp [Value.oneCell']) ?_)
  clear hu z0 z1 z2 z3 z4 z5 z6
  obtain ⟨y0, y1, y2, y3, y4, y5, y6⟩ := Y9.out
  refine bodyPost_ret (v := .tuple #[.agg #[.string ⟨#[116, 101, 120, 116]⟩, .string s, .int .i64 0, .bool false, .slice none 0 0, .slice none 0 0, .slice none 0 0], .int .i64 0]) ?_ rfl ?_
  · simp [results, Tryz.results31, go_sem, y0, y1, y2, y3, y4, y5, y6]
  · exact ⟨_, _, rfl, B9.out, rfl, ⟨_, _, _, rfl, nilC _, nilA _, nilP _⟩⟩
set_option maxRecDepth 100000 in
set_option maxHeartbeats 4000000 in
theorem yread0y (name s : ByteArray) (hn : name.size ≤ 4611686018427387904) (hs : s.size ≤ 4611686018427387904) (h0 : isP0 name = true) (h1 : isP1 name = false) (h2 : isP2 name = false) (h3 : isP3 name = false) (h4 : isP4 name = false) (h5 : isP5 name = false) (h6 : isP6 name = false) (hq : nmB (li s) = true) (w : World) :
    Calls Tryz.prog 31 #[.string name, .string s] w fun e w' => YRdr (rd 0 s) w e w' := by
  have hi7 : (Tryz.prog.info? 32).map (·.size) = some 7 := by kernel_rfl
  have i0 := Blk.Is.new w 32 #[.string ⟨#[]⟩, .string ⟨#[]⟩, .int .i64 0, .bool false, .slice none 0 0, .slice none 0 0, .slice none 0 0]
  have b0 : Below w.heap.size w (w.alloc (.cells #[.string ⟨#[]⟩, .string ⟨#[]⟩, .int .i64 0, .bool false, .slice none 0 0, .slice none 0 0, .slice none 0 0] 32)) := (Below.refl _ _).alloc (Nat.le_refl _) _
  have hs0 : (w.alloc (.cells #[.string ⟨#[]⟩, .string ⟨#[]⟩, .int .i64 0, .bool false, .slice none 0 0, .slice none 0 0, .slice none 0 0] 32)).heap.size = w.heap.size + 1 := by simp
  have cs := sort_if name (by omega) (w.alloc (.cells #[.string ⟨#[]⟩, .string ⟨#[]⟩, .int .i64 0, .bool false, .slice none 0 0, .slice none 0 0, .slice none 0 0] 32))
  simp only [h2, h3, h5, h4, h6, if_true, if_false, Bool.false_eq_true, ↓reduceIte] at cs
  have hr : rd 0 s = .ok (.text s) := by
    show (if nmB (li s) then Except.ok (Vl.text s) else .error 3) = _; rw [hq]; rfl
  rw [hr]
  clear hr
  have e0 : sameS name ⟨#[112, 97, 99, 107, 97, 103, 101]⟩ = isP0 name := by rw [lsP0]; simp [ls0]
  have e1 : sameS name ⟨#[118, 101, 114, 115, 105, 111, 110]⟩ = isP1 name := by rw [lsP1]; simp [ls1]
  have cp := fun w => Stz.ysame_any name ⟨#[112, 97, 99, 107, 97, 103, 101]⟩ w (by omega)
  have cv := fun w => Stz.ysame_any name ⟨#[118, 101, 114, 115, 105, 111, 110]⟩ w (by omega)
  simp only [e0, h0] at cp
  simp only [e1, h1] at cv
  have cn := fun w => Rl.yname_any (li s) w (by rw [li_len]; exact hs)
  simp only [S_self, hq] at cn
  clear e0 e1
  go_enter Tryz.func31, Tryz.ntmps31
  go_wp2_with fail
  refine cs.mono ?_
  rintro e w1 ⟨rfl, n1, hn1⟩
  have k1 := Rl.drewn_below ⟨n1, hn1⟩
  have i0 := Rl.is_on i0 k1
  have b1 := b0.trans (k1.mono b0.size)
  have s1 : w.heap.size + 1 ≤ w1.heap.size := hs0 ▸ k1.size
  clear cs k1 hn1 b0 hs0
  have i1 := Blk.Is.new w1 32 #[.string ⟨#[116, 101, 120, 116]⟩, .string s, .int .i64 0, .bool false, .slice none 0 0, .slice none 0 0, .slice none 0 0]
  have i0 := i0.alloc (.cells #[.string ⟨#[116, 101, 120, 116]⟩, .string s, .int .i64 0, .bool false, .slice none 0 0, .slice none 0 0, .slice none 0 0] 32)
  have b1 : Below w.heap.size w (w1.alloc (.cells #[.string ⟨#[116, 101, 120, 116]⟩, .string s, .int .i64 0, .bool false, .slice none 0 0, .slice none 0 0, .slice none 0 0] 32)) := b1.alloc b1.size _
  clear hs hn h0 h1 h2 h3 h4 h5 h6
  go_wp2_with fail
  refine (cp _).mono ?_
  rintro e w2 ⟨rfl, hd2⟩
  have k2 := Rl.drewn_below hd2
  have i0 := Rl.is_on i0 k2
  have i1 := Rl.is_on i1 k2
  have b1 := b1.trans (k2.mono b1.size)
  clear k2
  clear hd2 cp
  go_wp2_with fail
  refine (cn _).mono ?_
  rintro e w3 ⟨rfl, rfl⟩
  clear cn
  go_wp2_with fail
  refine (cv _).mono ?_
  rintro e w4 ⟨rfl, hd4⟩
  have k4 := Rl.drewn_below hd4
  have i0 := Rl.is_on i0 k4
  have i1 := Rl.is_on i1 k4
  have b1 := b1.trans (k4.mono b1.size)
  clear k4
  clear hd4 cv
  obtain ⟨u, hu⟩ : ∃ u, w4 = u := ⟨_, rfl⟩
  rw [hu] at i0 i1 b1
  have z0 := i1.at (i := 0) rfl
  have z1 := i1.at (i := 1) rfl
  have z2 := i1.at (i := 2) rfl
  have z3 := i1.at (i := 3) rfl
  have z4 := i1.at (i := 4) rfl
  have z5 := i1.at (i := 5) rfl
  have z6 := i1.at (i := 6) rfl
  have i9 := i0.row #[.string ⟨#[116, 101, 120, 116]⟩, .string s, .int .i64 0, .bool false, .slice none 0 0, .slice none 0 0, .slice none 0 0]
  have b9 := below_row b1 (Nat.le_refl _) #[.string ⟨#[116, 101, 120, 116]⟩, .string s, .int .i64 0, .bool false, .slice none 0 0, .slice none 0 0, .slice none 0 0]
  have y0 := i9.at (i := 0) rfl
  have y1 := i9.at (i := 1) rfl
  have y2 := i9.at (i := 2) rfl
  have y3 := i9.at (i := 3) rfl
  have y4 := i9.at (i := 4) rfl
  have y5 := i9.at (i := 5) rfl
  have y6 := i9.at (i := 6) rfl
  have I0 := Lib.hid i0
  have B9 := Lib.hid b9
  have Y9 := Lib.hid (⟨y0, y1, y2, y3, y4, y5, y6⟩ : _ ∧ _ ∧ _ ∧ _ ∧ _ ∧ _ ∧ _)
  clear i0 i1 i9 b1 b9 y0 y1 y2 y3 y4 y5 y6
  go_wp2_with (refine wpList_store_row rfl 32 (.tmp 4) (.tmp 83) rfl w.heap.size #[.string ⟨#[116, 101, 120, 116]⟩, .string s, .int .i64 0, .bool false, .slice none 0 0, .slice none 0 0, .slice none 0 0] rfl rfl 32 #[.string ⟨#[]⟩, .string ⟨#[]⟩, .int .i64 0, .bool false, .slice none 0 0, .slice none 0 0, .slice none 0 0] I0.out hi7 (by rfl) (by simp [Value.oneCell']) ?_)
  clear hu z0 z1 z2 z3 z4 z5 z6
  obtain ⟨y0, y1, y2, y3, y4, y5, y6⟩ := Y9.out
  refine bodyPost_ret (v := .tuple #[.agg #[.string ⟨#[116, 101, 120, 116]⟩, .string s, .int .i64 0, .bool false, .slice none 0 0, .slice none 0 0, .slice none 0 0], .int .i64 0]) ?_ rfl ?_
  · simp [results, Tryz.results31, go_sem, y0, y1, y2, y3, y4, y5, y6]
  · exact ⟨_, _, rfl, B9.out, rfl, ⟨_, _, _, rfl, nilC _, nilA _, nilP _⟩⟩
set_option maxRecDepth 100000 in
set_option maxHeartbeats 4000000 in
theorem yread0n (name s : ByteArray) (hn : name.size ≤ 4611686018427387904) (hs : s.size ≤ 4611686018427387904) (h0 : isP0 name = true) (h1 : isP1 name = false) (h2 : isP2 name = false) (h3 : isP3 name = false) (h4 : isP4 name = false) (h5 : isP5 name = false) (h6 : isP6 name = false) (hq : nmB (li s) = false) (w : World) :
    Calls Tryz.prog 31 #[.string name, .string s] w fun e w' => YRdr (rd 0 s) w e w' := by
  have hi7 : (Tryz.prog.info? 32).map (·.size) = some 7 := by kernel_rfl
  have i0 := Blk.Is.new w 32 #[.string ⟨#[]⟩, .string ⟨#[]⟩, .int .i64 0, .bool false, .slice none 0 0, .slice none 0 0, .slice none 0 0]
  have b0 : Below w.heap.size w (w.alloc (.cells #[.string ⟨#[]⟩, .string ⟨#[]⟩, .int .i64 0, .bool false, .slice none 0 0, .slice none 0 0, .slice none 0 0] 32)) := (Below.refl _ _).alloc (Nat.le_refl _) _
  have hs0 : (w.alloc (.cells #[.string ⟨#[]⟩, .string ⟨#[]⟩, .int .i64 0, .bool false, .slice none 0 0, .slice none 0 0, .slice none 0 0] 32)).heap.size = w.heap.size + 1 := by simp
  have cs := sort_if name (by omega) (w.alloc (.cells #[.string ⟨#[]⟩, .string ⟨#[]⟩, .int .i64 0, .bool false, .slice none 0 0, .slice none 0 0, .slice none 0 0] 32))
  simp only [h2, h3, h5, h4, h6, if_true, if_false, Bool.false_eq_true, ↓reduceIte] at cs
  have hr : rd 0 s = .error 3 := by
    show (if nmB (li s) then Except.ok (Vl.text s) else .error 3) = _; rw [hq]; rfl
  rw [hr]
  clear hr
  have e0 : sameS name ⟨#[112, 97, 99, 107, 97, 103, 101]⟩ = isP0 name := by rw [lsP0]; simp [ls0]
  have e1 : sameS name ⟨#[118, 101, 114, 115, 105, 111, 110]⟩ = isP1 name := by rw [lsP1]; simp [ls1]
  have cp := fun w => Stz.ysame_any name ⟨#[112, 97, 99, 107, 97, 103, 101]⟩ w (by omega)
  have cv := fun w => Stz.ysame_any name ⟨#[118, 101, 114, 115, 105, 111, 110]⟩ w (by omega)
  simp only [e0, h0] at cp
  simp only [e1, h1] at cv
  have cn := fun w => Rl.yname_any (li s) w (by rw [li_len]; exact hs)
  simp only [S_self, hq] at cn
  clear e0 e1
  go_enter Tryz.func31, Tryz.ntmps31
  go_wp2_with fail
  refine cs.mono ?_
  rintro e w1 ⟨rfl, n1, hn1⟩
  have k1 := Rl.drewn_below ⟨n1, hn1⟩
  have i0 := Rl.is_on i0 k1
  have b1 := b0.trans (k1.mono b0.size)
  have s1 : w.heap.size + 1 ≤ w1.heap.size := hs0 ▸ k1.size
  clear cs k1 hn1 b0 hs0
  have i1 := Blk.Is.new w1 32 #[.string ⟨#[116, 101, 120, 116]⟩, .string s, .int .i64 0, .bool false, .slice none 0 0, .slice none 0 0, .slice none 0 0]
  have i0 := i0.alloc (.cells #[.string ⟨#[116, 101, 120, 116]⟩, .string s, .int .i64 0, .bool false, .slice none 0 0, .slice none 0 0, .slice none 0 0] 32)
  have b1 : Below w.heap.size w (w1.alloc (.cells #[.string ⟨#[116, 101, 120, 116]⟩, .string s, .int .i64 0, .bool false, .slice none 0 0, .slice none 0 0, .slice none 0 0] 32)) := b1.alloc b1.size _
  clear hs hn h0 h1 h2 h3 h4 h5 h6
  go_wp2_with fail
  refine (cp _).mono ?_
  rintro e w2 ⟨rfl, hd2⟩
  have k2 := Rl.drewn_below hd2
  have i0 := Rl.is_on i0 k2
  have i1 := Rl.is_on i1 k2
  have b1 := b1.trans (k2.mono b1.size)
  clear k2
  clear hd2 cp
  go_wp2_with fail
  refine (cn _).mono ?_
  rintro e w3 ⟨rfl, rfl⟩
  clear cn
  obtain ⟨u, hu⟩ : ∃ u, w3 = u := ⟨_, rfl⟩
  rw [hu] at i0 i1 b1
  have i9 := i0.row #[.string ⟨#[]⟩, .string ⟨#[]⟩, .int .i64 0, .bool false, .slice none 0 0, .slice none 0 0, .slice none 0 0]
  have b9 := below_row b1 (Nat.le_refl _) #[.string ⟨#[]⟩, .string ⟨#[]⟩, .int .i64 0, .bool false, .slice none 0 0, .slice none 0 0, .slice none 0 0]
  have y0 := i9.at (i := 0) rfl
  have y1 := i9.at (i := 1) rfl
  have y2 := i9.at (i := 2) rfl
  have y3 := i9.at (i := 3) rfl
  have y4 := i9.at (i := 4) rfl
  have y5 := i9.at (i := 5) rfl
  have y6 := i9.at (i := 6) rfl
  have I0 := Lib.hid i0
  have B9 := Lib.hid b9
  have Y9 := Lib.hid (⟨y0, y1, y2, y3, y4, y5, y6⟩ : _ ∧ _ ∧ _ ∧ _ ∧ _ ∧ _ ∧ _)
  clear i0 i1 i9 b1 b9 y0 y1 y2 y3 y4 y5 y6
  go_wp2_with (refine wpList_store_row rfl 32 (.tmp 4) (.tmp 81) rfl w.heap.size #[.string ⟨#[]⟩, .string ⟨#[]⟩, .int .i64 0, .bool false, .slice none 0 0, .slice none 0 0, .slice none 0 0] rfl rfl 32 #[.string ⟨#[]⟩, .string ⟨#[]⟩, .int .i64 0, .bool false, .slice none 0 0, .slice none 0 0, .slice none 0 0] I0.out hi7 (by rfl) (by simp [Value.oneCell']) ?_)
  clear hu
  obtain ⟨y0, y1, y2, y3, y4, y5, y6⟩ := Y9.out
  refine bodyPost_ret (v := .tuple #[.agg #[.string ⟨#[]⟩, .string ⟨#[]⟩, .int .i64 0, .bool false, .slice none 0 0, .slice none 0 0, .slice none 0 0], .int .i64 3]) ?_ rfl ?_
  · simp [results, Tryz.results31, go_sem, y0, y1, y2, y3, y4, y5, y6]
  · exact ⟨_, _, rfl, B9.out, rfl, rfl⟩
set_option maxRecDepth 100000 in
set_option maxHeartbeats 4000000 in
theorem yread1y (name s : ByteArray) (hn : name.size ≤ 4611686018427387904) (hs : s.size ≤ 4611686018427387904) (h0 : isP0 name = false) (h1 : isP1 name = true) (h2 : isP2 name = false) (h3 : isP3 name = false) (h4 : isP4 name = false) (h5 : isP5 name = false) (h6 : isP6 name = false) (hq : isV (li s) = true) (w : World) :
    Calls Tryz.prog 31 #[.string name, .string s] w fun e w' => YRdr (rd 1 s) w e w' := by
  have hi7 : (Tryz.prog.info? 32).map (·.size) = some 7 := by kernel_rfl
  have i0 := Blk.Is.new w 32 #[.string ⟨#[]⟩, .string ⟨#[]⟩, .int .i64 0, .bool false, .slice none 0 0, .slice none 0 0, .slice none 0 0]
  have b0 : Below w.heap.size w (w.alloc (.cells #[.string ⟨#[]⟩, .string ⟨#[]⟩, .int .i64 0, .bool false, .slice none 0 0, .slice none 0 0, .slice none 0 0] 32)) := (Below.refl _ _).alloc (Nat.le_refl _) _
  have hs0 : (w.alloc (.cells #[.string ⟨#[]⟩, .string ⟨#[]⟩, .int .i64 0, .bool false, .slice none 0 0, .slice none 0 0, .slice none 0 0] 32)).heap.size = w.heap.size + 1 := by simp
  have cs := sort_if name (by omega) (w.alloc (.cells #[.string ⟨#[]⟩, .string ⟨#[]⟩, .int .i64 0, .bool false, .slice none 0 0, .slice none 0 0, .slice none 0 0] 32))
  simp only [h2, h3, h5, h4, h6, if_true, if_false, Bool.false_eq_true, ↓reduceIte] at cs
  have hr : rd 1 s = .ok (.text s) := by
    show (if isV (li s) then Except.ok (Vl.text s) else .error 3) = _; rw [hq]; rfl
  rw [hr]
  clear hr
  have e0 : sameS name ⟨#[112, 97, 99, 107, 97, 103, 101]⟩ = isP0 name := by rw [lsP0]; simp [ls0]
  have e1 : sameS name ⟨#[118, 101, 114, 115, 105, 111, 110]⟩ = isP1 name := by rw [lsP1]; simp [ls1]
  have cp := fun w => Stz.ysame_any name ⟨#[112, 97, 99, 107, 97, 103, 101]⟩ w (by omega)
  have cv := fun w => Stz.ysame_any name ⟨#[118, 101, 114, 115, 105, 111, 110]⟩ w (by omega)
  simp only [e0, h0] at cp
  simp only [e1, h1] at cv
  have cn := fun w => Rl.yis_any (li s) w (by rw [li_len]; exact hs)
  simp only [S_self, hq] at cn
  clear e0 e1
  go_enter Tryz.func31, Tryz.ntmps31
  go_wp2_with fail
  refine cs.mono ?_
  rintro e w1 ⟨rfl, n1, hn1⟩
  have k1 := Rl.drewn_below ⟨n1, hn1⟩
  have i0 := Rl.is_on i0 k1
  have b1 := b0.trans (k1.mono b0.size)
  have s1 : w.heap.size + 1 ≤ w1.heap.size := hs0 ▸ k1.size
  clear cs k1 hn1 b0 hs0
  have i1 := Blk.Is.new w1 32 #[.string ⟨#[116, 101, 120, 116]⟩, .string s, .int .i64 0, .bool false, .slice none 0 0, .slice none 0 0, .slice none 0 0]
  have i0 := i0.alloc (.cells #[.string ⟨#[116, 101, 120, 116]⟩, .string s, .int .i64 0, .bool false, .slice none 0 0, .slice none 0 0, .slice none 0 0] 32)
  have b1 : Below w.heap.size w (w1.alloc (.cells #[.string ⟨#[116, 101, 120, 116]⟩, .string s, .int .i64 0, .bool false, .slice none 0 0, .slice none 0 0, .slice none 0 0] 32)) := b1.alloc b1.size _
  clear hs hn h0 h1 h2 h3 h4 h5 h6
  go_wp2_with fail
  refine (cp _).mono ?_
  rintro e w2 ⟨rfl, hd2⟩
  have k2 := Rl.drewn_below hd2
  have i0 := Rl.is_on i0 k2
  have i1 := Rl.is_on i1 k2
  have b1 := b1.trans (k2.mono b1.size)
  clear k2
  clear hd2 cp
  go_wp2_with fail
  refine (cv _).mono ?_
  rintro e w4 ⟨rfl, hd4⟩
  have k4 := Rl.drewn_below hd4
  have i0 := Rl.is_on i0 k4
  have i1 := Rl.is_on i1 k4
  have b1 := b1.trans (k4.mono b1.size)
  clear k4
  clear hd4 cv
  go_wp2_with fail
  refine (cn _).mono ?_
  rintro e w5 ⟨rfl, k5'⟩
  have k5 := k5'
  have i0 := Rl.is_on i0 k5
  have i1 := Rl.is_on i1 k5
  have b1 := b1.trans (k5.mono b1.size)
  clear k5
  clear k5' cn
  obtain ⟨u, hu⟩ : ∃ u, w5 = u := ⟨_, rfl⟩
  rw [hu] at i0 i1 b1
  have z0 := i1.at (i := 0) rfl
  have z1 := i1.at (i := 1) rfl
  have z2 := i1.at (i := 2) rfl
  have z3 := i1.at (i := 3) rfl
  have z4 := i1.at (i := 4) rfl
  have z5 := i1.at (i := 5) rfl
  have z6 := i1.at (i := 6) rfl
  have i9 := i0.row #[.string ⟨#[116, 101, 120, 116]⟩, .string s, .int .i64 0, .bool false, .slice none 0 0, .slice none 0 0, .slice none 0 0]
  have b9 := below_row b1 (Nat.le_refl _) #[.string ⟨#[116, 101, 120, 116]⟩, .string s, .int .i64 0, .bool false, .slice none 0 0, .slice none 0 0, .slice none 0 0]
  have y0 := i9.at (i := 0) rfl
  have y1 := i9.at (i := 1) rfl
  have y2 := i9.at (i := 2) rfl
  have y3 := i9.at (i := 3) rfl
  have y4 := i9.at (i := 4) rfl
  have y5 := i9.at (i := 5) rfl
  have y6 := i9.at (i := 6) rfl
  have I0 := Lib.hid i0
  have B9 := Lib.hid b9
  have Y9 := Lib.hid (⟨y0, y1, y2, y3, y4, y5, y6⟩ : _ ∧ _ ∧ _ ∧ _ ∧ _ ∧ _ ∧ _)
  clear i0 i1 i9 b1 b9 y0 y1 y2 y3 y4 y5 y6
  go_wp2_with (refine wpList_store_row rfl 32 (.tmp 4) (.tmp 83) rfl w.heap.size #[.string ⟨#[116, 101, 120, 116]⟩, .string s, .int .i64 0, .bool false, .slice none 0 0, .slice none 0 0, .slice none 0 0] rfl rfl 32 #[.string ⟨#[]⟩, .string ⟨#[]⟩, .int .i64 0, .bool false, .slice none 0 0, .slice none 0 0, .slice none 0 0] I0.out hi7 (by rfl) (by simp [Value.oneCell']) ?_)
  clear hu z0 z1 z2 z3 z4 z5 z6
  obtain ⟨y0, y1, y2, y3, y4, y5, y6⟩ := Y9.out
  refine bodyPost_ret (v := .tuple #[.agg #[.string ⟨#[116, 101, 120, 116]⟩, .string s, .int .i64 0, .bool false, .slice none 0 0, .slice none 0 0, .slice none 0 0], .int .i64 0]) ?_ rfl ?_
  · simp [results, Tryz.results31, go_sem, y0, y1, y2, y3, y4, y5, y6]
  · exact ⟨_, _, rfl, B9.out, rfl, ⟨_, _, _, rfl, nilC _, nilA _, nilP _⟩⟩
set_option maxRecDepth 100000 in
set_option maxHeartbeats 4000000 in
theorem yread1n (name s : ByteArray) (hn : name.size ≤ 4611686018427387904) (hs : s.size ≤ 4611686018427387904) (h0 : isP0 name = false) (h1 : isP1 name = true) (h2 : isP2 name = false) (h3 : isP3 name = false) (h4 : isP4 name = false) (h5 : isP5 name = false) (h6 : isP6 name = false) (hq : isV (li s) = false) (w : World) :
    Calls Tryz.prog 31 #[.string name, .string s] w fun e w' => YRdr (rd 1 s) w e w' := by
  have hi7 : (Tryz.prog.info? 32).map (·.size) = some 7 := by kernel_rfl
  have i0 := Blk.Is.new w 32 #[.string ⟨#[]⟩, .string ⟨#[]⟩, .int .i64 0, .bool false, .slice none 0 0, .slice none 0 0, .slice none 0 0]
  have b0 : Below w.heap.size w (w.alloc (.cells #[.string ⟨#[]⟩, .string ⟨#[]⟩, .int .i64 0, .bool false, .slice none 0 0, .slice none 0 0, .slice none 0 0] 32)) := (Below.refl _ _).alloc (Nat.le_refl _) _
  have hs0 : (w.alloc (.cells #[.string ⟨#[]⟩, .string ⟨#[]⟩, .int .i64 0, .bool false, .slice none 0 0, .slice none 0 0, .slice none 0 0] 32)).heap.size = w.heap.size + 1 := by simp
  have cs := sort_if name (by omega) (w.alloc (.cells #[.string ⟨#[]⟩, .string ⟨#[]⟩, .int .i64 0, .bool false, .slice none 0 0, .slice none 0 0, .slice none 0 0] 32))
  simp only [h2, h3, h5, h4, h6, if_true, if_false, Bool.false_eq_true, ↓reduceIte] at cs
  have hr : rd 1 s = .error 3 := by
    show (if isV (li s) then Except.ok (Vl.text s) else .error 3) = _; rw [hq]; rfl
  rw [hr]
  clear hr
  have e0 : sameS name ⟨#[112, 97, 99, 107, 97, 103, 101]⟩ = isP0 name := by rw [lsP0]; simp [ls0]
  have e1 : sameS name ⟨#[118, 101, 114, 115, 105, 111, 110]⟩ = isP1 name := by rw [lsP1]; simp [ls1]
  have cp := fun w => Stz.ysame_any name ⟨#[112, 97, 99, 107, 97, 103, 101]⟩ w (by omega)
  have cv := fun w => Stz.ysame_any name ⟨#[118, 101, 114, 115, 105, 111, 110]⟩ w (by omega)
  simp only [e0, h0] at cp
  simp only [e1, h1] at cv
  have cn := fun w => Rl.yis_any (li s) w (by rw [li_len]; exact hs)
  simp only [S_self, hq] at cn
  clear e0 e1
  go_enter Tryz.func31, Tryz.ntmps31
  go_wp2_with fail
  refine cs.mono ?_
  rintro e w1 ⟨rfl, n1, hn1⟩
  have k1 := Rl.drewn_below ⟨n1, hn1⟩
  have i0 := Rl.is_on i0 k1
  have b1 := b0.trans (k1.mono b0.size)
  have s1 : w.heap.size + 1 ≤ w1.heap.size := hs0 ▸ k1.size
  clear cs k1 hn1 b0 hs0
  have i1 := Blk.Is.new w1 32 #[.string ⟨#[116, 101, 120, 116]⟩, .string s, .int .i64 0, .bool false, .slice none 0 0, .slice none 0 0, .slice none 0 0]
  have i0 := i0.alloc (.cells #[.string ⟨#[116, 101, 120, 116]⟩, .string s, .int .i64 0, .bool false, .slice none 0 0, .slice none 0 0, .slice none 0 0] 32)
  have b1 : Below w.heap.size w (w1.alloc (.cells #[.string ⟨#[116, 101, 120, 116]⟩, .string s, .int .i64 0, .bool false, .slice none 0 0, .slice none 0 0, .slice none 0 0] 32)) := b1.alloc b1.size _
  clear hs hn h0 h1 h2 h3 h4 h5 h6
  go_wp2_with fail
  refine (cp _).mono ?_
  rintro e w2 ⟨rfl, hd2⟩
  have k2 := Rl.drewn_below hd2
  have i0 := Rl.is_on i0 k2
  have i1 := Rl.is_on i1 k2
  have b1 := b1.trans (k2.mono b1.size)
  clear k2
  clear hd2 cp
  go_wp2_with fail
  refine (cv _).mono ?_
  rintro e w4 ⟨rfl, hd4⟩
  have k4 := Rl.drewn_below hd4
  have i0 := Rl.is_on i0 k4
  have i1 := Rl.is_on i1 k4
  have b1 := b1.trans (k4.mono b1.size)
  clear k4
  clear hd4 cv
  go_wp2_with fail
  refine (cn _).mono ?_
  rintro e w5 ⟨rfl, k5'⟩
  have k5 := k5'
  have i0 := Rl.is_on i0 k5
  have i1 := Rl.is_on i1 k5
  have b1 := b1.trans (k5.mono b1.size)
  clear k5
  clear k5' cn
  obtain ⟨u, hu⟩ : ∃ u, w5 = u := ⟨_, rfl⟩
  rw [hu] at i0 i1 b1
  have i9 := i0.row #[.string ⟨#[]⟩, .string ⟨#[]⟩, .int .i64 0, .bool false, .slice none 0 0, .slice none 0 0, .slice none 0 0]
  have b9 := below_row b1 (Nat.le_refl _) #[.string ⟨#[]⟩, .string ⟨#[]⟩, .int .i64 0, .bool false, .slice none 0 0, .slice none 0 0, .slice none 0 0]
  have y0 := i9.at (i := 0) rfl
  have y1 := i9.at (i := 1) rfl
  have y2 := i9.at (i := 2) rfl
  have y3 := i9.at (i := 3) rfl
  have y4 := i9.at (i := 4) rfl
  have y5 := i9.at (i := 5) rfl
  have y6 := i9.at (i := 6) rfl
  have I0 := Lib.hid i0
  have B9 := Lib.hid b9
  have Y9 := Lib.hid (⟨y0, y1, y2, y3, y4, y5, y6⟩ : _ ∧ _ ∧ _ ∧ _ ∧ _ ∧ _ ∧ _)
  clear i0 i1 i9 b1 b9 y0 y1 y2 y3 y4 y5 y6
  go_wp2_with (refine wpList_store_row rfl 32 (.tmp 4) (.tmp 81) rfl w.heap.size #[.string ⟨#[]⟩, .string ⟨#[]⟩, .int .i64 0, .bool false, .slice none 0 0, .slice none 0 0, .slice none 0 0] rfl rfl 32 #[.string ⟨#[]⟩, .string ⟨#[]⟩, .int .i64 0, .bool false, .slice none 0 0, .slice none 0 0, .slice none 0 0] I0.out hi7 (by rfl) (by simp [Value.oneCell']) ?_)
  clear hu
  obtain ⟨y0, y1, y2, y3, y4, y5, y6⟩ := Y9.out
  refine bodyPost_ret (v := .tuple #[.agg #[.string ⟨#[]⟩, .string ⟨#[]⟩, .int .i64 0, .bool false, .slice none 0 0, .slice none 0 0, .slice none 0 0], .int .i64 3]) ?_ rfl ?_
  · simp [results, Tryz.results31, go_sem, y0, y1, y2, y3, y4, y5, y6]
  · exact ⟨_, _, rfl, B9.out, rfl, rfl⟩
theorem yread_any (name s : ByteArray) (hn : name.size ≤ 4611686018427387904) (hs : s.size ≤ 4611686018427387904) (w : World) :
    Calls Tryz.prog 31 #[.string name, .string s] w fun e w' => YRdr (rd (knd name) s) w e w' := by
  rcases knd_cases name with ⟨hk, h0, h1, h2, h3, h4, h5, h6⟩ | ⟨hk, h0, h1, h2, h3, h4, h5, h6⟩ | ⟨hk, h0, h1, h2, h3, h4, h5, h6⟩ | ⟨hk, h0, h1, h2, h3, h4, h5, h6⟩ | ⟨hk, h0, h1, h2, h3, h4, h5, h6⟩ | ⟨hk, h0, h1, h2, h3, h4, h5, h6⟩ | ⟨hk, h0, h1, h2, h3, h4, h5, h6⟩ | ⟨hk, h0, h1, h2, h3, h4, h5, h6⟩
  · rw [hk]
    cases hq : nmB (li s) with
    | true => exact yread0y name s hn hs h0 h1 h2 h3 h4 h5 h6 hq w
    | false => exact yread0n name s hn hs h0 h1 h2 h3 h4 h5 h6 hq w
  · rw [hk]
    cases hq : isV (li s) with
    | true => exact yread1y name s hn hs h0 h1 h2 h3 h4 h5 h6 hq w
    | false => exact yread1n name s hn hs h0 h1 h2 h3 h4 h5 h6 hq w
  · rw [hk]
    exact yread2 name s hn hs h0 h1 h2 h3 h4 h5 h6 w
  · rw [hk]
    exact yread3 name s hn hs h0 h1 h2 h3 h4 h5 h6 w
  · rw [hk]
    exact yread4 name s hn hs h0 h1 h2 h3 h4 h5 h6 w
  · rw [hk]
    by_cases hq : s = yesT
    · exact yread5y name s hn hs h0 h1 h2 h3 h4 h5 h6 hq w
    · by_cases hq2 : s = noT
      · exact yread5n name s hn hs h0 h1 h2 h3 h4 h5 h6 hq2 w
      · exact yread5e name s hn hs h0 h1 h2 h3 h4 h5 h6 ⟨hq, hq2⟩ w
  · rw [hk]
    by_cases hq : Txt.numOK s
    · exact yread6y name s hn hs h0 h1 h2 h3 h4 h5 h6 hq w
    · exact yread6n name s hn hs h0 h1 h2 h3 h4 h5 h6 hq w
  · rw [hk]
    exact yread7 name s hn hs h0 h1 h2 h3 h4 h5 h6 w
end Va
end Go.Proofs.YtapmpdljapbpeaaGreatDoor

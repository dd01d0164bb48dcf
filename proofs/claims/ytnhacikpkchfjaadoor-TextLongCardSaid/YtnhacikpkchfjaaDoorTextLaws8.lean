/-
The walk of the law TextLong.
-/
import Derived.Test.YtnhacikpkchfjaaDoorTextLaws6
import Derived.Test.YtnhacikpkchfjaaDoorTextLaws5
import Derived.Test.YtnhacikpkchfjaaDoorTextLaws3
import Derived.Lib.SlBytesConst
namespace Go.Proofs.YtnhacikpkchfjaaDoor
open Go.RowKit
set_option linter.unusedSimpArgs false
set_option linter.unusedVariables false
namespace Txt
/-- append onto a full row of bytes that is only read. -/
theorem append_grow {w : World} {ops : Array Oper} {rest : List Oper} {o : Oper} {a : Act} {Q : Exit → Act → World → Prop} (hgd : o.guard = none) (s x : Operand)
    (ho : o.op = .call { callee := .builtin .append, args := #[s, x], argTypes := #[25, 25] })
    (g n : Nat) (xs : List Int) (hv : a.eval s = .slice (some ⟨g, 0, none⟩) n n) (hm : Row w (some ⟨g, 0, none⟩) n xs) (hn : 0 < n) (y : Option Addr) (len cap : Nat) (hx : a.eval x = .slice y len cap) (zs : List Int) (hr : Row w y len zs) (hc : y = none → cap = 0)
    (hlen : n + len ≤ 1000000) (h0 : 0 < len)
    (h : ∀ a' cap' w', Row w' a' (n + len) (xs ++ zs) → n + len ≤ cap' → Below w.heap.size w w' → wpList Tryd.prog ops Q rest (a.put o.dst (.slice a' (n + len) cap')) w') : wpList Tryd.prog ops Q (o :: rest) a w := by
  obtain ⟨i0, hi, hz0, hz1, hz2⟩ := info_parts infoU8
  have hsrc := hr.src cap hc
  have hxl := hm.count
  have hold : (Builtin.firstCells i0.size n (.slice (some ⟨g, 0, none⟩) n n)).run Tryd.prog w.drew = .ok (bcells xs).toArray w.drew := by
    rw [hz1]
    refine run_firstCells_some _ _ _ _ _ _ (bcells xs) (by simp [hxl]) fun j u hj => ?_
    have hl : j < xs.length := by
      have := (List.getElem?_eq_some_iff.1 hj).1
      simpa using this
    obtain ⟨b, off, e, _, hcell⟩ := hm.cells hn
    cases e
    have := hcell j (by omega)
    rw [bcells_at _ _ hl] at hj
    rw [Addr.add_mid]
    rw [← hj]
    exact this
  have hr2 := run_append_grow_src (P := Tryd.prog) w 25 25 o.type 5 i0 (.int .u8 0) Tryd.underlying25 hi hz0 (some ⟨g, 0, none⟩) n n (bcells xs) hold _ len (bcells zs) (by rw [hz1]; exact hsrc) (by omega) (by omega) (growslice_fits (by omega) (by rw [hz2]; omega))
  refine wpList_plain hgd fun K hK => ?_
  unfold Oper.wp execOp
  simp only [ho, resolve, invoke, builtin, Sem.run_bind, Sem.run_pure, Result.andThen_ok, List.map_toArray, List.map_cons, List.map_nil, hv, hx, hr2]
  refine hK _ _ (h _ _ _ ?_ (grownCap_ge w (n + len) n 5) ((Below.refl _ _).drew.alloc (by show w.heap.size ≤ w.drew.heap.size; exact Nat.le_refl _) _))
  refine Row.ofIs (Blk.Is.new w.drew _ _) 0 (n + len) (xs ++ zs) (by rw [List.length_append, hxl, hr.count]) (by omega) (hm.byt.append hr.byt) fun j hj => ?_
  rw [Nat.zero_add, Array.getElem?_append_left (by simp [bcells, hxl, hr.count]; omega)]
  have e : bcells xs ++ bcells zs = bcells (xs ++ zs) := by simp [bcells]
  rw [e, List.getElem?_toArray]
  exact bcells_at _ _ (by rw [List.length_append, hxl, hr.count]; exact hj)
/-- Short lines: what a text under way has. -/
def Short (L : List UInt8) : Prop := ∃ rs x, spl L = rs ++ [x] ∧ (∀ y ∈ rs, y.length ≤ 500) ∧ x.length ≤ L.length % 500
theorem spl_snoc (L : List UInt8) (c : UInt8) : ∀ rs x, spl L = rs ++ [x] → spl (L ++ [c]) = if c = 10 then rs ++ [x, []] else rs ++ [x ++ [c]] := by
  induction L with
  | nil =>
    intro rs x h
    have h1 : rs = [] ∧ x = [] := by
      cases rs with
      | nil => simp [spl] at h; exact ⟨rfl, h⟩
      | cons y r => simp [spl] at h
    obtain ⟨rfl, rfl⟩ := h1
    show (if c = 10 then [] :: spl [] else put c (spl [])) = _
    split <;> rfl
  | cons d l ih =>
    intro rs x h
    have e : spl (d :: l) = if d = 10 then [] :: spl l else put d (spl l) := rfl
    have e2 : spl (d :: (l ++ [c])) = if d = 10 then [] :: spl (l ++ [c]) else put d (spl (l ++ [c])) := rfl
    obtain ⟨rs', x', hl⟩ : ∃ rs' x', spl l = rs' ++ [x'] := ⟨(spl l).dropLast, (spl l).getLast (spl_ne l), (List.dropLast_concat_getLast (spl_ne l)).symm⟩
    have ih' := ih rs' x' hl
    rw [e, hl] at h
    rw [List.cons_append, e2, ih']
    by_cases hd : d = 10
    · rw [if_pos hd] at h ⊢
      have h3 : rs = [] :: rs' ∧ x = x' := by
        have h4 : ([] :: rs') ++ [x'] = rs ++ [x] := h
        have := List.append_inj' h4 rfl
        exact ⟨this.1.symm, by simpa using this.2.symm⟩
      obtain ⟨rfl, rfl⟩ := h3
      split <;> rfl
    · rw [if_neg hd] at h ⊢
      cases rs' with
      | nil =>
        have h4 : [d :: x'] = rs ++ [x] := h
        cases rs with
        | nil =>
          have h5 : x = d :: x' := by simpa using h4.symm
          subst h5
          split <;> rfl
        | cons y r => simp at h4
      | cons z r =>
        have h4 : ((d :: z) :: r) ++ [x'] = rs ++ [x] := h
        have := List.append_inj' h4 rfl
        obtain ⟨h5, h6⟩ := this
        subst h5
        have h7 : x = x' := by simpa using h6.symm
        subst h7
        split <;> rfl
theorem Short.nil : Short [] := ⟨[], [], rfl, (fun y hy => by cases hy), Nat.le_refl _⟩
theorem Short.letter {L : List UInt8} (h : Short L) (hm : L.length % 500 ≤ 498) : Short (L ++ [97]) := by
  obtain ⟨rs, x, h1, h2, h3⟩ := h
  refine ⟨rs, x ++ [97], by rw [spl_snoc L 97 rs x h1]; rfl, h2, ?_⟩
  rw [List.length_append, List.length_append, List.length_singleton]
  omega
theorem Short.feed {L : List UInt8} (h : Short L) : Short (L ++ [10]) := by
  obtain ⟨rs, x, h1, h2, h3⟩ := h
  refine ⟨rs ++ [x], [], by rw [spl_snoc L 10 rs x h1, if_pos rfl]; simp, fun y hy => ?_, by simp⟩
  rcases List.mem_append.1 hy with hy | hy
  · exact h2 y hy
  · rw [List.mem_singleton.1 hy]; omega
theorem Short.all {L : List UInt8} (h : Short L) : ∀ y ∈ spl L, y.length ≤ 500 := by
  obtain ⟨rs, x, h1, h2, h3⟩ := h
  rw [h1]
  intro y hy
  rcases List.mem_append.1 hy with hy | hy
  · exact h2 y hy
  · rw [List.mem_singleton.1 hy]; omega
theorem lr_short {s : ByteArray} {ls : List ByteArray} {e n : Nat} (h : LR s ls e n) (hs : s.size ≤ 65536) (hsh : Short s.data.toList) : e ≠ 2 := by
  unfold LR at h
  rw [if_neg (by omega)] at h
  rcases h with ⟨rfl, _⟩ | ⟨_, _, ms, k, h3, h4, _, h6, _⟩
  · decide
  · have hm : (ms.getD k ByteArray.empty).data.toList ∈ ms.map (·.data.toList) := List.mem_map.2 ⟨_, by simp [h4], rfl⟩
    rw [h3] at hm
    have := hsh.all _ (dl_sub _ _ hm)
    rw [len_list] at this
    rw [← h6]
    unfold E
    rw [if_neg (by omega)]
    split <;> decide
theorem lr_long {s : ByteArray} {ls : List ByteArray} {e n : Nat} (h : LR s ls e n) (hs : 65536 < s.size) : ls = [] ∧ e = 2 ∧ n = 0 := by
  unfold LR at h
  rwa [if_pos hs] at h
theorem str_snoc (zs : List Int) (z : Int) : (strOfNums (zs ++ [z])).data.toList = (strOfNums zs).data.toList ++ [UInt8.ofNat z.toNat] := by
  rw [strOfNums_data, strOfNums_data, List.map_append]; rfl
theorem made_bytes (L : Nat) : madeCells (Value.int .u8 0).cells (L * 1) = (bcells (List.replicate L 0)).toArray := by
  rw [Nat.mul_one]
  apply Array.ext
  · simp [madeCells, bcells]
  · intro i h1 h2
    simp [madeCells, bcells, Value.cells, Nat.mod_one]
theorem row_ab (w : World) : Row (w.alloc (.cells #[.int .u8 97, .int .u8 10] 5 (2, 3))) (some ⟨w.heap.size, 0, none⟩) 2 [97, 10] :=
  ⟨rfl, by omega, (fun z hz => by simp at hz; omega), fun _ => ⟨_, 0, rfl, by simp, fun j hj => by
    rcases (by omega : j = 0 ∨ j = 1) with rfl | rfl <;> (unfold World.cell?; rw [heap_alloc_new]; rfl)⟩⟩
theorem set_bytes {w : World} {g k : Nat} {ys : List Int} (h : Blk.Is w g 5 (bcells ys).toArray) (z : Int) : Blk.Is (w.setCell ⟨g, k, none⟩ (.int .u8 z)) g 5 (bcells (ys.set k z)).toArray := by
  have := h.set k (.int .u8 z)
  have e : (bcells ys).toArray.setIfInBounds k (.int .u8 z) = (bcells (ys.set k z)).toArray := by
    rw [List.setIfInBounds_toArray]
    congr 1
    unfold bcells
    rw [List.map_set]
  rwa [e] at this
theorem set_byte {ys : List Int} (h : Byte ys) (k : Nat) {z : Int} (hz : 0 ≤ z ∧ z < 256) : Byte (ys.set k z) := fun y hy => by
  rcases List.mem_or_eq_of_mem_set hy with h1 | rfl
  · exact h y h1
  · exact hz
theorem row_one (w : World) (z : Int) (h : 0 ≤ z ∧ z < 256) : Row (w.alloc (.cells #[.int .u8 z] 5)) (some ⟨w.heap.size, 0, none⟩) 1 [z] :=
  Row.ofIs (Blk.Is.new w _ _) 0 1 _ rfl (by omega) (fun y hy => by rw [List.mem_singleton.1 hy]; exact h) (fun j hj => by
    obtain rfl : j = 0 := by omega
    rfl)
/-- The first text under way. -/
structure Way (W w : World) (T : Nat) (v : Value) (k : Nat) : Prop where
  there : ∃ zs a cap, v = .slice a k cap ∧ zs.length = k ∧ Mine w W.heap.size (.slice a k cap) zs ∧ Short (strOfNums zs).data.toList
  below : Below W.heap.size W w
  le : k ≤ T
  turn : k % 500 ≤ 498
set_option maxRecDepth 100000 in
set_option maxHeartbeats 8000000 in
theorem textLong_walk (a0 a1 : Int) (bad : Bool) (w : World) (hT : Lib.Utf8Tabs 0 1 w) (hm : MaxLen w) :
    Calls Tryd.prog 7 #[.int .i64 a0, .int .i64 a1, .bool bad] w fun e w' => e = .returned (.bool true) ∧ Below w.heap.size w w' := by
  have hl := tabs_lt hT
  have hml := hm.lt
  have HT := Lib.hid hT
  have HM := Lib.hid hm
  clear hT hm
  obtain ⟨N, hN, hN5⟩ := modM a0 5 (by omega) (by omega)
  obtain ⟨M, hM, hM5⟩ := modM a1 5 (by omega) (by omega)
  rw [show ((5 : Nat) : Int) = 5 from rfl] at hN hM
  go_enter Tryd.func7, Tryd.ntmps7
  go_wp2_with fail
  rw [hN, hM]
  clear hN hM
  obtain ⟨T, hT⟩ : ∃ T, 65533 + N = T := ⟨_, rfl⟩
  have hTz : (65533 : Int) + (N : Int) = (T : Int) := by omega
  go_loopg [7] T (fun gf s7 wx => ∃ k, Way w wx T s7 k ∧ T ≤ k + gf)
  case atStart => exact ⟨0, ⟨⟨[], none, 0, rfl, rfl, mine_none w _, Short.nil⟩, Below.refl _ _, by omega, by omega⟩, by omega⟩
  case round =>
    obtain ⟨k, hway, hkg⟩ := hrel
    obtain ⟨⟨zs, ad, cap, rfl, hzk, hmine, hshort⟩, hbw, hkT, hk5⟩ := hway
    by_cases hkn : k < T
    · have hkn' : (k : Int) < (T : Int) := by omega
      have hro := row_one wr 97 (by omega)
      have hmi := hmine.below ((Below.refl _ _).alloc (Nat.le_refl _) (.cells #[.int .u8 97] 5))
      have HSH := Lib.hid hshort
      have hbs := hbw.size
      clear hmine hshort
      have hlist : (strOfNums zs).data.toList.length = k := by rw [len_list, strOfNums_size]; exact hzk
      have hsh1 : Short (strOfNums (zs ++ [97])).data.toList := by
        rw [str_snoc]
        exact HSH.out.letter (by rw [hlist]; exact hk5)
      have HS1 := Lib.hid hsh1
      clear hsh1
      by_cases h499 : (k + 1) % 500 = 499
      · have h499z : (((k : Int) + 1) % 500 == 499) = true := by simp; omega
        have HS2 := Lib.hid (show Short (strOfNums ((zs ++ [97]) ++ [10])).data.toList by rw [str_snoc]; exact HS1.out.feed)
        go_wp2_with (first | (at_builtin; refine append_bytes rfl (.tmp 29) (.tmp 30) rfl w.heap.size _ zs rfl hmi _ 1 1 rfl [97] hro (by intro h; cases h) (by simp; omega) (by simp; omega) ?_; intro v' w4 h4 h5; obtain ⟨n4, a4, c4, rfl, hc4, hn4, hr4⟩ := h4.rows; rw [List.length_append, hzk, List.length_singleton] at hn4; subst hn4; have H4 := Lib.hid h4; have B4 := Lib.hid (Own.below_grown (hbw.alloc hbs (.cells #[.int .u8 97] 5)) hmi.1 h5 (by simp; omega)); clear h4 h5 hr4) | (at_builtin; refine append_bytes rfl (.tmp 36) (.tmp 37) rfl w.heap.size _ (zs ++ [97]) rfl (H4.out.below ((Below.refl _ _).alloc (Nat.le_refl _) (.cells #[.int .u8 10] 5))) _ 1 1 rfl [10] (row_one w4 10 (by omega)) (by intro h; cases h) (by simp; omega) (by have := B4.out.size; simp; omega) ?_; intro v' w5 h6 h7; obtain ⟨n5, a5, c5, rfl, hc5, hn5, hr5⟩ := h6.rows; rw [List.length_append, List.length_append, hzk, List.length_singleton, List.length_singleton] at hn5; subst hn5; have H5 := Lib.hid h6; have B5 := Lib.hid (Own.below_grown (B4.out.alloc B4.out.size (.cells #[.int .u8 10] 5)) (H4.out.below ((Below.refl _ _).alloc (Nat.le_refl _) (.cells #[.int .u8 10] 5))).1 h7 (by have := B4.out.size; simp; omega)); clear h6 h7 hr5))
        go_roundg (gk - 1)
        case measure => omega
        case rel => exact ⟨k + 1 + 1, ⟨⟨_, _, _, rfl, by simp [hzk], H5.out, HS2.out⟩, B5.out, by omega, by omega⟩, by omega⟩
      · have h499z : (((k : Int) + 1) % 500 == 499) = false := beq_eq_false_iff_ne.2 (by omega)
        go_wp2_with (first | (at_builtin; refine append_bytes rfl (.tmp 29) (.tmp 30) rfl w.heap.size _ zs rfl hmi _ 1 1 rfl [97] hro (by intro h; cases h) (by simp; omega) (by simp; omega) ?_; intro v' w4 h4 h5; obtain ⟨n4, a4, c4, rfl, hc4, hn4, hr4⟩ := h4.rows; rw [List.length_append, hzk, List.length_singleton] at hn4; subst hn4; have H4 := Lib.hid h4; have B4 := Lib.hid (Own.below_grown (hbw.alloc hbs (.cells #[.int .u8 97] 5)) hmi.1 h5 (by simp; omega)); clear h4 h5 hr4))
        go_roundg (gk - 1)
        case measure => omega
        case rel => exact ⟨k + 1, ⟨⟨_, _, _, rfl, by simp [hzk], H4.out, HS1.out⟩, B4.out, by omega, by omega⟩, by omega⟩
    · have hke : k = T := by omega
      subst hke
      obtain ⟨n9, a9, c9, e9, hc9, hn9, hr9⟩ := hmine.rows
      simp only [Value.slice.injEq] at e9
      obtain ⟨rfl, rfl, rfl⟩ := e9
      have hS : (strOfNums zs).size = k := by rw [strOfNums_size]; exact hzk
      have c1 := lines_all ad k cap zs wr hr9 (tabs_below HT.out hbw hl) (HM.out.below hbw hml)
      have HSH := Lib.hid hshort
      have HB := Lib.hid hbw
      have hnk : ¬ (k : Int) < (k : Int) := by omega
      clear hmine hr9 hshort hbw hn9
      go_wp2_with fail
      refine c1.mono ?_
      rintro e w1 ⟨v1, ls, er, n, rfl, h1, hls, t1, b1⟩
      have B1 := Lib.hid (HB.out.trans (b1.mono HB.out.size))
      obtain ⟨_, a8, c8, rfl, hc8, _⟩ := t1
      have hres : (3 < N ∧ ls = [] ∧ er = 2 ∧ n = 0) ∨ (N ≤ 3 ∧ er ≠ 2) := by
        by_cases h3 : 3 < N
        · exact .inl ⟨h3, lr_long h1 (by omega)⟩
        · exact .inr ⟨by omega, lr_short h1 (by omega) HSH.out⟩
      clear h1 b1 c1 HB HSH hS
      rcases hres with ⟨h3, rfl, rfl, rfl⟩ | ⟨h3, her⟩
      · have h3' : 3 < (N : Int) := by omega
        obtain ⟨L, hL⟩ : ∃ L, 998 + M = L := ⟨_, rfl⟩
        have hLz : (998 : Int) + (M : Int) = (L : Int) := by omega
        have D1 := Lib.hid (B1.out.alloc B1.out.size (.cells #[.int .i64 2, .int .i64 0] 29))
        obtain ⟨W, hW⟩ : ∃ W, w1.alloc (.cells #[.int .i64 2, .int .i64 0] 29) = W := ⟨_, rfl⟩
        rw [hW] at D1
        obtain ⟨i0, hi0, hz0, hz1, hz2⟩ := info_parts infoU8
        have hmk := run_make (P := Tryd.prog) W 25 5 i0 _ Tryd.underlying25 hi0 hz0 .i64 .i64 (L : Int) (L : Int) (by omega) (by omega) (by rw [hz2]; omega) (by omega)
        rw [hz1, Int.toNat_natCast, made_bytes] at hmk
        have hIs := Blk.Is.new W 5 (bcells (List.replicate L 0)).toArray
        have hWs : W.heap.size = w1.heap.size + 1 := by rw [← hW]; simp
        rw [hWs] at hIs hmk
        have HIS := Lib.hid hIs
        have hws : w.heap.size ≤ w1.heap.size + 1 := by rw [← hWs]; exact D1.out.size
        rw [← hW] at hmk
        have HW := Lib.hid hW
        clear hIs hi0 hz0 hz1 hz2 hW hWs
        go_wp2_with fail
        rw [HW.out]
        have D2 := Lib.hid (D1.out.alloc D1.out.size (.cells (bcells (List.replicate L 0)).toArray 5))
        clear hmk
        go_loopg [69] L (fun gf s69 wx => ∃ (k : Nat) (ys : List Int), s69 = .int .i64 k ∧ k ≤ L ∧ L ≤ k + gf ∧ Blk.Is wx (w1.heap.size + 1) 5 (bcells ys).toArray ∧ ys.length = L ∧ Byte ys ∧ Below w.heap.size w wx)
        case atStart => exact ⟨0, _, rfl, by omega, by omega, HIS.out, by simp, fun z hz => by rw [List.eq_of_mem_replicate hz]; omega, D2.out⟩
        case round =>
          obtain ⟨k, ys, rfl, hk1, hk2, hIs, hyl, hyb, hbx⟩ := hrel
          by_cases hkL : k < L
          · have hkL' : (k : Int) < (L : Int) := by omega
            have i1 : wr.cell? ⟨w1.heap.size + 1, k, none⟩ = some (.int .u8 (ys.getD k 0)) := hIs.at (i := k) (by rw [List.getElem?_toArray]; exact bcells_at ys k (by omega))
            have f1 := hIs.free k
            have HIS2 := Lib.hid (set_bytes (k := k) hIs 120)
            have HB2 := Lib.hid (hbx.setCell (p := ⟨w1.heap.size + 1, k, none⟩) hws (.int .u8 120))
            have HYB := Lib.hid (set_byte hyb k (z := 120) (by omega))
            clear hIs hyb hbx
            go_wp2_with fail
            go_roundg (gk - 1)
            case measure => omega
            case rel => exact ⟨k + 1, _, by go_num, by omega, by omega, HIS2.out, by simp [hyl], HYB.out, HB2.out⟩
          · have hkL' : ¬ (k : Int) < (L : Int) := by omega
            cases bad
            · have hrow := Row.ofIs (hIs) 0 L (ys) (hyl) (by omega) (hyb) (fun j hj => by rw [Nat.zero_add, List.getElem?_toArray]; exact bcells_at (ys) j (by rw [hyl]; exact hj))
              have HB3 := Lib.hid (hbx)
              have HROWA := Lib.hid (hrow.below ((Below.refl _ _).alloc (Nat.le_refl _) (.cells #[.int .u8 97, .int .u8 10] 5 (2, 3))))
              have hcv' : (convert 25 25 (.slice (some ⟨(wr).heap.size, 0, none⟩) 2 2)).run Tryd.prog ((wr).alloc (.cells #[.int .u8 97, .int .u8 10] 5)) = .ok (.slice (some ⟨(wr).heap.size, 0, none⟩) 2 2) ((wr).alloc (.cells #[.int .u8 97, .int .u8 10] 5 (2, 3))) := Lib.run_convert_bytes_const (P := Tryd.prog) (wr) 25 5 #[.int .u8 97, .int .u8 10] 2 2 Tryd.underlying25 Tryd.underlying5
              have hra0 := row_ab (wr)
              have HRA0 := Lib.hid hra0
              obtain ⟨zq, hzq⟩ : ∃ zq, ys = zq := ⟨_, rfl⟩
              rw [hzq] at HROWA
              clear hrow hzq hra0 hIs hyb hbx
              go_wp2_with (at_builtin; refine append_grow rfl (.tmp 81) (.tmp 82) rfl _ 2 [97, 10] rfl HRA0.out (by omega) _ L L rfl zq HROWA.out (by intro h; cases h) (by omega) (by omega) ?_; intro a' cap' w9 h9 hc9' b9; have R9 := Lib.hid h9; have D9 := Lib.hid b9; clear h9 b9)
              have D10 := Lib.hid ((HB3.out.alloc HB3.out.size (.cells #[.int .u8 97, .int .u8 10] 5 (2, 3))).trans (D9.out.mono (Nat.le_trans HB3.out.size (by simp))))
              have HROW2 := Lib.hid (HROWA.out.below D9.out)
              have cL := lines_all a' (2 + L) cap' ([97, 10] ++ zq) w9 R9.out (tabs_below HT.out D10.out hl) (HM.out.below D10.out hml)
              clear hcv' HROWA
              refine cL.mono ?_
              rintro e w10 ⟨v12, ls2, er2, n2, rfl, h12, hls2, t12, b12⟩
              have H12 := Lib.hid h12
              have T12 := Lib.hid (t12.below ((Below.refl _ _).alloc (Nat.le_refl _) (.cells #[.int .i64 er2, .int .i64 n2] 29)))
              have B12 := D10.out.trans (b12.mono D10.out.size)
              have D11 := Lib.hid (B12.alloc B12.size (.cells #[.int .i64 er2, .int .i64 n2] 29))
              have HROW3 := Lib.hid ((HROW2.out.below b12).below ((Below.refl _ _).alloc (Nat.le_refl _) (.cells #[.int .i64 er2, .int .i64 n2] 29)))
              have I12 := Lib.hid (Blk.Is.new w10 29 #[.int .i64 er2, .int .i64 n2])
              have hs12 : w10.heap.size < (w10.alloc (.cells #[.int .i64 er2, .int .i64 n2] 29)).heap.size := by simp
              have hs13 : (w10.alloc (.cells #[.int .i64 er2, .int .i64 n2] 29)).heap.size = w10.heap.size + 1 := by simp
              have HROWB := Lib.hid (HROW3.out.below ((Below.refl _ _).alloc (Nat.le_refl _) (.cells #[.int .u8 97, .int .u8 10] 5 (2, 3))))
              have hcw := Lib.run_convert_bytes_const (P := Tryd.prog) (w10.alloc (.cells #[.int .i64 er2, .int .i64 n2] 29)) 25 5 #[.int .u8 97, .int .u8 10] 2 2 Tryd.underlying25 Tryd.underlying5
              have hra := row_ab (w10.alloc (.cells #[.int .i64 er2, .int .i64 n2] 29))
              rw [hs13] at hcw hra
              have HRA := Lib.hid hra
              have HS12 := Lib.hid hs12
              clear h12 t12 b12 B12 cL R9 D9 HROW2 HROW3 hra hs12 hs13
              go_wp2_with (at_builtin; refine append_grow rfl (.tmp 89) (.tmp 90) rfl _ 2 [97, 10] rfl HRA.out (by omega) _ L L rfl zq HROWB.out (by intro h; cases h) (by omega) (by omega) ?_; intro a2 cap2 w19 h19 hc19 b19; have R19 := Lib.hid h19; have D19 := Lib.hid b19; clear h19 b19)
              have D20 := Lib.hid ((D11.out.alloc D11.out.size (.cells #[.int .u8 97, .int .u8 10] 5 (2, 3))).trans (D19.out.mono (Nat.le_trans D11.out.size (by simp))))
              have T20 := Lib.hid ((T12.out.below ((Below.refl _ _).alloc (Nat.le_refl _) (.cells #[.int .u8 97, .int .u8 10] 5 (2, 3)))).below D19.out)
              have I20 := Lib.hid (show Blk.Is w19 w10.heap.size 29 #[.int .i64 er2, .int .i64 n2] from (D19.out.block _ (by have := HS12.out; simp; omega)).trans (I12.out.alloc _))
              clear hcw HRA HROWB D19 T12 I12 D11 D10
              refine (ylines_all a2 (2 + L) cap2 ([97, 10] ++ zq) w19 R19.out hc19).mono ?_
              rintro e w20 ⟨v13, ls3, er3, n3, rfl, h13, hls3, t13, b13⟩
              obtain ⟨rfl, rfl, rfl⟩ := H12.out.uniq h13
              have T21 := Lib.hid (T20.out.below b13)
              have T22 := Lib.hid t13
              have hI21 : Blk.Is w20 w10.heap.size 29 #[.int .i64 er2, .int .i64 n2] := (b13.block _ I20.out.lt).trans I20.out
              have hs2 := hI21.lt
              have I21 := Lib.hid hI21
              have B2 := Lib.hid (D20.out.trans (b13.mono D20.out.size))
              clear h13 t13 b13 T20 hI21 I20 D20 R19 H12
              go_wp2_with fail
              have nA : Below w20.heap.size w20 (w20.alloc (.cells #[.int .i64 er2, .int .i64 n2] 29)) := (Below.refl _ _).alloc (Nat.le_refl _) _
              refine (sameTexts_any v12 v13 ls2 ls2 _ (T21.out.below nA) (T22.out.below nA)).mono ?_
              rintro e w23 ⟨rfl, b3⟩
              have iB := Blk.Is.new w20 29 #[.int .i64 er2, .int .i64 n2]
              have I3 : Blk.Is w23 w10.heap.size 29 #[.int .i64 er2, .int .i64 n2] := (b3.block _ (by simp; omega)).trans (I21.out.alloc _)
              have I4 : Blk.Is w23 w20.heap.size 29 #[.int .i64 er2, .int .i64 n2] := (b3.block _ (by simp)).trans iB
              have B3 := Lib.hid ((B2.out.trans (nA.mono B2.out.size)).trans (b3.mono (Nat.le_trans B2.out.size nA.size)))
              have i0 : w23.cell? ⟨w10.heap.size, 0, none⟩ = some (.int .i64 er2) := I3.at rfl
              have i1 : w23.cell? ⟨w10.heap.size, 1, none⟩ = some (.int .i64 n2) := I3.at rfl
              have j0 : w23.cell? ⟨w20.heap.size, 0, none⟩ = some (.int .i64 er2) := I4.at rfl
              have j1 : w23.cell? ⟨w20.heap.size, 1, none⟩ = some (.int .i64 n2) := I4.at rfl
              rw [show decide (ls2 = ls2) = true from decide_eq_true rfl]
              clear nA b3 iB I3 I4 T21 T22 B2
              go_wp2_with fail
              refine (awake_any w23 (tabs_below HT.out B3.out hl)).mono ?_
              rintro e w24 ⟨rfl, b4⟩
              have B4 := Lib.hid (B3.out.trans (b4.mono B3.out.size))
              clear b4 B3
              go_wp2_with fail
              go_ret
              exact ⟨rfl, B4.out⟩
            · have q1 : wr.cell? ⟨w1.heap.size + 1, 990, none⟩ = some (.int .u8 (ys.getD 990 0)) := hIs.at (i := 990) (by rw [List.getElem?_toArray]; exact bcells_at ys 990 (by omega))
              have qf := hIs.free 990
              have hL990 : (990 : Int) < (L : Int) := by omega
              have hyl2 : (ys.set 990 1).length = L := by simp [hyl]
              have hrow := Row.ofIs (set_bytes (k := 990) hIs 1) 0 L (ys.set 990 1) (hyl2) (by omega) (set_byte hyb 990 (z := 1) (by omega)) (fun j hj => by rw [Nat.zero_add, List.getElem?_toArray]; exact bcells_at (ys.set 990 1) j (by rw [hyl2]; exact hj))
              have HB3 := Lib.hid (hbx.setCell (p := ⟨w1.heap.size + 1, 990, none⟩) hws (.int .u8 1))
              have HROWA := Lib.hid (hrow.below ((Below.refl _ _).alloc (Nat.le_refl _) (.cells #[.int .u8 97, .int .u8 10] 5 (2, 3))))
              have hcv' : (convert 25 25 (.slice (some ⟨(wr.setCell ⟨w1.heap.size + 1, 990, none⟩ (.int .u8 1)).heap.size, 0, none⟩) 2 2)).run Tryd.prog ((wr.setCell ⟨w1.heap.size + 1, 990, none⟩ (.int .u8 1)).alloc (.cells #[.int .u8 97, .int .u8 10] 5)) = .ok (.slice (some ⟨(wr.setCell ⟨w1.heap.size + 1, 990, none⟩ (.int .u8 1)).heap.size, 0, none⟩) 2 2) ((wr.setCell ⟨w1.heap.size + 1, 990, none⟩ (.int .u8 1)).alloc (.cells #[.int .u8 97, .int .u8 10] 5 (2, 3))) := Lib.run_convert_bytes_const (P := Tryd.prog) (wr.setCell ⟨w1.heap.size + 1, 990, none⟩ (.int .u8 1)) 25 5 #[.int .u8 97, .int .u8 10] 2 2 Tryd.underlying25 Tryd.underlying5
              have hra0 := row_ab (wr.setCell ⟨w1.heap.size + 1, 990, none⟩ (.int .u8 1))
              have hss : (wr.setCell ⟨w1.heap.size + 1, 990, none⟩ (.int .u8 1)).heap.size = wr.heap.size := by simp
              rw [hss] at hcv' hra0
              have HRA0 := Lib.hid hra0
              obtain ⟨zq, hzq⟩ : ∃ zq, ys.set 990 1 = zq := ⟨_, rfl⟩
              rw [hzq] at HROWA
              clear hrow hzq hra0 hIs hyb hbx hss
              go_wp2_with (at_builtin; refine append_grow rfl (.tmp 81) (.tmp 82) rfl _ 2 [97, 10] rfl HRA0.out (by omega) _ L L rfl zq HROWA.out (by intro h; cases h) (by omega) (by omega) ?_; intro a' cap' w9 h9 hc9' b9; have R9 := Lib.hid h9; have D9 := Lib.hid b9; clear h9 b9)
              have D10 := Lib.hid ((HB3.out.alloc HB3.out.size (.cells #[.int .u8 97, .int .u8 10] 5 (2, 3))).trans (D9.out.mono (Nat.le_trans HB3.out.size (by simp))))
              have HROW2 := Lib.hid (HROWA.out.below D9.out)
              have cL := lines_all a' (2 + L) cap' ([97, 10] ++ zq) w9 R9.out (tabs_below HT.out D10.out hl) (HM.out.below D10.out hml)
              clear hcv' HROWA
              refine cL.mono ?_
              rintro e w10 ⟨v12, ls2, er2, n2, rfl, h12, hls2, t12, b12⟩
              have H12 := Lib.hid h12
              have T12 := Lib.hid (t12.below ((Below.refl _ _).alloc (Nat.le_refl _) (.cells #[.int .i64 er2, .int .i64 n2] 29)))
              have B12 := D10.out.trans (b12.mono D10.out.size)
              have D11 := Lib.hid (B12.alloc B12.size (.cells #[.int .i64 er2, .int .i64 n2] 29))
              have HROW3 := Lib.hid ((HROW2.out.below b12).below ((Below.refl _ _).alloc (Nat.le_refl _) (.cells #[.int .i64 er2, .int .i64 n2] 29)))
              have I12 := Lib.hid (Blk.Is.new w10 29 #[.int .i64 er2, .int .i64 n2])
              have hs12 : w10.heap.size < (w10.alloc (.cells #[.int .i64 er2, .int .i64 n2] 29)).heap.size := by simp
              have hs13 : (w10.alloc (.cells #[.int .i64 er2, .int .i64 n2] 29)).heap.size = w10.heap.size + 1 := by simp
              have HROWB := Lib.hid (HROW3.out.below ((Below.refl _ _).alloc (Nat.le_refl _) (.cells #[.int .u8 97, .int .u8 10] 5 (2, 3))))
              have hcw := Lib.run_convert_bytes_const (P := Tryd.prog) (w10.alloc (.cells #[.int .i64 er2, .int .i64 n2] 29)) 25 5 #[.int .u8 97, .int .u8 10] 2 2 Tryd.underlying25 Tryd.underlying5
              have hra := row_ab (w10.alloc (.cells #[.int .i64 er2, .int .i64 n2] 29))
              rw [hs13] at hcw hra
              have HRA := Lib.hid hra
              have HS12 := Lib.hid hs12
              clear h12 t12 b12 B12 cL R9 D9 HROW2 HROW3 hra hs12 hs13
              go_wp2_with (at_builtin; refine append_grow rfl (.tmp 89) (.tmp 90) rfl _ 2 [97, 10] rfl HRA.out (by omega) _ L L rfl zq HROWB.out (by intro h; cases h) (by omega) (by omega) ?_; intro a2 cap2 w19 h19 hc19 b19; have R19 := Lib.hid h19; have D19 := Lib.hid b19; clear h19 b19)
              have D20 := Lib.hid ((D11.out.alloc D11.out.size (.cells #[.int .u8 97, .int .u8 10] 5 (2, 3))).trans (D19.out.mono (Nat.le_trans D11.out.size (by simp))))
              have T20 := Lib.hid ((T12.out.below ((Below.refl _ _).alloc (Nat.le_refl _) (.cells #[.int .u8 97, .int .u8 10] 5 (2, 3)))).below D19.out)
              have I20 := Lib.hid (show Blk.Is w19 w10.heap.size 29 #[.int .i64 er2, .int .i64 n2] from (D19.out.block _ (by have := HS12.out; simp; omega)).trans (I12.out.alloc _))
              clear hcw HRA HROWB D19 T12 I12 D11 D10
              refine (ylines_all a2 (2 + L) cap2 ([97, 10] ++ zq) w19 R19.out hc19).mono ?_
              rintro e w20 ⟨v13, ls3, er3, n3, rfl, h13, hls3, t13, b13⟩
              obtain ⟨rfl, rfl, rfl⟩ := H12.out.uniq h13
              have T21 := Lib.hid (T20.out.below b13)
              have T22 := Lib.hid t13
              have hI21 : Blk.Is w20 w10.heap.size 29 #[.int .i64 er2, .int .i64 n2] := (b13.block _ I20.out.lt).trans I20.out
              have hs2 := hI21.lt
              have I21 := Lib.hid hI21
              have B2 := Lib.hid (D20.out.trans (b13.mono D20.out.size))
              clear h13 t13 b13 T20 hI21 I20 D20 R19 H12
              go_wp2_with fail
              have nA : Below w20.heap.size w20 (w20.alloc (.cells #[.int .i64 er2, .int .i64 n2] 29)) := (Below.refl _ _).alloc (Nat.le_refl _) _
              refine (sameTexts_any v12 v13 ls2 ls2 _ (T21.out.below nA) (T22.out.below nA)).mono ?_
              rintro e w23 ⟨rfl, b3⟩
              have iB := Blk.Is.new w20 29 #[.int .i64 er2, .int .i64 n2]
              have I3 : Blk.Is w23 w10.heap.size 29 #[.int .i64 er2, .int .i64 n2] := (b3.block _ (by simp; omega)).trans (I21.out.alloc _)
              have I4 : Blk.Is w23 w20.heap.size 29 #[.int .i64 er2, .int .i64 n2] := (b3.block _ (by simp)).trans iB
              have B3 := Lib.hid ((B2.out.trans (nA.mono B2.out.size)).trans (b3.mono (Nat.le_trans B2.out.size nA.size)))
              have i0 : w23.cell? ⟨w10.heap.size, 0, none⟩ = some (.int .i64 er2) := I3.at rfl
              have i1 : w23.cell? ⟨w10.heap.size, 1, none⟩ = some (.int .i64 n2) := I3.at rfl
              have j0 : w23.cell? ⟨w20.heap.size, 0, none⟩ = some (.int .i64 er2) := I4.at rfl
              have j1 : w23.cell? ⟨w20.heap.size, 1, none⟩ = some (.int .i64 n2) := I4.at rfl
              rw [show decide (ls2 = ls2) = true from decide_eq_true rfl]
              clear nA b3 iB I3 I4 T21 T22 B2
              go_wp2_with fail
              refine (awake_any w23 (tabs_below HT.out B3.out hl)).mono ?_
              rintro e w24 ⟨rfl, b4⟩
              have B4 := Lib.hid (B3.out.trans (b4.mono B3.out.size))
              clear b4 B3
              go_wp2_with fail
              go_ret
              exact ⟨rfl, B4.out⟩
      · have h3' : ¬ 3 < (N : Int) := by omega
        have her' : ((er : Int) == 2) = false := beq_eq_false_iff_ne.2 (by omega)
        obtain ⟨L, hL⟩ : ∃ L, 998 + M = L := ⟨_, rfl⟩
        have hLz : (998 : Int) + (M : Int) = (L : Int) := by omega
        have D1 := Lib.hid (B1.out.alloc B1.out.size (.cells #[.int .i64 er, .int .i64 n] 29))
        obtain ⟨W, hW⟩ : ∃ W, w1.alloc (.cells #[.int .i64 er, .int .i64 n] 29) = W := ⟨_, rfl⟩
        rw [hW] at D1
        obtain ⟨i0, hi0, hz0, hz1, hz2⟩ := info_parts infoU8
        have hmk := run_make (P := Tryd.prog) W 25 5 i0 _ Tryd.underlying25 hi0 hz0 .i64 .i64 (L : Int) (L : Int) (by omega) (by omega) (by rw [hz2]; omega) (by omega)
        rw [hz1, Int.toNat_natCast, made_bytes] at hmk
        have hIs := Blk.Is.new W 5 (bcells (List.replicate L 0)).toArray
        have hWs : W.heap.size = w1.heap.size + 1 := by rw [← hW]; simp
        rw [hWs] at hIs hmk
        have HIS := Lib.hid hIs
        have hws : w.heap.size ≤ w1.heap.size + 1 := by rw [← hWs]; exact D1.out.size
        rw [← hW] at hmk
        have HW := Lib.hid hW
        clear hIs hi0 hz0 hz1 hz2 hW hWs
        go_wp2_with fail
        rw [HW.out]
        have D2 := Lib.hid (D1.out.alloc D1.out.size (.cells (bcells (List.replicate L 0)).toArray 5))
        clear hmk
        go_loopg [69] L (fun gf s69 wx => ∃ (k : Nat) (ys : List Int), s69 = .int .i64 k ∧ k ≤ L ∧ L ≤ k + gf ∧ Blk.Is wx (w1.heap.size + 1) 5 (bcells ys).toArray ∧ ys.length = L ∧ Byte ys ∧ Below w.heap.size w wx)
        case atStart => exact ⟨0, _, rfl, by omega, by omega, HIS.out, by simp, fun z hz => by rw [List.eq_of_mem_replicate hz]; omega, D2.out⟩
        case round =>
          obtain ⟨k, ys, rfl, hk1, hk2, hIs, hyl, hyb, hbx⟩ := hrel
          by_cases hkL : k < L
          · have hkL' : (k : Int) < (L : Int) := by omega
            have i1 : wr.cell? ⟨w1.heap.size + 1, k, none⟩ = some (.int .u8 (ys.getD k 0)) := hIs.at (i := k) (by rw [List.getElem?_toArray]; exact bcells_at ys k (by omega))
            have f1 := hIs.free k
            have HIS2 := Lib.hid (set_bytes (k := k) hIs 120)
            have HB2 := Lib.hid (hbx.setCell (p := ⟨w1.heap.size + 1, k, none⟩) hws (.int .u8 120))
            have HYB := Lib.hid (set_byte hyb k (z := 120) (by omega))
            clear hIs hyb hbx
            go_wp2_with fail
            go_roundg (gk - 1)
            case measure => omega
            case rel => exact ⟨k + 1, _, by go_num, by omega, by omega, HIS2.out, by simp [hyl], HYB.out, HB2.out⟩
          · have hkL' : ¬ (k : Int) < (L : Int) := by omega
            cases bad
            · have hrow := Row.ofIs (hIs) 0 L (ys) (hyl) (by omega) (hyb) (fun j hj => by rw [Nat.zero_add, List.getElem?_toArray]; exact bcells_at (ys) j (by rw [hyl]; exact hj))
              have HB3 := Lib.hid (hbx)
              have HROWA := Lib.hid (hrow.below ((Below.refl _ _).alloc (Nat.le_refl _) (.cells #[.int .u8 97, .int .u8 10] 5 (2, 3))))
              have hcv' : (convert 25 25 (.slice (some ⟨(wr).heap.size, 0, none⟩) 2 2)).run Tryd.prog ((wr).alloc (.cells #[.int .u8 97, .int .u8 10] 5)) = .ok (.slice (some ⟨(wr).heap.size, 0, none⟩) 2 2) ((wr).alloc (.cells #[.int .u8 97, .int .u8 10] 5 (2, 3))) := Lib.run_convert_bytes_const (P := Tryd.prog) (wr) 25 5 #[.int .u8 97, .int .u8 10] 2 2 Tryd.underlying25 Tryd.underlying5
              have hra0 := row_ab (wr)
              have HRA0 := Lib.hid hra0
              obtain ⟨zq, hzq⟩ : ∃ zq, ys = zq := ⟨_, rfl⟩
              rw [hzq] at HROWA
              clear hrow hzq hra0 hIs hyb hbx
              go_wp2_with (at_builtin; refine append_grow rfl (.tmp 81) (.tmp 82) rfl _ 2 [97, 10] rfl HRA0.out (by omega) _ L L rfl zq HROWA.out (by intro h; cases h) (by omega) (by omega) ?_; intro a' cap' w9 h9 hc9' b9; have R9 := Lib.hid h9; have D9 := Lib.hid b9; clear h9 b9)
              have D10 := Lib.hid ((HB3.out.alloc HB3.out.size (.cells #[.int .u8 97, .int .u8 10] 5 (2, 3))).trans (D9.out.mono (Nat.le_trans HB3.out.size (by simp))))
              have HROW2 := Lib.hid (HROWA.out.below D9.out)
              have cL := lines_all a' (2 + L) cap' ([97, 10] ++ zq) w9 R9.out (tabs_below HT.out D10.out hl) (HM.out.below D10.out hml)
              clear hcv' HROWA
              refine cL.mono ?_
              rintro e w10 ⟨v12, ls2, er2, n2, rfl, h12, hls2, t12, b12⟩
              have H12 := Lib.hid h12
              have T12 := Lib.hid (t12.below ((Below.refl _ _).alloc (Nat.le_refl _) (.cells #[.int .i64 er2, .int .i64 n2] 29)))
              have B12 := D10.out.trans (b12.mono D10.out.size)
              have D11 := Lib.hid (B12.alloc B12.size (.cells #[.int .i64 er2, .int .i64 n2] 29))
              have HROW3 := Lib.hid ((HROW2.out.below b12).below ((Below.refl _ _).alloc (Nat.le_refl _) (.cells #[.int .i64 er2, .int .i64 n2] 29)))
              have I12 := Lib.hid (Blk.Is.new w10 29 #[.int .i64 er2, .int .i64 n2])
              have hs12 : w10.heap.size < (w10.alloc (.cells #[.int .i64 er2, .int .i64 n2] 29)).heap.size := by simp
              have hs13 : (w10.alloc (.cells #[.int .i64 er2, .int .i64 n2] 29)).heap.size = w10.heap.size + 1 := by simp
              have HROWB := Lib.hid (HROW3.out.below ((Below.refl _ _).alloc (Nat.le_refl _) (.cells #[.int .u8 97, .int .u8 10] 5 (2, 3))))
              have hcw := Lib.run_convert_bytes_const (P := Tryd.prog) (w10.alloc (.cells #[.int .i64 er2, .int .i64 n2] 29)) 25 5 #[.int .u8 97, .int .u8 10] 2 2 Tryd.underlying25 Tryd.underlying5
              have hra := row_ab (w10.alloc (.cells #[.int .i64 er2, .int .i64 n2] 29))
              rw [hs13] at hcw hra
              have HRA := Lib.hid hra
              have HS12 := Lib.hid hs12
              clear h12 t12 b12 B12 cL R9 D9 HROW2 HROW3 hra hs12 hs13
              go_wp2_with (at_builtin; refine append_grow rfl (.tmp 89) (.tmp 90) rfl _ 2 [97, 10] rfl HRA.out (by omega) _ L L rfl zq HROWB.out (by intro h; cases h) (by omega) (by omega) ?_; intro a2 cap2 w19 h19 hc19 b19; have R19 := Lib.hid h19; have D19 := Lib.hid b19; clear h19 b19)
              have D20 := Lib.hid ((D11.out.alloc D11.out.size (.cells #[.int .u8 97, .int .u8 10] 5 (2, 3))).trans (D19.out.mono (Nat.le_trans D11.out.size (by simp))))
              have T20 := Lib.hid ((T12.out.below ((Below.refl _ _).alloc (Nat.le_refl _) (.cells #[.int .u8 97, .int .u8 10] 5 (2, 3)))).below D19.out)
              have I20 := Lib.hid (show Blk.Is w19 w10.heap.size 29 #[.int .i64 er2, .int .i64 n2] from (D19.out.block _ (by have := HS12.out; simp; omega)).trans (I12.out.alloc _))
              clear hcw HRA HROWB D19 T12 I12 D11 D10
              refine (ylines_all a2 (2 + L) cap2 ([97, 10] ++ zq) w19 R19.out hc19).mono ?_
              rintro e w20 ⟨v13, ls3, er3, n3, rfl, h13, hls3, t13, b13⟩
              obtain ⟨rfl, rfl, rfl⟩ := H12.out.uniq h13
              have T21 := Lib.hid (T20.out.below b13)
              have T22 := Lib.hid t13
              have hI21 : Blk.Is w20 w10.heap.size 29 #[.int .i64 er2, .int .i64 n2] := (b13.block _ I20.out.lt).trans I20.out
              have hs2 := hI21.lt
              have I21 := Lib.hid hI21
              have B2 := Lib.hid (D20.out.trans (b13.mono D20.out.size))
              clear h13 t13 b13 T20 hI21 I20 D20 R19 H12
              go_wp2_with fail
              have nA : Below w20.heap.size w20 (w20.alloc (.cells #[.int .i64 er2, .int .i64 n2] 29)) := (Below.refl _ _).alloc (Nat.le_refl _) _
              refine (sameTexts_any v12 v13 ls2 ls2 _ (T21.out.below nA) (T22.out.below nA)).mono ?_
              rintro e w23 ⟨rfl, b3⟩
              have iB := Blk.Is.new w20 29 #[.int .i64 er2, .int .i64 n2]
              have I3 : Blk.Is w23 w10.heap.size 29 #[.int .i64 er2, .int .i64 n2] := (b3.block _ (by simp; omega)).trans (I21.out.alloc _)
              have I4 : Blk.Is w23 w20.heap.size 29 #[.int .i64 er2, .int .i64 n2] := (b3.block _ (by simp)).trans iB
              have B3 := Lib.hid ((B2.out.trans (nA.mono B2.out.size)).trans (b3.mono (Nat.le_trans B2.out.size nA.size)))
              have i0 : w23.cell? ⟨w10.heap.size, 0, none⟩ = some (.int .i64 er2) := I3.at rfl
              have i1 : w23.cell? ⟨w10.heap.size, 1, none⟩ = some (.int .i64 n2) := I3.at rfl
              have j0 : w23.cell? ⟨w20.heap.size, 0, none⟩ = some (.int .i64 er2) := I4.at rfl
              have j1 : w23.cell? ⟨w20.heap.size, 1, none⟩ = some (.int .i64 n2) := I4.at rfl
              rw [show decide (ls2 = ls2) = true from decide_eq_true rfl]
              clear nA b3 iB I3 I4 T21 T22 B2
              go_wp2_with fail
              refine (awake_any w23 (tabs_below HT.out B3.out hl)).mono ?_
              rintro e w24 ⟨rfl, b4⟩
              have B4 := Lib.hid (B3.out.trans (b4.mono B3.out.size))
              clear b4 B3
              go_wp2_with fail
              go_ret
              exact ⟨rfl, B4.out⟩
            · have q1 : wr.cell? ⟨w1.heap.size + 1, 990, none⟩ = some (.int .u8 (ys.getD 990 0)) := hIs.at (i := 990) (by rw [List.getElem?_toArray]; exact bcells_at ys 990 (by omega))
              have qf := hIs.free 990
              have hL990 : (990 : Int) < (L : Int) := by omega
              have hyl2 : (ys.set 990 1).length = L := by simp [hyl]
              have hrow := Row.ofIs (set_bytes (k := 990) hIs 1) 0 L (ys.set 990 1) (hyl2) (by omega) (set_byte hyb 990 (z := 1) (by omega)) (fun j hj => by rw [Nat.zero_add, List.getElem?_toArray]; exact bcells_at (ys.set 990 1) j (by rw [hyl2]; exact hj))
              have HB3 := Lib.hid (hbx.setCell (p := ⟨w1.heap.size + 1, 990, none⟩) hws (.int .u8 1))
              have HROWA := Lib.hid (hrow.below ((Below.refl _ _).alloc (Nat.le_refl _) (.cells #[.int .u8 97, .int .u8 10] 5 (2, 3))))
              have hcv' : (convert 25 25 (.slice (some ⟨(wr.setCell ⟨w1.heap.size + 1, 990, none⟩ (.int .u8 1)).heap.size, 0, none⟩) 2 2)).run Tryd.prog ((wr.setCell ⟨w1.heap.size + 1, 990, none⟩ (.int .u8 1)).alloc (.cells #[.int .u8 97, .int .u8 10] 5)) = .ok (.slice (some ⟨(wr.setCell ⟨w1.heap.size + 1, 990, none⟩ (.int .u8 1)).heap.size, 0, none⟩) 2 2) ((wr.setCell ⟨w1.heap.size + 1, 990, none⟩ (.int .u8 1)).alloc (.cells #[.int .u8 97, .int .u8 10] 5 (2, 3))) := Lib.run_convert_bytes_const (P := Tryd.prog) (wr.setCell ⟨w1.heap.size + 1, 990, none⟩ (.int .u8 1)) 25 5 #[.int .u8 97, .int .u8 10] 2 2 Tryd.underlying25 Tryd.underlying5
              have hra0 := row_ab (wr.setCell ⟨w1.heap.size + 1, 990, none⟩ (.int .u8 1))
              have hss : (wr.setCell ⟨w1.heap.size + 1, 990, none⟩ (.int .u8 1)).heap.size = wr.heap.size := by simp
              rw [hss] at hcv' hra0
              have HRA0 := Lib.hid hra0
              obtain ⟨zq, hzq⟩ : ∃ zq, ys.set 990 1 = zq := ⟨_, rfl⟩
              rw [hzq] at HROWA
              clear hrow hzq hra0 hIs hyb hbx hss
              go_wp2_with (at_builtin; refine append_grow rfl (.tmp 81) (.tmp 82) rfl _ 2 [97, 10] rfl HRA0.out (by omega) _ L L rfl zq HROWA.out (by intro h; cases h) (by omega) (by omega) ?_; intro a' cap' w9 h9 hc9' b9; have R9 := Lib.hid h9; have D9 := Lib.hid b9; clear h9 b9)
              have D10 := Lib.hid ((HB3.out.alloc HB3.out.size (.cells #[.int .u8 97, .int .u8 10] 5 (2, 3))).trans (D9.out.mono (Nat.le_trans HB3.out.size (by simp))))
              have HROW2 := Lib.hid (HROWA.out.below D9.out)
              have cL := lines_all a' (2 + L) cap' ([97, 10] ++ zq) w9 R9.out (tabs_below HT.out D10.out hl) (HM.out.below D10.out hml)
              clear hcv' HROWA
              refine cL.mono ?_
              rintro e w10 ⟨v12, ls2, er2, n2, rfl, h12, hls2, t12, b12⟩
              have H12 := Lib.hid h12
              have T12 := Lib.hid (t12.below ((Below.refl _ _).alloc (Nat.le_refl _) (.cells #[.int .i64 er2, .int .i64 n2] 29)))
              have B12 := D10.out.trans (b12.mono D10.out.size)
              have D11 := Lib.hid (B12.alloc B12.size (.cells #[.int .i64 er2, .int .i64 n2] 29))
              have HROW3 := Lib.hid ((HROW2.out.below b12).below ((Below.refl _ _).alloc (Nat.le_refl _) (.cells #[.int .i64 er2, .int .i64 n2] 29)))
              have I12 := Lib.hid (Blk.Is.new w10 29 #[.int .i64 er2, .int .i64 n2])
              have hs12 : w10.heap.size < (w10.alloc (.cells #[.int .i64 er2, .int .i64 n2] 29)).heap.size := by simp
              have hs13 : (w10.alloc (.cells #[.int .i64 er2, .int .i64 n2] 29)).heap.size = w10.heap.size + 1 := by simp
              have HROWB := Lib.hid (HROW3.out.below ((Below.refl _ _).alloc (Nat.le_refl _) (.cells #[.int .u8 97, .int .u8 10] 5 (2, 3))))
              have hcw := Lib.run_convert_bytes_const (P := Tryd.prog) (w10.alloc (.cells #[.int .i64 er2, .int .i64 n2] 29)) 25 5 #[.int .u8 97, .int .u8 10] 2 2 Tryd.underlying25 Tryd.underlying5
              have hra := row_ab (w10.alloc (.cells #[.int .i64 er2, .int .i64 n2] 29))
              rw [hs13] at hcw hra
              have HRA := Lib.hid hra
              have HS12 := Lib.hid hs12
              clear h12 t12 b12 B12 cL R9 D9 HROW2 HROW3 hra hs12 hs13
              go_wp2_with (at_builtin; refine append_grow rfl (.tmp 89) (.tmp 90) rfl _ 2 [97, 10] rfl HRA.out (by omega) _ L L rfl zq HROWB.out (by intro h; cases h) (by omega) (by omega) ?_; intro a2 cap2 w19 h19 hc19 b19; have R19 := Lib.hid h19; have D19 := Lib.hid b19; clear h19 b19)
              have D20 := Lib.hid ((D11.out.alloc D11.out.size (.cells #[.int .u8 97, .int .u8 10] 5 (2, 3))).trans (D19.out.mono (Nat.le_trans D11.out.size (by simp))))
              have T20 := Lib.hid ((T12.out.below ((Below.refl _ _).alloc (Nat.le_refl _) (.cells #[.int .u8 97, .int .u8 10] 5 (2, 3)))).below D19.out)
              have I20 := Lib.hid (show Blk.Is w19 w10.heap.size 29 #[.int .i64 er2, .int .i64 n2] from (D19.out.block _ (by have := HS12.out; simp; omega)).trans (I12.out.alloc _))
              clear hcw HRA HROWB D19 T12 I12 D11 D10
              refine (ylines_all a2 (2 + L) cap2 ([97, 10] ++ zq) w19 R19.out hc19).mono ?_
              rintro e w20 ⟨v13, ls3, er3, n3, rfl, h13, hls3, t13, b13⟩
              obtain ⟨rfl, rfl, rfl⟩ := H12.out.uniq h13
              have T21 := Lib.hid (T20.out.below b13)
              have T22 := Lib.hid t13
              have hI21 : Blk.Is w20 w10.heap.size 29 #[.int .i64 er2, .int .i64 n2] := (b13.block _ I20.out.lt).trans I20.out
              have hs2 := hI21.lt
              have I21 := Lib.hid hI21
              have B2 := Lib.hid (D20.out.trans (b13.mono D20.out.size))
              clear h13 t13 b13 T20 hI21 I20 D20 R19 H12
              go_wp2_with fail
              have nA : Below w20.heap.size w20 (w20.alloc (.cells #[.int .i64 er2, .int .i64 n2] 29)) := (Below.refl _ _).alloc (Nat.le_refl _) _
              refine (sameTexts_any v12 v13 ls2 ls2 _ (T21.out.below nA) (T22.out.below nA)).mono ?_
              rintro e w23 ⟨rfl, b3⟩
              have iB := Blk.Is.new w20 29 #[.int .i64 er2, .int .i64 n2]
              have I3 : Blk.Is w23 w10.heap.size 29 #[.int .i64 er2, .int .i64 n2] := (b3.block _ (by simp; omega)).trans (I21.out.alloc _)
              have I4 : Blk.Is w23 w20.heap.size 29 #[.int .i64 er2, .int .i64 n2] := (b3.block _ (by simp)).trans iB
              have B3 := Lib.hid ((B2.out.trans (nA.mono B2.out.size)).trans (b3.mono (Nat.le_trans B2.out.size nA.size)))
              have i0 : w23.cell? ⟨w10.heap.size, 0, none⟩ = some (.int .i64 er2) := I3.at rfl
              have i1 : w23.cell? ⟨w10.heap.size, 1, none⟩ = some (.int .i64 n2) := I3.at rfl
              have j0 : w23.cell? ⟨w20.heap.size, 0, none⟩ = some (.int .i64 er2) := I4.at rfl
              have j1 : w23.cell? ⟨w20.heap.size, 1, none⟩ = some (.int .i64 n2) := I4.at rfl
              rw [show decide (ls2 = ls2) = true from decide_eq_true rfl]
              clear nA b3 iB I3 I4 T21 T22 B2
              go_wp2_with fail
              refine (awake_any w23 (tabs_below HT.out B3.out hl)).mono ?_
              rintro e w24 ⟨rfl, b4⟩
              have B4 := Lib.hid (B3.out.trans (b4.mono B3.out.size))
              clear b4 B3
              go_wp2_with fail
              go_ret
              exact ⟨rfl, B4.out⟩
end Txt
end Go.Proofs.YtnhacikpkchfjaaDoor

/-
The contract of the reference's Lines.
-/
import Derived.Test.YtgolnfgkoolpoaaDoorLinesK
import Derived.Test.YtgolnfgkoolpoaaDoorWordsRef
namespace Go.Proofs.YtgolnfgkoolpoaaDoor
open Go.RowKit
set_option linter.unusedSimpArgs false
set_option linter.unusedVariables false
namespace Txt
theorem nums_b {zs : List Int} (h : Byte zs) (k : Nat) (hk : k < zs.length) : zs.getD k 0 = (b (strOfNums zs) k : Int) := by
  have hs : k < (strOfNums zs).size := by rw [strOfNums_size]; exact hk
  have h1 := h.getD k
  rw [← getD_b _ k hs, strOfNums_data]
  have e : (zs.map fun n => UInt8.ofNat n.toNat).getD k 0 = UInt8.ofNat (zs.getD k 0).toNat := by
    simp [List.getD_eq_getElem?_getD, hk]
  rw [e, UInt8.toNat_ofNat']
  omega
theorem Row.part {w : World} {g off len : Nat} {zs : List Int} (h : Row w (some ⟨g, off, none⟩) len zs) (i j : Nat) (hij : i ≤ j) (hj : j ≤ len) : Row w (some ⟨g, off + i, none⟩) (j - i) ((zs.drop i).take (j - i)) := by
  have hc := h.count
  refine ⟨by rw [List.length_take, List.length_drop]; omega, by have := h.short; omega, (h.byt.drop i).take _, fun h0 => ?_⟩
  obtain ⟨b, o, e, h1, h2⟩ := h.cells (by omega)
  cases e
  refine ⟨_, _, rfl, h1, fun k hk => ?_⟩
  have := h2 (i + k) (by omega)
  rw [Nat.add_assoc, this]
  congr 2
  simp [List.getD_eq_getElem?_getD, List.getElem?_take, List.getElem?_drop, hk]
theorem part_str (zs : List Int) (i j : Nat) (hj : j ≤ zs.length) : strOfNums ((zs.drop i).take (j - i)) = (strOfNums zs).extract i j := by
  refine bytes_inj ?_
  rw [ext_list _ _ _ (by rw [strOfNums_size]; exact hj), strOfNums_data, strOfNums_data, List.map_take, List.map_drop]
def Plain (x : List UInt8) : Prop := ∀ c ∈ x, c ≠ 10
theorem spl_plain {x : List UInt8} (h : Plain x) : spl x = [x] := by
  induction x with
  | nil => rfl
  | cons c x ih =>
    have e : spl (c :: x) = if c = 10 then [] :: spl x else put c (spl x) := rfl
    rw [e, if_neg (h c (.head _)), ih (fun d hd => h d (.tail _ hd))]
    rfl
theorem spl_feed {x : List UInt8} (h : Plain x) (r : List UInt8) : spl (x ++ 10 :: r) = x :: spl r := by
  induction x with
  | nil => rfl
  | cons c x ih =>
    have e : spl (c :: (x ++ 10 :: r)) = if c = 10 then [] :: spl (x ++ 10 :: r) else put c (spl (x ++ 10 :: r)) := rfl
    rw [List.cons_append, e, if_neg (h c (.head _)), ih (fun d hd => h d (.tail _ hd))]
    rfl
theorem plain_run (s : ByteArray) (k : Nat) : ∀ n, k + n ≤ s.size → (∀ j, k ≤ j → j < k + n → b s j ≠ 10) → ∃ x, s.data.toList.drop k = x ++ s.data.toList.drop (k + n) ∧ x.length = n ∧ Plain x
  | 0, _, _ => ⟨[], by simp, rfl, fun _ h => by cases h⟩
  | n + 1, h, hb => by
    obtain ⟨x, h1, h2, h3⟩ := plain_run s k n (by omega) (fun j h4 h5 => hb j h4 (by omega))
    obtain ⟨c, h4, h5⟩ := drop_cons s (k + n) (by omega)
    refine ⟨x ++ [c], ?_, by simp [h2], fun d hd => ?_⟩
    · rw [h1, h4]; simp [Nat.add_assoc]
    · rcases List.mem_append.1 hd with h | h
      · exact h3 d h
      · rw [List.mem_singleton.1 h]
        rintro rfl
        exact hb (k + n) (by omega) (by omega) h5.symm
/-- The lines that are still to be told, from here on. -/
def rest (s : ByteArray) (from' : Nat) : List (List UInt8) := dl (spl (s.data.toList.drop from'))
theorem rest_end (s : ByteArray) (k : Nat) (h : s.size ≤ k) : rest s k = [] := by
  unfold rest
  rw [List.drop_eq_nil_of_le (by rw [len_list]; exact h)]
  rfl
theorem rest_feed (s : ByteArray) (k i : Nat) (hk : k ≤ i) (hi : i < s.size) (hp : ∀ j, k ≤ j → j < i → b s j ≠ 10) (h10 : b s i = 10) : rest s k = (s.extract k i).data.toList :: rest s (i + 1) := by
  obtain ⟨x, h1, h2, h3⟩ := plain_run s k (i - k) (by omega) (fun j h4 h5 => hp j h4 (by omega))
  rw [show k + (i - k) = i by omega] at h1
  obtain ⟨c, h4, h5⟩ := drop_cons s i hi
  have hc : c = 10 := UInt8.toNat_inj.1 (by rw [h5, h10]; rfl)
  subst hc
  unfold rest
  rw [h1, h4, spl_feed h3, dl_cons _ (spl_ne _), ext_list s k i (by omega), h1, List.take_left' h2]
theorem rest_last (s : ByteArray) (k : Nat) (hk : k < s.size) (hp : ∀ j, k ≤ j → j < s.size → b s j ≠ 10) : rest s k = [(s.extract k s.size).data.toList] := by
  obtain ⟨x, h1, h2, h3⟩ := plain_run s k (s.size - k) (by omega) (fun j h4 h5 => hp j h4 (by omega))
  rw [show k + (s.size - k) = s.size by omega, show s.data.toList.drop s.size = [] by rw [← len_list]; exact List.drop_length, List.append_nil] at h1
  unfold rest
  rw [h1, spl_plain h3, ext_list s k s.size (by omega), h1, List.take_of_length_le (by omega)]
  show (if x = [] then [] else [x]) = [x]
  rw [if_neg (by intro e; rw [e] at h2; simp at h2; omega)]
def mk (l : List UInt8) : ByteArray := ⟨l.toArray⟩
theorem mk_list (ls : List (List UInt8)) : (ls.map mk).map (·.data.toList) = ls := by
  rw [List.map_map]
  have : ((fun x : ByteArray => x.data.toList) ∘ mk) = id := by funext l; simp [mk]
  rw [this, List.map_id]
/-- A line that may not be one, behind lines that may. -/
theorem lres_bad {s x : ByteArray} {ls : List ByteArray} {r : List (List UInt8)} {e : Nat} (h : (ls ++ [x]).map (·.data.toList) ++ r = linesL s.data.toList) (hE : ∀ i, i < ls.length → E (ls.getD i ByteArray.empty) = 0) (he : E x = e) (h0 : e ≠ 0) :
    LRes s [] e (ls ++ [x]).length := by
  refine .inr ⟨rfl, h0, (ls ++ [x]) ++ r.map mk, ls.length, ?_, by simp, fun j hj => ?_, ?_, by simp⟩
  · unfold LinesOf
    rw [List.map_append, mk_list]; exact h
  · have := hE j hj
    simp only [List.getD_eq_getElem?_getD] at this ⊢
    rw [List.append_assoc, List.getElem?_append_left hj]; exact this
  · simp only [List.getD_eq_getElem?_getD]
    rw [List.append_assoc, List.getElem?_append_right (Nat.le_refl _), Nat.sub_self]
    simpa using he
theorem E_more {ls : List ByteArray} {x : ByteArray} (h : ∀ i, i < ls.length → E (ls.getD i ByteArray.empty) = 0) (hx : E x = 0) : ∀ i, i < (ls ++ [x]).length → E ((ls ++ [x]).getD i ByteArray.empty) = 0 := fun i hi => by
  simp only [List.getD_eq_getElem?_getD]
  by_cases e : i < ls.length
  · have := h i e
    simp only [List.getD_eq_getElem?_getD] at this
    rw [List.getElem?_append_left e]; exact this
  · have : i = ls.length := by simp at hi; omega
    subst this
    rw [List.getElem?_append_right (Nat.le_refl _), Nat.sub_self]
    simpa using hx
set_option maxRecDepth 100000 in
set_option maxHeartbeats 2000000 in
theorem ylines_long (a : Option Addr) (len cap : Nat) (w : World) (hl : 65536 < len) :
    Calls Tryd.prog 26 #[.slice a len cap] w fun e w' => e = .returned (.tuple #[.slice none 0 0, .agg #[.int .i64 2, .int .i64 0]]) ∧ Below w.heap.size w w' := by
  have hl' : 65536 < (len : Int) := by omega
  go_enter Tryd.func26, Tryd.ntmps26
  go_wp2_with fail
  go_returns
  exact ⟨rfl, (Below.refl _ _).alloc (Nat.le_refl _) _⟩
theorem owns_slice {w : World} {B e size n : Nat} {v : Value} {xs : List Value} (h : w.ownsRow B e size v n xs) (hn : 0 < n) : ∃ g c, v = .slice (some ⟨g, 0, none⟩) n c := by
  rcases h.2 with ⟨_, h0⟩ | ⟨g, c, cur, rfl, _⟩
  · omega
  · exact ⟨g, c, rfl⟩
set_option maxRecDepth 100000 in
set_option maxHeartbeats 8000000 in
theorem ylines_any (a : Option Addr) (len cap : Nat) (zs : List Int) (w : World) (hr : Row w a len zs) (hl : len ≤ 65536) (hcap : len ≤ cap) :
    Calls Tryd.prog 26 #[.slice a len cap] w fun e w' => ∃ v ls er n, e = .returned (.tuple #[v, .agg #[.int .i64 (er : Nat), .int .i64 (n : Nat)]]) ∧ LRes (strOfNums zs) ls er n ∧ ls.length ≤ 65538 ∧ Texts w' v ls ∧ Below w.heap.size w w' := by
  have hl' : ¬ 65536 < (len : Int) := by omega
  have hsz : (strOfNums zs).size = len := by rw [strOfNums_size]; exact hr.count
  have bA : Below w.heap.size w (w.alloc (.cells #[.int .i64 0, .int .i64 0] 26)) := (Below.refl _ _).alloc (Nat.le_refl _) _
  obtain ⟨S, hS⟩ : ∃ S, strOfNums zs = S := ⟨_, rfl⟩
  have hbs : ∀ k, k < len → zs.getD k 0 = (b S k : Int) := fun k hk => by rw [← hS]; exact nums_b hr.byt k (by rw [hr.count]; exact hk)
  have hps : ∀ i j, j ≤ len → strOfNums ((zs.drop i).take (j - i)) = S.extract i j := fun i j hj => by rw [← hS]; exact part_str zs i j (by rw [hr.count]; exact hj)
  rw [hS] at hsz ⊢
  have HBS := Lib.hid hbs
  have HPS := Lib.hid hps
  have HSZ := Lib.hid hsz
  have HROW := Lib.hid (hr.below bA)
  clear hr hS hbs hps hsz
  go_enter Tryd.func26, Tryd.ntmps26
  go_wp2_with fail
  have iA := Blk.Is.new w 26 #[.int .i64 0, .int .i64 0]
  have sA : w.heap.size < (w.alloc (.cells #[.int .i64 0, .int .i64 0] 26)).heap.size := by simp
  obtain ⟨W, hW⟩ : ∃ W, w.alloc (.cells #[.int .i64 0, .int .i64 0] 26) = W := ⟨_, rfl⟩
  rw [hW] at iA bA sA HROW ⊢
  have IA := Lib.hid iA
  have BA := Lib.hid bA
  clear hW iA bA
  go_loopg [4, 5, 6] (len + 1) (fun gf s4 s5 s6 wx => ∃ (i f : Nat) (ls : List ByteArray), s5 = .int .i64 f ∧ s6 = .int .i64 i ∧ wx.ownsRow W.heap.size 9 1 s4 ls.length (ls.map Value.string) ∧ Below W.heap.size W wx ∧
      Hid (ls.map (·.data.toList) ++ rest S f = linesL S.data.toList) ∧ Hid (∀ i, i < ls.length → E (ls.getD i ByteArray.empty) = 0) ∧ Hid (∀ j, f ≤ j → j < i → b S j ≠ 10) ∧ f ≤ i ∧ i ≤ len + 1 ∧ len + 1 ≤ i + gf ∧ ls.length ≤ i ∧ (i = len + 1 → len ≤ f))
  case atStart => exact ⟨0, 0, [], rfl, rfl, World.ownsRow_nil _ _ _ _, Below.refl _ _, rfl, fun i hi => absurd hi (by simp), fun j _ h => by omega, by omega, by omega, by omega, by simp, fun h => by omega⟩
  case round =>
    obtain ⟨i, f, ls, rfl, rfl, hown, hbw, HR, HE, HP, hfi, hil, hig, hls, hend⟩ := hrel
    have HO := Lib.hid hown
    have HB := Lib.hid hbw
    clear hown hbw
    by_cases hlt : i < len
    · have hlt' : (i : Int) < (len : Int) := by omega
      have hle' : (i : Int) ≤ (len : Int) := by omega
      obtain ⟨g, off, rfl, hgl, hcell⟩ := HROW.out.cells (by omega)
      have hrow2 := HROW.out.below HB.out
      have x1 := hcell i hlt
      rw [HBS.out i hlt] at x1
      rw [← HB.out.cell (p := ⟨g, off + i, none⟩) hgl] at x1
      have HROW2 := Lib.hid hrow2
      clear hcell hrow2
      by_cases h10 : b S i = 10
      · rw [h10] at x1
        have hcv := (Row.part HROW2.out f i hfi (by omega)).conv (cap - f)
        rw [HPS.out f i (by omega)] at hcv
        have hrest : rest S f = (S.extract f i).data.toList :: rest S (i + 1) := rest_feed S f i hfi (by rw [HSZ.out]; exact hlt) HP.out h10
        have hxs : (S.extract f i).size ≤ 65536 := by rw [ByteArray.size_extract]; omega
        obtain ⟨x, hx⟩ : ∃ x, S.extract f i = x := ⟨_, rfl⟩
        rw [hx] at hcv hrest hxs
        have HR2 := Lib.hid (show (ls ++ [x]).map (·.data.toList) ++ rest S (i + 1) = linesL S.data.toList by rw [← HR.out, hrest]; simp)
        have HO2 := Lib.hid (HO.out.alloc (.cells #[.string x] 9))
        have HCELL := Lib.hid (new_cell wr (.string x) 9)
        have hB := HB.out.size
        have hlsN : ls.length ≤ 65540 := by omega
        obtain ⟨N, hN⟩ : ∃ N, (ls ++ [x]).length = N := ⟨_, rfl⟩
        have HN := Lib.hid hN
        have hNl : N = ls.length + 1 := by rw [← hN]; simp
        have HNL := Lib.hid hNl
        have hf0 : (f : Int) ≤ (i : Int) := by omega
        clear hx hrest HR HP HO HROW2 hN hNl
        by_cases hbig : 1000 < x.size
        · have hbig' : 1000 < (x.size : Int) := by omega
          go_wp2_with (at_builtin; refine append_text rfl (.tmp 47) (.tmp 49) rfl W.heap.size _ ls rfl HO2.out ⟨_, 0, none⟩ 1 rfl x HCELL.out (by omega) (by simp; omega) ?_; intro v' w4 h4 h5; have hbel := Own.below_grown (HB.out.alloc hB (.cells #[.string x] 9)) HO2.out h5 (by simp; omega); have hI : Blk.Is w4 w.heap.size 26 #[.int .i64 0, .int .i64 0] := (hbel.block _ sA).trans IA.out; have i0 : w4.cell? ⟨w.heap.size, 0, none⟩ = some (.int .i64 0) := hI.at rfl; have i1 : w4.cell? ⟨w.heap.size, 1, none⟩ = some (.int .i64 0) := hI.at rfl; have f0 := hI.free 0; have f1 := hI.free 1; rw [HN.out] at h4; obtain ⟨g2, c2, rfl⟩ := owns_slice h4 (by have := HNL.out; omega); have H4 := Lib.hid h4; have HBL := Lib.hid hbel; have HI := Lib.hid hI; clear h4 h5 hbel hI)
          have hF : Blk.Is ((w4.setCell ⟨w.heap.size, 0, none⟩ (.int .i64 2)).setCell ⟨w.heap.size, 1, none⟩ (.int .i64 N)) w.heap.size 26 #[.int .i64 2, .int .i64 N] := two_set HI.out _ _
          have hBF : Below w.heap.size w ((w4.setCell ⟨w.heap.size, 0, none⟩ (.int .i64 2)).setCell ⟨w.heap.size, 1, none⟩ (.int .i64 N)) :=
            ((BA.out.trans (HBL.out.mono (Nat.le_of_lt sA))).setCell (p := ⟨w.heap.size, 0, none⟩) (Nat.le_refl _) _).setCell (p := ⟨w.heap.size, 1, none⟩) (Nat.le_refl _) _
          obtain ⟨V, hV⟩ : ∃ V, ((w4.setCell ⟨w.heap.size, 0, none⟩ (.int .i64 2)).setCell ⟨w.heap.size, 1, none⟩ (.int .i64 N)) = V := ⟨_, rfl⟩
          rw [hV] at hF hBF ⊢
          have j0 : V.cell? ⟨w.heap.size, 0, none⟩ = some (.int .i64 2) := hF.at rfl
          have j1 : V.cell? ⟨w.heap.size, 1, none⟩ = some (.int .i64 N) := hF.at rfl
          clear i0 i1 f0 f1 hV
          refine bodyPost_ret (by simp [results, Tryd.results26, go_sem, j0, j1]; try rfl) rfl ?_
          refine ⟨_, [], 2, N, rfl, ?_, by simp, Texts.none _, hBF⟩
          rw [← HN.out]
          exact lres_bad HR2.out HE.out (by unfold E; rw [if_pos hbig]) (by decide)
        · have hbig' : ¬ 1000 < (x.size : Int) := by omega
          go_wp2_with (at_builtin; refine append_text rfl (.tmp 47) (.tmp 49) rfl W.heap.size _ ls rfl HO2.out ⟨_, 0, none⟩ 1 rfl x HCELL.out (by omega) (by simp; omega) ?_; intro v' w4 h4 h5; have hbel := Own.below_grown (HB.out.alloc hB (.cells #[.string x] 9)) HO2.out h5 (by simp; omega); have hI : Blk.Is w4 w.heap.size 26 #[.int .i64 0, .int .i64 0] := (hbel.block _ sA).trans IA.out; have i0 : w4.cell? ⟨w.heap.size, 0, none⟩ = some (.int .i64 0) := hI.at rfl; have i1 : w4.cell? ⟨w.heap.size, 1, none⟩ = some (.int .i64 0) := hI.at rfl; have f0 := hI.free 0; have f1 := hI.free 1; rw [HN.out] at h4; obtain ⟨g2, c2, rfl⟩ := owns_slice h4 (by have := HNL.out; omega); have H4 := Lib.hid h4; have HBL := Lib.hid hbel; have HI := Lib.hid hI; clear h4 h5 hbel hI)
          refine (ygood_any x w4 (by omega)).mono ?_
          rintro e w5 ⟨rfl, rfl⟩
          obtain ⟨G, hG⟩ : ∃ G, good x = G := ⟨_, rfl⟩
          rw [hG]
          have HG := Lib.hid hG
          clear hG
          by_cases hg : 0 ≤ G
          · go_wp2_with fail
            have hF : Blk.Is ((w5.setCell ⟨w.heap.size, 0, none⟩ (.int .i64 3)).setCell ⟨w.heap.size, 1, none⟩ (.int .i64 N)) w.heap.size 26 #[.int .i64 3, .int .i64 N] := two_set HI.out _ _
            have hBF : Below w.heap.size w ((w5.setCell ⟨w.heap.size, 0, none⟩ (.int .i64 3)).setCell ⟨w.heap.size, 1, none⟩ (.int .i64 N)) :=
              ((BA.out.trans (HBL.out.mono (Nat.le_of_lt sA))).setCell (p := ⟨w.heap.size, 0, none⟩) (Nat.le_refl _) _).setCell (p := ⟨w.heap.size, 1, none⟩) (Nat.le_refl _) _
            obtain ⟨V, hV⟩ : ∃ V, ((w5.setCell ⟨w.heap.size, 0, none⟩ (.int .i64 3)).setCell ⟨w.heap.size, 1, none⟩ (.int .i64 N)) = V := ⟨_, rfl⟩
            rw [hV] at hF hBF ⊢
            have j0 : V.cell? ⟨w.heap.size, 0, none⟩ = some (.int .i64 3) := hF.at rfl
            have j1 : V.cell? ⟨w.heap.size, 1, none⟩ = some (.int .i64 N) := hF.at rfl
            clear i0 i1 f0 f1 hV
            refine bodyPost_ret (by simp [results, Tryd.results26, go_sem, j0, j1]; try rfl) rfl ?_
            refine ⟨_, [], 3, N, rfl, ?_, by simp, Texts.none _, hBF⟩
            rw [← HN.out]
            exact lres_bad HR2.out HE.out (by unfold E; rw [if_neg hbig, if_pos (by rw [HG.out]; exact hg)]) (by decide)
          · have HE2 := Lib.hid (E_more HE.out (show E x = 0 by unfold E; rw [if_neg hbig, if_neg (by rw [HG.out]; exact hg)]))
            clear i0 i1 f0 f1 HG HCELL HO2
            go_wp2_with fail
            go_roundg (gk - 1)
            case measure => omega
            case rel => exact ⟨i + 1, i + 1, ls ++ [x], by go_num, by go_num, by rw [HN.out]; exact H4.out, HBL.out, HR2, HE2, fun j h1 h2 => by omega, by omega, by omega, by omega, by simp; omega, fun h => by omega⟩
      · have hbl := b_lt S i
        have HP2 := Lib.hid (show ∀ j, f ≤ j → j < i + 1 → b S j ≠ 10 from fun j h1 h2 => by
          by_cases e : j = i
          · rw [e]; exact h10
          · exact HP.out j h1 (by omega))
        obtain ⟨c, hc⟩ : ∃ c, b S i = c := ⟨_, rfl⟩
        rw [hc] at x1 h10 hbl
        have h10' : ((c : Int) != 10) = true := by simp; omega
        clear hc HP
        go_wp2_with fail
        go_roundg (gk - 1)
        case measure => omega
        case rel => exact ⟨i + 1, f, ls, rfl, by go_num, HO.out, HB.out, HR, HE, HP2, by omega, by omega, by omega, by omega, fun h => by omega⟩
    · by_cases hle : i = len
      · have hnlt : ¬ (i : Int) < (len : Int) := by omega
        have hle' : (i : Int) ≤ (len : Int) := by omega
        have hieq : (i : Int) = (len : Int) := by omega
        by_cases hf : f = i
        · have hfe : (f : Int) = (i : Int) := by omega
          have hfe' : ((f : Int) == (i : Int)) = true := by simp; omega
          have hie' : ((i : Int) == (len : Int)) = true := by simp; omega
          have HP2 := Lib.hid (show ∀ j, f ≤ j → j < i + 1 → b S j ≠ 10 from fun j h1 h2 => by
            have : b S j = 0 := by
              unfold b
              rw [dif_neg (by rw [HSZ.out]; omega)]
            omega)
          clear HP
          subst hf
          subst hle
          go_wp2_with fail
          go_roundg (gk - 1)
          case measure => omega
          case rel => exact ⟨_, _, ls, rfl, by go_num, HO.out, HB.out, HR, HE, HP2, by omega, by omega, by omega, by omega, fun h => by omega⟩
        · have hfe' : ((f : Int) == (i : Int)) = false := beq_eq_false_iff_ne.2 (by omega)
          have hie' : ((i : Int) == (len : Int)) = true := by simp; omega
          obtain ⟨g, off, rfl, hgl, hcell⟩ := HROW.out.cells (by omega)
          have HROW2 := Lib.hid (HROW.out.below HB.out)
          clear hcell
          subst hle
          have hcv := (Row.part HROW2.out f i hfi (by omega)).conv (cap - f)
          rw [HPS.out f i (by omega)] at hcv
          have hrest : rest S f = (S.extract f i).data.toList :: rest S (i + 1) := by
            rw [rest_end S (i + 1) (by rw [HSZ.out]; omega)]
            have := rest_last S f (by rw [HSZ.out]; omega) (by rw [HSZ.out]; exact HP.out)
            rw [HSZ.out] at this
            exact this
          have hxs : (S.extract f i).size ≤ 65536 := by rw [ByteArray.size_extract]; omega
          obtain ⟨x, hx⟩ : ∃ x, S.extract f i = x := ⟨_, rfl⟩
          rw [hx] at hcv hrest hxs
          have HR2 := Lib.hid (show (ls ++ [x]).map (·.data.toList) ++ rest S (i + 1) = linesL S.data.toList by rw [← HR.out, hrest]; simp)
          have HO2 := Lib.hid (HO.out.alloc (.cells #[.string x] 9))
          have HCELL := Lib.hid (new_cell wr (.string x) 9)
          have hB := HB.out.size
          have hlsN : ls.length ≤ 65540 := by omega
          obtain ⟨N, hN⟩ : ∃ N, (ls ++ [x]).length = N := ⟨_, rfl⟩
          have HN := Lib.hid hN
          have hNl : N = ls.length + 1 := by rw [← hN]; simp
          have HNL := Lib.hid hNl
          have hf0 : (f : Int) ≤ (i : Int) := by omega
          clear hx hrest HR HP HO HROW2 hN hNl
          by_cases hbig : 1000 < x.size
          · have hbig' : 1000 < (x.size : Int) := by omega
            go_wp2_with (at_builtin; refine append_text rfl (.tmp 47) (.tmp 49) rfl W.heap.size _ ls rfl HO2.out ⟨_, 0, none⟩ 1 rfl x HCELL.out (by omega) (by simp; omega) ?_; intro v' w4 h4 h5; have hbel := Own.below_grown (HB.out.alloc hB (.cells #[.string x] 9)) HO2.out h5 (by simp; omega); have hI : Blk.Is w4 w.heap.size 26 #[.int .i64 0, .int .i64 0] := (hbel.block _ sA).trans IA.out; have i0 : w4.cell? ⟨w.heap.size, 0, none⟩ = some (.int .i64 0) := hI.at rfl; have i1 : w4.cell? ⟨w.heap.size, 1, none⟩ = some (.int .i64 0) := hI.at rfl; have f0 := hI.free 0; have f1 := hI.free 1; rw [HN.out] at h4; obtain ⟨g2, c2, rfl⟩ := owns_slice h4 (by have := HNL.out; omega); have H4 := Lib.hid h4; have HBL := Lib.hid hbel; have HI := Lib.hid hI; clear h4 h5 hbel hI)
            have hF : Blk.Is ((w4.setCell ⟨w.heap.size, 0, none⟩ (.int .i64 2)).setCell ⟨w.heap.size, 1, none⟩ (.int .i64 N)) w.heap.size 26 #[.int .i64 2, .int .i64 N] := two_set HI.out _ _
            have hBF : Below w.heap.size w ((w4.setCell ⟨w.heap.size, 0, none⟩ (.int .i64 2)).setCell ⟨w.heap.size, 1, none⟩ (.int .i64 N)) :=
              ((BA.out.trans (HBL.out.mono (Nat.le_of_lt sA))).setCell (p := ⟨w.heap.size, 0, none⟩) (Nat.le_refl _) _).setCell (p := ⟨w.heap.size, 1, none⟩) (Nat.le_refl _) _
            obtain ⟨V, hV⟩ : ∃ V, ((w4.setCell ⟨w.heap.size, 0, none⟩ (.int .i64 2)).setCell ⟨w.heap.size, 1, none⟩ (.int .i64 N)) = V := ⟨_, rfl⟩
            rw [hV] at hF hBF ⊢
            have j0 : V.cell? ⟨w.heap.size, 0, none⟩ = some (.int .i64 2) := hF.at rfl
            have j1 : V.cell? ⟨w.heap.size, 1, none⟩ = some (.int .i64 N) := hF.at rfl
            clear i0 i1 f0 f1 hV
            refine bodyPost_ret (by simp [results, Tryd.results26, go_sem, j0, j1]; try rfl) rfl ?_
            refine ⟨_, [], 2, N, rfl, ?_, by simp, Texts.none _, hBF⟩
            rw [← HN.out]
            exact lres_bad HR2.out HE.out (by unfold E; rw [if_pos hbig]) (by decide)
          · have hbig' : ¬ 1000 < (x.size : Int) := by omega
            go_wp2_with (at_builtin; refine append_text rfl (.tmp 47) (.tmp 49) rfl W.heap.size _ ls rfl HO2.out ⟨_, 0, none⟩ 1 rfl x HCELL.out (by omega) (by simp; omega) ?_; intro v' w4 h4 h5; have hbel := Own.below_grown (HB.out.alloc hB (.cells #[.string x] 9)) HO2.out h5 (by simp; omega); have hI : Blk.Is w4 w.heap.size 26 #[.int .i64 0, .int .i64 0] := (hbel.block _ sA).trans IA.out; have i0 : w4.cell? ⟨w.heap.size, 0, none⟩ = some (.int .i64 0) := hI.at rfl; have i1 : w4.cell? ⟨w.heap.size, 1, none⟩ = some (.int .i64 0) := hI.at rfl; have f0 := hI.free 0; have f1 := hI.free 1; rw [HN.out] at h4; obtain ⟨g2, c2, rfl⟩ := owns_slice h4 (by have := HNL.out; omega); have H4 := Lib.hid h4; have HBL := Lib.hid hbel; have HI := Lib.hid hI; clear h4 h5 hbel hI)
            refine (ygood_any x w4 (by omega)).mono ?_
            rintro e w5 ⟨rfl, rfl⟩
            obtain ⟨G, hG⟩ : ∃ G, good x = G := ⟨_, rfl⟩
            rw [hG]
            have HG := Lib.hid hG
            clear hG
            by_cases hg : 0 ≤ G
            · go_wp2_with fail
              have hF : Blk.Is ((w5.setCell ⟨w.heap.size, 0, none⟩ (.int .i64 3)).setCell ⟨w.heap.size, 1, none⟩ (.int .i64 N)) w.heap.size 26 #[.int .i64 3, .int .i64 N] := two_set HI.out _ _
              have hBF : Below w.heap.size w ((w5.setCell ⟨w.heap.size, 0, none⟩ (.int .i64 3)).setCell ⟨w.heap.size, 1, none⟩ (.int .i64 N)) :=
                ((BA.out.trans (HBL.out.mono (Nat.le_of_lt sA))).setCell (p := ⟨w.heap.size, 0, none⟩) (Nat.le_refl _) _).setCell (p := ⟨w.heap.size, 1, none⟩) (Nat.le_refl _) _
              obtain ⟨V, hV⟩ : ∃ V, ((w5.setCell ⟨w.heap.size, 0, none⟩ (.int .i64 3)).setCell ⟨w.heap.size, 1, none⟩ (.int .i64 N)) = V := ⟨_, rfl⟩
              rw [hV] at hF hBF ⊢
              have j0 : V.cell? ⟨w.heap.size, 0, none⟩ = some (.int .i64 3) := hF.at rfl
              have j1 : V.cell? ⟨w.heap.size, 1, none⟩ = some (.int .i64 N) := hF.at rfl
              clear i0 i1 f0 f1 hV
              refine bodyPost_ret (by simp [results, Tryd.results26, go_sem, j0, j1]; try rfl) rfl ?_
              refine ⟨_, [], 3, N, rfl, ?_, by simp, Texts.none _, hBF⟩
              rw [← HN.out]
              exact lres_bad HR2.out HE.out (by unfold E; rw [if_neg hbig, if_pos (by rw [HG.out]; exact hg)]) (by decide)
            · have HE2 := Lib.hid (E_more HE.out (show E x = 0 by unfold E; rw [if_neg hbig, if_neg (by rw [HG.out]; exact hg)]))
              clear i0 i1 f0 f1 HG HCELL HO2
              go_wp2_with fail
              go_roundg (gk - 1)
              case measure => omega
              case rel => exact ⟨i + 1, i + 1, ls ++ [x], by go_num, by go_num, by rw [HN.out]; exact H4.out, HBL.out, HR2, HE2, fun j h1 h2 => by omega, by omega, by omega, by omega, by simp; omega, fun h => by omega⟩
      · have hgt : ¬ (i : Int) ≤ (len : Int) := by omega
        have hB0 := BA.out.trans (HB.out.mono (Nat.le_of_lt sA))
        have hI : Blk.Is wr w.heap.size 26 #[.int .i64 0, .int .i64 0] := (HB.out.block _ sA).trans IA.out
        have i0 : wr.cell? ⟨w.heap.size, 0, none⟩ = some (.int .i64 0) := hI.at rfl
        have i1 : wr.cell? ⟨w.heap.size, 1, none⟩ = some (.int .i64 0) := hI.at rfl
        have f0 := hI.free 0
        have f1 := hI.free 1
        have hfin : LinesOf S ls := by
          have h1 := HR.out
          rw [rest_end S f (by rw [HSZ.out]; exact hend (by omega)), List.append_nil] at h1
          exact h1
        have HFIN := Lib.hid hfin
        clear hfin HR HP
        go_wp2_with fail
        have hF : Blk.Is ((wr.setCell ⟨w.heap.size, 0, none⟩ (.int .i64 0)).setCell ⟨w.heap.size, 1, none⟩ (.int .i64 0)) w.heap.size 26 #[.int .i64 0, .int .i64 0] := two_set hI _ _
        have hBF : Below w.heap.size w ((wr.setCell ⟨w.heap.size, 0, none⟩ (.int .i64 0)).setCell ⟨w.heap.size, 1, none⟩ (.int .i64 0)) :=
          (hB0.setCell (p := ⟨w.heap.size, 0, none⟩) (Nat.le_refl _) _).setCell (p := ⟨w.heap.size, 1, none⟩) (Nat.le_refl _) _
        have hT9 := texts_apart (texts_apart (Texts.owned HO.out (by omega)) hI 0 (.int .i64 0)) (one_set hI _) 1 (.int .i64 0)
        obtain ⟨V, hV⟩ : ∃ V, ((wr.setCell ⟨w.heap.size, 0, none⟩ (.int .i64 0)).setCell ⟨w.heap.size, 1, none⟩ (.int .i64 0)) = V := ⟨_, rfl⟩
        rw [hV] at hF hBF hT9 ⊢
        have j0 : V.cell? ⟨w.heap.size, 0, none⟩ = some (.int .i64 0) := hF.at rfl
        have j1 : V.cell? ⟨w.heap.size, 1, none⟩ = some (.int .i64 0) := hF.at rfl
        have HT9 := Lib.hid hT9
        clear i0 i1 f0 f1 hV hT9
        refine bodyPost_ret (by simp [results, Tryd.results26, go_sem, j0, j1]; try rfl) rfl ?_
        exact ⟨_, ls, 0, 0, rfl, .inl ⟨rfl, rfl, HFIN.out, HE.out⟩, by omega, HT9.out, hBF⟩
end Txt
end Go.Proofs.YtgolnfgkoolpoaaDoor

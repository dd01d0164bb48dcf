/-
Which field a name is of: isAny, and the library's ContainsFunc and IndexFunc beneath it.
-/
import Derived.Test.YtapmpdljapbpeaaDoorStzSame
import Derived.Test.YtapmpdljapbpeaaDoorBlk
namespace Go.Proofs.YtapmpdljapbpeaaDoor
open Go.RowKit
set_option linter.unusedSimpArgs false
set_option linter.unusedVariables false
namespace Va
open Stz (sameS)
theorem below_drewN (w : World) : ∀ n, Below w.heap.size w (w.drewN n)
  | 0 => Below.refl _ _
  | n + 1 => (below_drewN w.drew n).mono (Nat.le_refl _) |> fun h => ⟨h.os, h.tape, h.output, h.size, h.block⟩
theorem lt_cell {w : World} {p : Addr} {v : Value} (h : w.cell? p = some v) : p.block < w.heap.size := by
  unfold World.cell? at h
  cases hb : w.heap[p.block]? with
  | none => rw [hb] at h; cases h
  | some x => exact (Array.getElem?_eq_some_iff.1 hb).1
set_option maxRecDepth 100000 in
theorem isAnyF_any (f name : ByteArray) (p : Addr) (w : World) (hp : w.cell? p = some (.string name)) (hs : f.size ≤ 9223372036854775807) :
    Calls Tryd.prog 28 #[.string f, .pointer (some p)] w fun e w' => e = .returned (.bool (sameS f name)) ∧ ∃ n, w' = w.drewN n := by
  have c := Stz.same_any f name w hs
  generalize sameS f name = R at *
  go_enter Tryd.func28, Tryd.ntmps28
  go_wp2_with fail
  refine c.mono ?_
  rintro e w' ⟨rfl, hn⟩
  go_wp2_with fail
  go_ret
  exact ⟨rfl, hn⟩
/-- Where the first of these is that is the name, or -1. -/
def idx (name : ByteArray) (fs : List ByteArray) : Int := if fs.any (sameS · name) then (fs.findIdx (sameS · name) : Nat) else -1
theorem idx_yes {name : ByteArray} {fs : List ByteArray} {k : Nat} (hk : k < fs.length) (h : ∀ j, j < k → sameS (fs.getD j ByteArray.empty) name = false) (h1 : sameS (fs.getD k ByteArray.empty) name = true) : idx name fs = (k : Int) := by
  have hg : ∀ j (hj : j < fs.length), fs.getD j ByteArray.empty = fs[j] := fun j hj => by simp [List.getD, List.getElem?_eq_getElem hj]
  unfold idx
  rw [if_pos (List.any_eq_true.2 ⟨fs[k], List.getElem_mem hk, by rw [← hg k hk]; exact h1⟩)]
  congr 1
  rw [List.findIdx_eq hk]
  exact ⟨by rw [← hg k hk]; exact h1, fun j hj => by rw [← hg j (by omega)]; exact h j hj⟩
theorem idx_no {name : ByteArray} {fs : List ByteArray} (h : ∀ j, j < fs.length → sameS (fs.getD j ByteArray.empty) name = false) : idx name fs = -1 := by
  unfold idx
  rw [if_neg]
  rw [List.any_eq_true]
  rintro ⟨x, hx, h1⟩
  obtain ⟨j, hj, rfl⟩ := List.mem_iff_getElem.1 hx
  have := h j hj
  simp only [List.getD, List.getElem?_eq_getElem hj, Option.getD_some] at this
  rw [this] at h1; cases h1
theorem idx_ge (name : ByteArray) (fs : List ByteArray) : decide (0 ≤ idx name fs) = fs.any (sameS · name) := by
  unfold idx
  cases fs.any (sameS · name)
  · simp
  · simp
set_option maxRecDepth 100000 in
set_option maxHeartbeats 1000000 in
theorem indexFunc_any (fs : List ByteArray) (name : ByteArray) (k o cap : Nat) (p : Addr) (w : World) (hp : w.cell? p = some (.string name)) (hf : ∀ j, j < fs.length → w.cell? ⟨k, o + j, none⟩ = some (.string (fs.getD j ByteArray.empty))) (hL : fs.length ≤ 1000) (hcap : fs.length ≤ cap) (hs : ∀ f ∈ fs, f.size ≤ 1000) :
    Calls Tryd.prog 43 #[.slice (some ⟨k, o, none⟩) fs.length cap, .func (.func 28) #[] #[.pointer (some p)]] w fun e w' => e = .returned (.int .i64 (idx name fs)) ∧ ∃ n, w' = w.drewN n := by
  obtain ⟨G, hG⟩ : ∃ G, idx name fs = G := ⟨_, rfl⟩
  have HG := Lib.hid hG
  have HF := Lib.hid hf
  have HS := Lib.hid hs
  have HP := Lib.hid hp
  obtain ⟨n, hn⟩ : ∃ n, fs.length = n := ⟨_, rfl⟩
  have HN := Lib.hid hn
  rw [hG, hn]
  rw [hn] at hL hcap
  clear hG hf hs hn hp
  go_enter Tryd.func43, Tryd.ntmps43
  go_wp2_with fail
  go_loopg [8] n (fun gf s8 wx => ∃ i : Nat, s8 = .int .i64 i ∧ (∃ q, wx = w.drewN q) ∧ Hid (∀ j, j < i → sameS (fs.getD j ByteArray.empty) name = false) ∧ i ≤ n ∧ n ≤ i + gf)
  case atStart => exact ⟨0, rfl, ⟨0, rfl⟩, fun j hj => absurd hj (by omega), by omega, by omega⟩
  case round =>
    obtain ⟨i, rfl, hbw, HI, hin, hfu⟩ := hrel
    by_cases hlt : i < n
    · obtain ⟨g', rfl⟩ : ∃ g', gk = g' + 1 := ⟨gk - 1, by omega⟩
      have hlt' : (i : Int) < (n : Int) := by omega
      have hi0 : (0 : Int) ≤ i := by omega
      obtain ⟨q, rfl⟩ := hbw
      have hc : (w.drewN q).cell? ⟨k, o + i, none⟩ = some (.string (fs.getD i ByteArray.empty)) := HF.out i (by rw [HN.out]; exact hlt)
      have hp' : (w.drewN q).cell? p = some (.string name) := HP.out
      have hfs : (fs.getD i ByteArray.empty).size ≤ 1000 := HS.out _ (by
        have : i < fs.length := by rw [HN.out]; exact hlt
        simp [List.getD, List.getElem?_eq_getElem this])
      have c := isAnyF_any (fs.getD i ByteArray.empty) name p (w.drewN q) hp' (by omega)
      cases hb : sameS (fs.getD i ByteArray.empty) name
      · have HJ : Hid (∀ j, j < i + 1 → sameS (fs.getD j ByteArray.empty) name = false) := fun j hj => by
          by_cases e : j = i
          · rw [e]; exact hb
          · exact HI.out j (by omega)
        rw [hb] at c
        clear HI hb hp' hfs
        generalize fs.getD i ByteArray.empty = f at *
        have HQ : Hid (∃ q', w.drewN q = w.drewN q') := ⟨q, rfl⟩
        generalize w.drewN q = wd at *
        go_wp2_with fail
        refine c.mono ?_
        rintro e w' ⟨rfl, m, rfl⟩
        have HM : Hid (∃ q', wd.drewN m = w.drewN q') := by
          refine Lib.hid ?_
          obtain ⟨q', hq⟩ := HQ.out
          exact ⟨q' + m, by rw [hq, World.drewN_drewN]⟩
        generalize wd.drewN m = we at *
        go_wp2_with fail
        go_roundg g'
        case measure => omega
        case rel => exact ⟨i + 1, by go_num, HM.out, HJ, by omega, by omega⟩
      · have hI : G = (i : Int) := by rw [← HG.out]; exact idx_yes (by rw [HN.out]; exact hlt) HI.out hb
        subst hI
        rw [hb] at c
        clear HI hb hp' hfs HG
        generalize fs.getD i ByteArray.empty = f at *
        have HQ : Hid (∃ q', w.drewN q = w.drewN q') := ⟨q, rfl⟩
        generalize w.drewN q = wd at *
        go_wp2_with fail
        refine c.mono ?_
        rintro e w' ⟨rfl, m, rfl⟩
        have HM : Hid (∃ q', wd.drewN m = w.drewN q') := by
          refine Lib.hid ?_
          obtain ⟨q', hq⟩ := HQ.out
          exact ⟨q' + m, by rw [hq, World.drewN_drewN]⟩
        generalize wd.drewN m = we at *
        go_wp2_with fail
        go_ret
        exact ⟨rfl, HM.out⟩
    · have hi : i = n := by omega
      subst hi
      have hI : G = -1 := by rw [← HG.out]; exact idx_no (by rw [HN.out]; exact HI.out)
      subst hI
      clear HI HG
      go_wp2_with fail
      go_ret
      exact ⟨rfl, hbw⟩
set_option maxRecDepth 100000 in
set_option maxHeartbeats 1000000 in
theorem containsFunc_any (fs : List ByteArray) (name : ByteArray) (k o cap : Nat) (p : Addr) (w : World) (hp : w.cell? p = some (.string name)) (hf : ∀ j, j < fs.length → w.cell? ⟨k, o + j, none⟩ = some (.string (fs.getD j ByteArray.empty))) (hL : fs.length ≤ 1000) (hcap : fs.length ≤ cap) (hs : ∀ f ∈ fs, f.size ≤ 1000) :
    Calls Tryd.prog 27 #[.slice (some ⟨k, o, none⟩) fs.length cap, .func (.func 28) #[] #[.pointer (some p)]] w fun e w' => e = .returned (.bool (fs.any (sameS · name))) ∧ ∃ n, w' = w.drewN n := by
  have c := indexFunc_any fs name k o cap p w hp hf hL hcap hs
  rw [← idx_ge]
  generalize idx name fs = G at *
  clear hp hf hs
  go_enter Tryd.func27, Tryd.ntmps27
  go_wp2_with fail
  refine c.mono ?_
  rintro e w' ⟨rfl, hn⟩
  go_wp2_with fail
  go_ret
  exact ⟨rfl, hn⟩
set_option maxRecDepth 100000 in
set_option maxHeartbeats 1000000 in
theorem isAny_any (fs : List ByteArray) (name : ByteArray) (k o cap : Nat) (w : World) (hf : ∀ j, j < fs.length → w.cell? ⟨k, o + j, none⟩ = some (.string (fs.getD j ByteArray.empty))) (hL : fs.length ≤ 1000) (hcap : fs.length ≤ cap) (hs : ∀ f ∈ fs, f.size ≤ 1000) :
    Calls Tryd.prog 17 #[.string name, .slice (some ⟨k, o, none⟩) fs.length cap] w fun e w' => e = .returned (.bool (fs.any (sameS · name))) ∧ Below w.heap.size w w' := by
  have hb0 := Blk.Is.new w 9 #[.string name]
  have hB0 : Below w.heap.size w (w.alloc (.cells #[.string name] 9)) := (Below.refl _ _).alloc (Nat.le_refl _) _
  have hf2 : ∀ j, j < fs.length → (w.alloc (.cells #[.string name] 9)).cell? ⟨k, o + j, none⟩ = some (.string (fs.getD j ByteArray.empty)) := fun j hj => by
    rw [hB0.cell (lt_cell (hf j hj))]; exact hf j hj
  have c := containsFunc_any fs name k o cap ⟨w.heap.size, 0, none⟩ _ (hb0.at (i := 0) rfl) hf2 hL hcap hs
  have hmf : ∀ (fn : Fn) (first cap : Array Value) (w : World), (Instr.makeFunc fn first cap).run Tryd.prog w = .ok (.func fn first cap) w := fun _ _ _ _ => rfl
  generalize fs.any (sameS · name) = G at *
  clear hf hf2 hs
  go_enter Tryd.func17, Tryd.ntmps17
  go_wp2_with fail
  refine c.mono ?_
  rintro e w' ⟨rfl, m, rfl⟩
  have kb := hB0.trans ((below_drewN (w.alloc (.cells #[.string name] 9)) m).mono hB0.size)
  generalize (w.alloc (.cells #[.string name] 9)).drewN m = we at *
  clear hb0 hB0 c
  go_wp2_with fail
  go_ret
  exact ⟨rfl, kb⟩
end Va
end Go.Proofs.YtapmpdljapbpeaaDoor

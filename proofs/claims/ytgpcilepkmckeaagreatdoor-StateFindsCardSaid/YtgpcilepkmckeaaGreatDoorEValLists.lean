/-
Atoms, provides in memory as the source of an append; slices.Clone of them. Values in memory: what a value has within, by its kind; that it bears what happens below B. OfClauses and the like; Clauses and the like. Values of lists: OfClauses and the like copy; Clauses and the like tell a copy.
-/
import Derived.Test.YtgpcilepkmckeaaGreatDoorEReg
import Derived.Test.YtgpcilepkmckeaaGreatDoorERelOwn
import Derived.Deep.AppendSrc
import Derived.Laws.OwnMore
import Derived.Test.YtgpcilepkmckeaaGreatDoorEValBase
namespace Go.Proofs.YtgpcilepkmckeaaGreatDoor
open Go.RowKit
set_option linter.unusedSimpArgs false
set_option linter.unusedVariables false
namespace Va
open Ver (S)
open Rl (At Pv Ats Pvs Slc acell acells pcell pcells flat_at at_getD infoA infoP)
theorem slc_src {α:Type} {sz:Nat} (hz:0 < sz) {z:α} {P:World → Nat → Nat → α → Prop} (f:α → List Value) (hf:∀ x,(f x).length = sz) (hP:∀ w k o x,P w k o x → ∀ (j:Nat) u,(f x)[j]? = some u → w.cell? ⟨k,o + j,none⟩ = some u)
  (h1:∀ x,∀ u ∈ f x,u.oneCell' = true) {tS e:TypeId} (hu:Tryz.prog.underlying tS = some (.slice e)) {w:World} {v:Value} {l:List α} (h:Slc sz z P w v l):Src Tryz.prog sz tS v l.length (l.flatMap f) w:=by
 obtain ⟨h0,a,cap,rfl,hc,hr⟩:=h
 have hlen:(l.flatMap f).length = l.length * sz:=by
  clear h0 hc hr
  induction l with
  | nil=>simp
  | cons x l ih=>rw [List.flatMap_cons,List.length_append,ih,hf,List.length_cons,Nat.add_mul]; omega
 by_cases hl:0 < l.length
 ·obtain ⟨k,off,rfl,hat⟩:=hr hl
  refine Src.ofSlice w hu ⟨k,off,none⟩ l.length cap _ hlen (fun j u hj=>?_) fun u hu=>?_
  ·have hjl:=(List.getElem?_eq_some_iff.1 hj).1
   rw [hlen] at hjl
   have hi:j / sz < l.length:=Nat.div_lt_of_lt_mul (by rw [Nat.mul_comm]; exact hjl)
   have hm:j % sz < sz:=Nat.mod_lt _ hz
   have hd:sz * (j / sz) + j % sz = j:=Nat.div_add_mod j sz
   have hfa:=flat_at f sz hf l (j / sz) (j % sz) _ (at_getD (z:=z) hi) hm
   rw [hd,hj] at hfa
   have:=hP w k _ _ (hat _ hi) (j % sz) u hfa.symm
   rw [Addr.add_mid,← hd,← Nat.add_assoc]
   exact this
  ·obtain ⟨x,_,hx⟩:=List.mem_flatMap.1 hu
   exact h1 x u hx
 ·have:l = []:=List.eq_nil_of_length_eq_zero (by omega)
  subst this
  cases a with
  | none=>exact Src.ofNil w hu cap
  | some x=>exact Src.ofSlice w hu x 0 cap [] (by simp) (fun j u hj=>by simp at hj) (fun u hu=>by cases hu)
theorem ats_src {w:World} {v:Value} {l:List At} (h:Ats w v l) {tS e:TypeId} (hu:Tryz.prog.underlying tS = some (.slice e)):Src Tryz.prog 3 tS v l.length (acells l) w:=by
 refine slc_src (by omega) acell (fun x=>rfl) (fun w k o x hx j u hj=>?_) (fun x u hu=>?_) hu h
 ·obtain ⟨x0,x1,x2⟩:=hx
  match j with
  | 0=>simp [acell] at hj; subst hj; exact x0
  | 1=>simp [acell] at hj; subst hj; exact x1
  | 2=>simp [acell] at hj; subst hj; exact x2
  | j + 3=>simp [acell] at hj
 ·simp only [acell,List.mem_cons,List.not_mem_nil,or_false] at hu; rcases hu with rfl | rfl | rfl <;> rfl
theorem pvs_src {w:World} {v:Value} {l:List Pv} (h:Pvs w v l) {tS e:TypeId} (hu:Tryz.prog.underlying tS = some (.slice e)):Src Tryz.prog 2 tS v l.length (pcells l) w:=by
 refine slc_src (by omega) pcell (fun x=>rfl) (fun w k o x hx j u hj=>?_) (fun x u hu=>?_) hu h
 ·obtain ⟨x0,x1⟩:=hx
  match j with
  | 0=>simp [pcell] at hj; subst hj; exact x0
  | 1=>simp [pcell] at hj; subst hj; exact x1
  | j + 2=>simp [pcell] at hj
 ·simp only [pcell,List.mem_cons,List.not_mem_nil,or_false] at hu; rcases hu with rfl | rfl <;> rfl
set_option maxRecDepth 100000 in
set_option maxHeartbeats 2000000 in
theorem cloneAtoms_any (v:Value) (l:List At) (w:World) (h:Ats w v l) (hl:l.length ≤ 60000) :
  Calls Tryz.prog 72 #[v] w fun e w'=>∃ v',e = .returned v' ∧ w'.ownsRow w.heap.size 56 3 v' l.length (acells l) ∧ Below w.heap.size w w':=by
 obtain ⟨h0,a,cap,rfl,hc,hr⟩:=id h
 cases a with
 | none =>
  have hn:l.length = 0:=by
   by_cases h0:0 < l.length
   ·obtain ⟨k,off,e,_⟩:=hr h0; cases e
   ·omega
  have:l = []:=List.eq_nil_of_length_eq_zero hn
  subst this
  clear hr h
  have hq:∀ w:World,(binOp BinOp.eql 37 (.slice none 0 cap) (.slice none 0 0)).run Tryz.prog w = .ok (.bool true) w:=fun w=>by kernel_rfl
  go_enter Tryz.func72,Tryz.ntmps72
  go_wp2_with fail
  go_ret
  exact ⟨_,rfl,World.ownsRow_nil _ _ _ _,Below.refl _ _⟩
 | some ad =>
  have hB:Below w.heap.size w (w.alloc (.cells #[] 56)):=(Below.refl _ _).alloc (Nat.le_refl _) _
  have SRC:=Lib.hid (ats_src (h.below hB) Tryz.underlying37)
  have OWN:=Lib.hid (World.ownsRow_lit (base:=w.heap.size) (e:=56) (size:=3) w #[] 0 (Nat.le_refl _) (by decide) rfl)
  have HB:=Lib.hid hB
  have hsz:=hB.size
  obtain ⟨i0,hi,hz0,hz1,hz2⟩:=info_parts infoA
  obtain ⟨N,hN⟩:∃ N,l.length = N:=⟨_,rfl⟩
  have HI:=Lib.hid hi
  rw [hN] at hl SRC h0 hc ⊢
  clear h hr hi hB hN
  have hq:∀ w:World,(binOp BinOp.eql 37 (.slice (some ad) N cap) (.slice none 0 0)).run Tryz.prog w = .ok (.bool false) w:=fun w=>by kernel_rfl
  go_enter Tryz.func72,Tryz.ntmps72
  go_wp2_with (at_builtin; refine Own.wpList_append_src rfl (.tmp 5) (.tmp 6) 37 37 rfl w.heap.size 56 i0 _ 3 40 Tryz.underlying37 HI.out hz0 hz1 hz2 rfl _ 0 [] rfl OWN.out _ N (acells l) rfl SRC.out (by simp only [maxLen]; omega) (by omega) hsz ?_; intro v' w' o1 g1; have k1:Below w.heap.size w w':=Own.below_grown HB.out OWN.out g1 hsz)
  have o2:w'.ownsRow w.heap.size 56 3 v' N (acells l):=by simpa using o1
  clear o1 g1
  go_ret
  exact ⟨_,rfl,o2,k1⟩
set_option maxRecDepth 100000 in
set_option maxHeartbeats 2000000 in
theorem cloneProvides_any (v:Value) (l:List Pv) (w:World) (h:Pvs w v l) (hl:l.length ≤ 60000) :
  Calls Tryz.prog 73 #[v] w fun e w'=>∃ v',e = .returned v' ∧ w'.ownsRow w.heap.size 85 2 v' l.length (pcells l) ∧ Below w.heap.size w w':=by
 obtain ⟨h0,a,cap,rfl,hc,hr⟩:=id h
 cases a with
 | none =>
  have hn:l.length = 0:=by
   by_cases h0:0 < l.length
   ·obtain ⟨k,off,e,_⟩:=hr h0; cases e
   ·omega
  have:l = []:=List.eq_nil_of_length_eq_zero hn
  subst this
  clear hr h
  have hq:∀ w:World,(binOp BinOp.eql 38 (.slice none 0 cap) (.slice none 0 0)).run Tryz.prog w = .ok (.bool true) w:=fun w=>by kernel_rfl
  go_enter Tryz.func73,Tryz.ntmps73
  go_wp2_with fail
  go_ret
  exact ⟨_,rfl,World.ownsRow_nil _ _ _ _,Below.refl _ _⟩
 | some ad =>
  have hB:Below w.heap.size w (w.alloc (.cells #[] 85)):=(Below.refl _ _).alloc (Nat.le_refl _) _
  have SRC:=Lib.hid (pvs_src (h.below hB) Tryz.underlying38)
  have OWN:=Lib.hid (World.ownsRow_lit (base:=w.heap.size) (e:=85) (size:=2) w #[] 0 (Nat.le_refl _) (by decide) rfl)
  have HB:=Lib.hid hB
  have hsz:=hB.size
  obtain ⟨i0,hi,hz0,hz1,hz2⟩:=info_parts infoP
  obtain ⟨N,hN⟩:∃ N,l.length = N:=⟨_,rfl⟩
  have HI:=Lib.hid hi
  rw [hN] at hl SRC h0 hc ⊢
  clear h hr hi hB hN
  have hq:∀ w:World,(binOp BinOp.eql 38 (.slice (some ad) N cap) (.slice none 0 0)).run Tryz.prog w = .ok (.bool false) w:=fun w=>by kernel_rfl
  go_enter Tryz.func73,Tryz.ntmps73
  go_wp2_with (at_builtin; refine Own.wpList_append_src rfl (.tmp 5) (.tmp 6) 38 38 rfl w.heap.size 85 i0 _ 2 32 Tryz.underlying38 HI.out hz0 hz1 hz2 rfl _ 0 [] rfl OWN.out _ N (pcells l) rfl SRC.out (by simp only [maxLen]; omega) (by omega) hsz ?_; intro v' w' o1 g1; have k1:Below w.heap.size w w':=Own.below_grown HB.out OWN.out g1 hsz)
  have o2:w'.ownsRow w.heap.size 85 2 v' N (pcells l):=by simpa using o1
  clear o1 g1
  go_ret
  exact ⟨_,rfl,o2,k1⟩
set_option maxRecDepth 100000 in
set_option maxHeartbeats 2000000 in
theorem cloneClause_any (v:Value) (l:List At) (w:World) (h:Ats w v l) (hl:l.length ≤ 60000) :
  Calls Tryz.prog 108 #[v] w fun e w'=>∃ v',e = .returned v' ∧ w'.ownsRow w.heap.size 56 3 v' l.length (acells l) ∧ Below w.heap.size w w':=by
 obtain ⟨h0,a,cap,rfl,hc,hr⟩:=id h
 cases a with
 | none =>
  have hn:l.length = 0:=by
   by_cases h0:0 < l.length
   ·obtain ⟨k,off,e,_⟩:=hr h0; cases e
   ·omega
  have:l = []:=List.eq_nil_of_length_eq_zero hn
  subst this
  clear hr h
  have hq:∀ w:World,(binOp BinOp.eql 50 (.slice none 0 cap) (.slice none 0 0)).run Tryz.prog w = .ok (.bool true) w:=fun w=>by kernel_rfl
  go_enter Tryz.func108,Tryz.ntmps108
  go_wp2_with fail
  go_ret
  exact ⟨_,rfl,World.ownsRow_nil _ _ _ _,Below.refl _ _⟩
 | some ad =>
  have hB:Below w.heap.size w (w.alloc (.cells #[] 56)):=(Below.refl _ _).alloc (Nat.le_refl _) _
  have SRC:=Lib.hid (ats_src (h.below hB) Tryz.underlying50)
  have OWN:=Lib.hid (World.ownsRow_lit (base:=w.heap.size) (e:=56) (size:=3) w #[] 0 (Nat.le_refl _) (by decide) rfl)
  have HB:=Lib.hid hB
  have hsz:=hB.size
  obtain ⟨i0,hi,hz0,hz1,hz2⟩:=info_parts infoA
  obtain ⟨N,hN⟩:∃ N,l.length = N:=⟨_,rfl⟩
  have HI:=Lib.hid hi
  rw [hN] at hl SRC h0 hc ⊢
  clear h hr hi hB hN
  have hq:∀ w:World,(binOp BinOp.eql 50 (.slice (some ad) N cap) (.slice none 0 0)).run Tryz.prog w = .ok (.bool false) w:=fun w=>by kernel_rfl
  go_enter Tryz.func108,Tryz.ntmps108
  go_wp2_with (at_builtin; refine Own.wpList_append_src rfl (.tmp 5) (.tmp 6) 50 50 rfl w.heap.size 56 i0 _ 3 40 Tryz.underlying50 HI.out hz0 hz1 hz2 rfl _ 0 [] rfl OWN.out _ N (acells l) rfl SRC.out (by simp only [maxLen]; omega) (by omega) hsz ?_; intro v' w' o1 g1; have k1:Below w.heap.size w w':=Own.below_grown HB.out OWN.out g1 hsz)
  have o2:w'.ownsRow w.heap.size 56 3 v' N (acells l):=by simpa using o1
  clear o1 g1
  go_ret
  exact ⟨_,rfl,o2,k1⟩
theorem take_getD {α:Type} {xs:List α} {i:Nat} (z:α) (h:i < xs.length):xs.take (i + 1) = xs.take i ++ [xs.getD i z]:=by
 rw [List.take_succ_eq_append_getElem h]
 simp [List.getD,List.getElem?_eq_getElem h]
end Va
end Go.Proofs.YtgpcilepkmckeaaGreatDoor
namespace Go.Proofs.YtgpcilepkmckeaaGreatDoor
open Go.RowKit
set_option linter.unusedSimpArgs false
set_option linter.unusedVariables false
namespace Va
open Ver (S)
open Rl (At Pv Ats Pvs own_pvs)
end Va
end Go.Proofs.YtgpcilepkmckeaaGreatDoor
namespace Go.Proofs.YtgpcilepkmckeaaGreatDoor
open Go.RowKit
set_option linter.unusedSimpArgs false
set_option linter.unusedVariables false
namespace Va
open Ver (S)
open Rl (At Pv Ats Pvs own_pvs)
end Va
end Go.Proofs.YtgpcilepkmckeaaGreatDoor

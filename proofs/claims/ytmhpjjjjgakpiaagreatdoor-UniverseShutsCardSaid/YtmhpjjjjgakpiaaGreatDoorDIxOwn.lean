/-
Atoms, provides in memory as the source of an append; slices.Clone of them. Values in memory: what a value has within, by its kind; that it bears what happens below B. OfClauses and the like; Clauses and the like. Values of lists: OfClauses and the like copy; Clauses and the like tell a copy. Packages with lists of their own: slices.Clone of clauses, of packages; ownClauses, ownPackage, ownPackages.
-/
import Derived.Test.YtmhpjjjjgakpiaaGreatDoorDReg
import Derived.Deep.AppendSrc
import Derived.Laws.OwnMore
import Derived.Test.YtmhpjjjjgakpiaaGreatDoorDTextUtf
import Derived.Test.YtmhpjjjjgakpiaaGreatDoorDIxSort
namespace Go.Proofs.YtmhpjjjjgakpiaaGreatDoor
open Go.RowKit
set_option linter.unusedSimpArgs false
set_option linter.unusedVariables false
namespace Va
open Ver (S)
open Rl (At Pv Ats Pvs Slc acell acells pcell pcells flat_at at_getD infoA infoP)
theorem slc_src {α:Type} {sz:Nat} (hz:0 < sz) {z:α} {P:World → Nat → Nat → α → Prop} (f:α → List Value) (hf:∀ x,(f x).length = sz) (hP:∀ w k o x,P w k o x → ∀ (j:Nat) u,(f x)[j]? = some u → w.cell? ⟨k,o + j,none⟩ = some u)
  (h1:∀ x,∀ u ∈ f x,u.oneCell' = true) {tS e:TypeId} (hu:Tryz.prog.underlying tS = some (.slice e)) {w:World} {v:Value} {l:List α} (h:Slc sz z P w v l):Src Tryz.prog sz tS v l.length (l.flatMap f) w:=by
 obtain ⟨h0,a,cap,rfl,hc,hr⟩:=h
 have hlen:(l.flatMap f).length = l.length * sz:=by
  clear h0 hc hr
  induction l with
  | nil=>simp
  | cons x l ih=>rw [List.flatMap_cons,List.length_append,ih,hf,List.length_cons,Nat.add_mul]; omega
 by_cases hl:0 < l.length
 ·obtain ⟨k,off,rfl,hat⟩:=hr hl
  refine Src.ofSlice w hu ⟨k,off,none⟩ l.length cap _ hlen (fun j u hj=>?_) fun u hu=>?_
  ·have hjl:=(List.getElem?_eq_some_iff.1 hj).1
   rw [hlen] at hjl
   have hi:j / sz < l.length:=Nat.div_lt_of_lt_mul (by rw [Nat.mul_comm]; exact hjl)
   have hm:j % sz < sz:=Nat.mod_lt _ hz
   have hd:sz * (j / sz) + j % sz = j:=Nat.div_add_mod j sz
   have hfa:=flat_at f sz hf l (j / sz) (j % sz) _ (at_getD (z:=z) hi) hm
   rw [hd,hj] at hfa
   have:=hP w k _ _ (hat _ hi) (j % sz) u hfa.symm
   rw [Addr.add_mid,← hd,← Nat.add_assoc]
   exact this
  ·obtain ⟨x,_,hx⟩:=List.mem_flatMap.1 hu
   exact h1 x u hx
 ·have:l = []:=List.eq_nil_of_length_eq_zero (by omega)
  subst this
  cases a with
  | none=>exact Src.ofNil w hu cap
  | some x=>exact Src.ofSlice w hu x 0 cap [] (by simp) (fun j u hj=>by simp at hj) (fun u hu=>by cases hu)
theorem ats_src {w:World} {v:Value} {l:List At} (h:Ats w v l) {tS e:TypeId} (hu:Tryz.prog.underlying tS = some (.slice e)):Src Tryz.prog 3 tS v l.length (acells l) w:=by
 refine slc_src (by omega) acell (fun x=>rfl) (fun w k o x hx j u hj=>?_) (fun x u hu=>?_) hu h
 ·obtain ⟨x0,x1,x2⟩:=hx
  match j with
  | 0=>simp [acell] at hj; subst hj; exact x0
  | 1=>simp [acell] at hj; subst hj; exact x1
  | 2=>simp [acell] at hj; subst hj; exact x2
  | j + 3=>simp [acell] at hj
 ·simp only [acell,List.mem_cons,List.not_mem_nil,or_false] at hu; rcases hu with rfl | rfl | rfl <;> rfl
theorem pvs_src {w:World} {v:Value} {l:List Pv} (h:Pvs w v l) {tS e:TypeId} (hu:Tryz.prog.underlying tS = some (.slice e)):Src Tryz.prog 2 tS v l.length (pcells l) w:=by
 refine slc_src (by omega) pcell (fun x=>rfl) (fun w k o x hx j u hj=>?_) (fun x u hu=>?_) hu h
 ·obtain ⟨x0,x1⟩:=hx
  match j with
  | 0=>simp [pcell] at hj; subst hj; exact x0
  | 1=>simp [pcell] at hj; subst hj; exact x1
  | j + 2=>simp [pcell] at hj
 ·simp only [pcell,List.mem_cons,List.not_mem_nil,or_false] at hu; rcases hu with rfl | rfl <;> rfl
set_option maxRecDepth 100000 in
set_option maxHeartbeats 2000000 in
theorem cloneAtoms_any (v:Value) (l:List At) (w:World) (h:Ats w v l) (hl:l.length ≤ 60000) :
  Calls Tryz.prog 102 #[v] w fun e w'=>∃ v',e = .returned v' ∧ w'.ownsRow w.heap.size 54 3 v' l.length (acells l) ∧ Below w.heap.size w w':=by
 obtain ⟨h0,a,cap,rfl,hc,hr⟩:=id h
 cases a with
 | none =>
  have hn:l.length = 0:=by
   by_cases h0:0 < l.length
   ·obtain ⟨k,off,e,_⟩:=hr h0; cases e
   ·omega
  have:l = []:=List.eq_nil_of_length_eq_zero hn
  subst this
  clear hr h
  have hq:∀ w:World,(binOp BinOp.eql 37 (.slice none 0 cap) (.slice none 0 0)).run Tryz.prog w = .ok (.bool true) w:=fun w=>by kernel_rfl
  go_enter Tryz.func102,Tryz.ntmps102
  go_wp2_with fail
  go_ret
  exact ⟨_,rfl,World.ownsRow_nil _ _ _ _,Below.refl _ _⟩
 | some ad =>
  have hB:Below w.heap.size w (w.alloc (.cells #[] 54)):=(Below.refl _ _).alloc (Nat.le_refl _) _
  have SRC:=Lib.hid (ats_src (h.below hB) Tryz.underlying37)
  have OWN:=Lib.hid (World.ownsRow_lit (base:=w.heap.size) (e:=54) (size:=3) w #[] 0 (Nat.le_refl _) (by decide) rfl)
  have HB:=Lib.hid hB
  have hsz:=hB.size
  obtain ⟨i0,hi,hz0,hz1,hz2⟩:=info_parts infoA
  obtain ⟨N,hN⟩:∃ N,l.length = N:=⟨_,rfl⟩
  have HI:=Lib.hid hi
  rw [hN] at hl SRC h0 hc ⊢
  clear h hr hi hB hN
  have hq:∀ w:World,(binOp BinOp.eql 37 (.slice (some ad) N cap) (.slice none 0 0)).run Tryz.prog w = .ok (.bool false) w:=fun w=>by kernel_rfl
  go_enter Tryz.func102,Tryz.ntmps102
  go_wp2_with (at_builtin; refine Own.wpList_append_src rfl (.tmp 5) (.tmp 6) 37 37 rfl w.heap.size 54 i0 _ 3 40 Tryz.underlying37 HI.out hz0 hz1 hz2 rfl _ 0 [] rfl OWN.out _ N (acells l) rfl SRC.out (by simp only [maxLen]; omega) (by omega) hsz ?_; intro v' w' o1 g1; have k1:Below w.heap.size w w':=Own.below_grown HB.out OWN.out g1 hsz)
  have o2:w'.ownsRow w.heap.size 54 3 v' N (acells l):=by simpa using o1
  clear o1 g1
  go_ret
  exact ⟨_,rfl,o2,k1⟩
set_option maxRecDepth 100000 in
set_option maxHeartbeats 2000000 in
theorem cloneProvides_any (v:Value) (l:List Pv) (w:World) (h:Pvs w v l) (hl:l.length ≤ 60000) :
  Calls Tryz.prog 103 #[v] w fun e w'=>∃ v',e = .returned v' ∧ w'.ownsRow w.heap.size 101 2 v' l.length (pcells l) ∧ Below w.heap.size w w':=by
 obtain ⟨h0,a,cap,rfl,hc,hr⟩:=id h
 cases a with
 | none =>
  have hn:l.length = 0:=by
   by_cases h0:0 < l.length
   ·obtain ⟨k,off,e,_⟩:=hr h0; cases e
   ·omega
  have:l = []:=List.eq_nil_of_length_eq_zero hn
  subst this
  clear hr h
  have hq:∀ w:World,(binOp BinOp.eql 38 (.slice none 0 cap) (.slice none 0 0)).run Tryz.prog w = .ok (.bool true) w:=fun w=>by kernel_rfl
  go_enter Tryz.func103,Tryz.ntmps103
  go_wp2_with fail
  go_ret
  exact ⟨_,rfl,World.ownsRow_nil _ _ _ _,Below.refl _ _⟩
 | some ad =>
  have hB:Below w.heap.size w (w.alloc (.cells #[] 101)):=(Below.refl _ _).alloc (Nat.le_refl _) _
  have SRC:=Lib.hid (pvs_src (h.below hB) Tryz.underlying38)
  have OWN:=Lib.hid (World.ownsRow_lit (base:=w.heap.size) (e:=101) (size:=2) w #[] 0 (Nat.le_refl _) (by decide) rfl)
  have HB:=Lib.hid hB
  have hsz:=hB.size
  obtain ⟨i0,hi,hz0,hz1,hz2⟩:=info_parts infoP
  obtain ⟨N,hN⟩:∃ N,l.length = N:=⟨_,rfl⟩
  have HI:=Lib.hid hi
  rw [hN] at hl SRC h0 hc ⊢
  clear h hr hi hB hN
  have hq:∀ w:World,(binOp BinOp.eql 38 (.slice (some ad) N cap) (.slice none 0 0)).run Tryz.prog w = .ok (.bool false) w:=fun w=>by kernel_rfl
  go_enter Tryz.func103,Tryz.ntmps103
  go_wp2_with (at_builtin; refine Own.wpList_append_src rfl (.tmp 5) (.tmp 6) 38 38 rfl w.heap.size 101 i0 _ 2 32 Tryz.underlying38 HI.out hz0 hz1 hz2 rfl _ 0 [] rfl OWN.out _ N (pcells l) rfl SRC.out (by simp only [maxLen]; omega) (by omega) hsz ?_; intro v' w' o1 g1; have k1:Below w.heap.size w w':=Own.below_grown HB.out OWN.out g1 hsz)
  have o2:w'.ownsRow w.heap.size 101 2 v' N (pcells l):=by simpa using o1
  clear o1 g1
  go_ret
  exact ⟨_,rfl,o2,k1⟩
set_option maxRecDepth 100000 in
set_option maxHeartbeats 2000000 in
theorem cloneClause_any (v:Value) (l:List At) (w:World) (h:Ats w v l) (hl:l.length ≤ 60000) :
  Calls Tryz.prog 139 #[v] w fun e w'=>∃ v',e = .returned v' ∧ w'.ownsRow w.heap.size 54 3 v' l.length (acells l) ∧ Below w.heap.size w w':=by
 obtain ⟨h0,a,cap,rfl,hc,hr⟩:=id h
 cases a with
 | none =>
  have hn:l.length = 0:=by
   by_cases h0:0 < l.length
   ·obtain ⟨k,off,e,_⟩:=hr h0; cases e
   ·omega
  have:l = []:=List.eq_nil_of_length_eq_zero hn
  subst this
  clear hr h
  have hq:∀ w:World,(binOp BinOp.eql 47 (.slice none 0 cap) (.slice none 0 0)).run Tryz.prog w = .ok (.bool true) w:=fun w=>by kernel_rfl
  go_enter Tryz.func139,Tryz.ntmps139
  go_wp2_with fail
  go_ret
  exact ⟨_,rfl,World.ownsRow_nil _ _ _ _,Below.refl _ _⟩
 | some ad =>
  have hB:Below w.heap.size w (w.alloc (.cells #[] 54)):=(Below.refl _ _).alloc (Nat.le_refl _) _
  have SRC:=Lib.hid (ats_src (h.below hB) Tryz.underlying47)
  have OWN:=Lib.hid (World.ownsRow_lit (base:=w.heap.size) (e:=54) (size:=3) w #[] 0 (Nat.le_refl _) (by decide) rfl)
  have HB:=Lib.hid hB
  have hsz:=hB.size
  obtain ⟨i0,hi,hz0,hz1,hz2⟩:=info_parts infoA
  obtain ⟨N,hN⟩:∃ N,l.length = N:=⟨_,rfl⟩
  have HI:=Lib.hid hi
  rw [hN] at hl SRC h0 hc ⊢
  clear h hr hi hB hN
  have hq:∀ w:World,(binOp BinOp.eql 47 (.slice (some ad) N cap) (.slice none 0 0)).run Tryz.prog w = .ok (.bool false) w:=fun w=>by kernel_rfl
  go_enter Tryz.func139,Tryz.ntmps139
  go_wp2_with (at_builtin; refine Own.wpList_append_src rfl (.tmp 5) (.tmp 6) 47 47 rfl w.heap.size 54 i0 _ 3 40 Tryz.underlying47 HI.out hz0 hz1 hz2 rfl _ 0 [] rfl OWN.out _ N (acells l) rfl SRC.out (by simp only [maxLen]; omega) (by omega) hsz ?_; intro v' w' o1 g1; have k1:Below w.heap.size w w':=Own.below_grown HB.out OWN.out g1 hsz)
  have o2:w'.ownsRow w.heap.size 54 3 v' N (acells l):=by simpa using o1
  clear o1 g1
  go_ret
  exact ⟨_,rfl,o2,k1⟩
theorem take_getD {α:Type} {xs:List α} {i:Nat} (z:α) (h:i < xs.length):xs.take (i + 1) = xs.take i ++ [xs.getD i z]:=by
 rw [List.take_succ_eq_append_getElem h]
 simp [List.getD,List.getElem?_eq_getElem h]
end Va
end Go.Proofs.YtmhpjjjjgakpiaaGreatDoor
namespace Go.Proofs.YtmhpjjjjgakpiaaGreatDoor
open Go.RowKit
set_option linter.unusedSimpArgs false
set_option linter.unusedVariables false
namespace Va
open Ver (S)
open Rl (At Pv Ats Pvs own_pvs)
def Hi (B:Nat) (w:World) (Q:World → Prop):Prop:=∀ u,Blk.Chg (fun k=>k < B) w u → Q u
theorem Hi.here {B:Nat} {w:World} {Q:World → Prop} (h:Hi B w Q):Q w:=h w (Blk.Chg.refl _ _)
theorem Hi.on {B:Nat} {w w':World} {Q:World → Prop} (h:Hi B w Q) (hc:Blk.Chg (fun k=>k < B) w w'):Hi B w' Q:=fun u hu=>h u (hc.trans hu)
theorem Hi.mono {B B':Nat} {w:World} {Q:World → Prop} (h:Hi B w Q) (hB:B' ≤ B):Hi B' w Q:=fun u hu=>h u (hu.mono fun k _ hk=>Nat.lt_of_lt_of_le hk hB)
theorem chg_below {B:Nat} {w w':World} (h:Below w.heap.size w w'):Blk.Chg (fun k=>k < B) w w':=(Blk.Chg.ofBelow' (S:=fun _=>False) h).mono fun _ _ h=>h.elim
theorem Hi.below {B:Nat} {w w':World} {Q:World → Prop} (h:Hi B w Q) (hb:Below w.heap.size w w'):Hi B w' Q:=h.on (chg_below hb)
theorem hi_pvs {B:Nat} {w:World} {v:Value} {l:List Pv} (h:w.ownsRow B 101 2 v l.length (Rl.pcells l)) (hl:l.length ≤ 1152921504606846976):Hi B w fun u=>Pvs u v l:=fun u hu =>
 own_pvs (hu.owns h fun k hk hlt=>by have:=Rl.own_lt h hk; omega) hl
end Va
end Go.Proofs.YtmhpjjjjgakpiaaGreatDoor
namespace Go.Proofs.YtmhpjjjjgakpiaaGreatDoor
open Go.RowKit
set_option linter.unusedSimpArgs false
set_option linter.unusedVariables false
namespace Va
open Ver (S)
open Rl (At Pv Ats Pvs own_pvs)
theorem provides_clone (v:Value) (l:List Pv) (w:World) (h:Pvs w v l) (hl:l.length ≤ 60000)  :
  Calls Tryz.prog 103 #[v] w fun e w'=>∃ v':Value,e = .returned v' ∧ Hi w.heap.size w' (fun u=>Pvs u v' l) ∧ Below w.heap.size w w':=by
 refine (cloneProvides_any v l w h hl ).mono ?_
 rintro e w' ⟨v1,rfl,o1,k1⟩
 exact ⟨_,rfl,hi_pvs o1 (by omega),k1⟩
end Va
end Go.Proofs.YtmhpjjjjgakpiaaGreatDoor
namespace Go.Proofs.YtmhpjjjjgakpiaaGreatDoor
open Go.RowKit
set_option linter.unusedSimpArgs false
set_option linter.unusedVariables false
namespace Ix
open Rl (At Clss Slc mem_getD Cls acells own_shape own_lt infoC)
open Rc (infoPk)
set_option maxRecDepth 100000 in
set_option maxHeartbeats 2000000 in
theorem cloneClausesL_any (v:Value) (d:List Sl) (w:World) (h:Slc 1 ⟨.slice none 0 0,rfl⟩ SlAt w v d) (hl:d.length ≤ 60000) :
  Calls Tryz.prog 138 #[v] w fun e w'=>∃ v',e = .returned v' ∧ w'.ownsRow w.heap.size 47 1 v' d.length (d.flatMap fun x=>[x.1]) ∧ Below w.heap.size w w':=by
 obtain ⟨h0,a,cap,rfl,hc,hr⟩:=id h
 cases a with
 | none =>
  have hn:d.length = 0:=by
   by_cases h0:0 < d.length
   ·obtain ⟨k,off,e,_⟩:=hr h0; cases e
   ·omega
  have:d = []:=List.eq_nil_of_length_eq_zero hn
  subst this
  clear hr h
  have hq:∀ w:World,(binOp BinOp.eql 36 (.slice none 0 cap) (.slice none 0 0)).run Tryz.prog w = .ok (.bool true) w:=fun w=>by kernel_rfl
  go_enter Tryz.func138,Tryz.ntmps138
  go_wp2_with fail
  go_ret
  exact ⟨_,rfl,World.ownsRow_nil _ _ _ _,Below.refl _ _⟩
 | some ad =>
  have hB:Below w.heap.size w (w.alloc (.cells #[] 47)):=(Below.refl _ _).alloc (Nat.le_refl _) _
  have SRC:=Lib.hid (Va.slc_src (sz:=1) (by omega) (fun x:Sl=>[x.1]) (fun x=>rfl) (fun w k o x hx j u hj=>by cases j with | zero=>(simp at hj; subst hj; exact hx) | succ j=>simp at hj) (fun x u hu=>by simp at hu; rw [hu]; exact x.2) Tryz.underlying36 (Slc.below (P:=SlAt) (fun _ _ _ _ _ h hb=>Rl.cell_on h hb) h hB))
  have OWN:=Lib.hid (World.ownsRow_lit (base:=w.heap.size) (e:=47) (size:=1) w #[] 0 (Nat.le_refl _) (by decide) rfl)
  have HB:=Lib.hid hB
  have hsz:=hB.size
  obtain ⟨i0,hi,hz0,hz1,hz2⟩:=info_parts infoC
  obtain ⟨N,hN⟩:∃ N,d.length = N:=⟨_,rfl⟩
  have HI:=Lib.hid hi
  obtain ⟨CS,hCS⟩:∃ CS,(d.flatMap fun x=>[x.1]) = CS:=⟨_,rfl⟩
  rw [hCS] at SRC ⊢
  rw [hN] at hl SRC h0 hc ⊢
  clear h hr hi hB hN hCS
  have hq:∀ w:World,(binOp BinOp.eql 36 (.slice (some ad) N cap) (.slice none 0 0)).run Tryz.prog w = .ok (.bool false) w:=fun w=>by kernel_rfl
  go_enter Tryz.func138,Tryz.ntmps138
  go_wp2_with (at_builtin; refine Own.wpList_append_src rfl (.tmp 5) (.tmp 6) 36 36 rfl w.heap.size 47 i0 _ 1 24 Tryz.underlying36 HI.out hz0 hz1 hz2 rfl _ 0 [] rfl OWN.out _ N CS rfl SRC.out (by simp only [maxLen]; omega) (by omega) hsz ?_; intro v' w' o1 g1; have k1:Below w.heap.size w w':=Own.below_grown HB.out OWN.out g1 hsz)
  have o2:w'.ownsRow w.heap.size 47 1 v' N CS:=by simpa using o1
  clear o1 g1
  go_ret
  exact ⟨_,rfl,o2,k1⟩
set_option maxRecDepth 100000 in
set_option maxHeartbeats 2000000 in
theorem clonePackages_any (v:Value) (d:List El) (w:World) (h:Slc 9 default ElAt w v d) (hl:d.length ≤ 60000) :
  Calls Tryz.prog 96 #[v] w fun e w'=>∃ v',e = .returned v' ∧ w'.ownsRow w.heap.size 40 9 v' d.length (d.flatMap El.enc) ∧ Below w.heap.size w w':=by
 obtain ⟨h0,a,cap,rfl,hc,hr⟩:=id h
 cases a with
 | none =>
  have hn:d.length = 0:=by
   by_cases h0:0 < d.length
   ·obtain ⟨k,off,e,_⟩:=hr h0; cases e
   ·omega
  have:d = []:=List.eq_nil_of_length_eq_zero hn
  subst this
  clear hr h
  have hq:∀ w:World,(binOp BinOp.eql 22 (.slice none 0 cap) (.slice none 0 0)).run Tryz.prog w = .ok (.bool true) w:=fun w=>by kernel_rfl
  go_enter Tryz.func96,Tryz.ntmps96
  go_wp2_with fail
  go_ret
  exact ⟨_,rfl,World.ownsRow_nil _ _ _ _,Below.refl _ _⟩
 | some ad =>
  have hB:Below w.heap.size w (w.alloc (.cells #[] 40)):=(Below.refl _ _).alloc (Nat.le_refl _) _
  have SRC:=Lib.hid (Va.slc_src (sz:=9) (by omega) El.enc (fun x=>rfl) (fun w k o x hx j u hj=>hx j u hj) El.one Tryz.underlying22 (Slc.below (P:=ElAt) (fun _ _ _ _ _ h hb j u hj=>Rl.cell_on (h j u hj) hb) h hB))
  have OWN:=Lib.hid (World.ownsRow_lit (base:=w.heap.size) (e:=40) (size:=9) w #[] 0 (Nat.le_refl _) (by decide) rfl)
  have HB:=Lib.hid hB
  have hsz:=hB.size
  obtain ⟨i0,hi,hz0,hz1,hz2⟩:=info_parts infoPk
  obtain ⟨N,hN⟩:∃ N,d.length = N:=⟨_,rfl⟩
  have HI:=Lib.hid hi
  obtain ⟨CS,hCS⟩:∃ CS,(d.flatMap El.enc) = CS:=⟨_,rfl⟩
  rw [hCS] at SRC ⊢
  rw [hN] at hl SRC h0 hc ⊢
  clear h hr hi hB hN hCS
  have hq:∀ w:World,(binOp BinOp.eql 22 (.slice (some ad) N cap) (.slice none 0 0)).run Tryz.prog w = .ok (.bool false) w:=fun w=>by kernel_rfl
  go_enter Tryz.func96,Tryz.ntmps96
  go_wp2_with (at_builtin; refine Own.wpList_append_src rfl (.tmp 5) (.tmp 6) 22 22 rfl w.heap.size 40 i0 _ 9 184 Tryz.underlying22 HI.out hz0 hz1 hz2 rfl _ 0 [] rfl OWN.out _ N CS rfl SRC.out (by simp only [maxLen]; omega) (by omega) hsz ?_; intro v' w' o1 g1; have k1:Below w.heap.size w w':=Own.below_grown HB.out OWN.out g1 hsz)
  have o2:w'.ownsRow w.heap.size 40 9 v' N CS:=by simpa using o1
  clear o1 g1
  go_ret
  exact ⟨_,rfl,o2,k1⟩
theorem map_sl (d:List Sl):(d.flatMap fun x=>[x.1]) = d.map (·.1):=by
 induction d with
 | nil=>rfl
 | cons x d ih=>rw [List.flatMap_cons,ih]; rfl
set_option maxRecDepth 100000 in
set_option maxHeartbeats 8000000 in
theorem ownClauses_any (v:Value) (l:List (List At)) (w:World) (h:Clss w v l) (hl:l.length ≤ 60000) (hcl:∀ c ∈ l,c.length ≤ 60000) :
  Calls Tryz.prog 101 #[v] w fun e w'=>∃ v' vs,e = .returned v' ∧ w'.ownsRow w.heap.size 47 1 v' l.length vs ∧ Cls w' w.heap.size vs l ∧ Below w.heap.size w w':=by
 obtain ⟨d,hd,hs,ha⟩:=sls_of h
 have c0:=cloneClausesL_any v d w hs (by omega)
 rw [map_sl] at c0
 obtain ⟨sa,scap,rfl⟩:=h.shape
 have HCL:=Lib.hid hcl
 have HA:=Lib.hid ha
 obtain ⟨N,hN⟩:∃ N,l.length = N:=⟨_,rfl⟩
 have HN:=Lib.hid hN
 rw [hd,hN] at c0
 rw [hN] at hl ⊢
 have HD:=Lib.hid (hd.trans hN)
 clear hN h hcl hs ha hd
 go_enter Tryz.func101,Tryz.ntmps101
 go_wp2_with fail
 refine c0.mono ?_
 rintro e w0 ⟨v0,rfl,o0,k0⟩
 obtain ⟨va,vc,rfl,hvc⟩:=own_shape o0
 have O0:=Lib.hid o0
 have K0:=Lib.hid k0
 clear c0 o0 k0
 go_wp2_with fail
 go_loopg [9] N (fun gf s9 wx=>∃ (i:Nat) (xs:List Value),s9 = .int .i64 i ∧ Hid (wx.ownsRow w.heap.size 47 1 (.slice va N vc) N xs) ∧ Hid (xs.length = N ∧ ∀ j,i ≤ j → xs[j]? = (d.map (·.1))[j]?) ∧ Hid (Cls wx w.heap.size (xs.take i) (l.take i)) ∧ i ≤ N ∧ N ≤ i + gf ∧ Hid (Below w.heap.size w wx))
 case atStart=>exact ⟨0,d.map (·.1),rfl,O0,Lib.hid ⟨by rw [List.length_map]; exact HD.out,fun _ _=>rfl⟩,Lib.hid (by rw [List.take_zero,List.take_zero]; exact Cls.nil _ _),by omega,by omega,K0⟩
 case round =>
  obtain ⟨i,xs,rfl,HO,HX,HC,hi1,hi2,HB⟩:=hrel
  by_cases hi:i < N
  ·have hi':(i:Int) < (N:Int):=by omega
   have hi0:(0:Int) ≤ i:=by omega
   have hil:i < l.length:=by rw [HN.out]; exact hi
   have hid:i < d.length:=by rw [HD.out]; exact hi
   obtain ⟨g',rfl⟩:∃ g',gk = g' + 1:=⟨gk - 1,by omega⟩
   obtain ⟨R,vcap,e1,hcap⟩:=Rl.own_slice HO.out (by omega)
   simp only [Value.slice.injEq,true_and] at e1
   obtain ⟨rfl,rfl⟩:=e1
   obtain ⟨x,hx⟩:∃ x,d[i]? = some x:=⟨d[i],List.getElem?_eq_getElem hid⟩
   have hxs:xs[i]? = some x.1:=by rw [HX.out.2 i (Nat.le_refl _),List.getElem?_map,hx]; rfl
   have q0:=Rl.own_cell HO.out hxs
   have f0:=Rl.own_free HO.out i
   have p1:=HA.out i x hx
   have cc:=Va.cloneClause_any x.1 _ wr (p1.below HB.out) (HCL.out _ (mem_getD (z:=[]) hil))
   have htk:=Va.take_getD [] hil
   obtain ⟨cu,ccap,ecu⟩:=p1.shape
   obtain ⟨c,hcc⟩:∃ c,l.getD i [] = c:=⟨_,rfl⟩
   rw [hcc] at cc htk ecu
   rw [ecu] at cc q0
   have HTK:=Lib.hid htk
   have HXI:=Lib.hid hxs
   clear p1 htk hcc hil hid hx hxs ecu
   have hs:=HB.out.size
   go_wp2_with fail
   refine cc.mono ?_
   rintro e w1 ⟨v1,rfl,o1,k1⟩
   have hs1:=k1.size
   have B1:=Lib.hid (HB.out.trans (k1.mono hs))
   have O1:=Lib.hid (Own.owns_below HO.out k1)
   have C1:=Lib.hid (HC.out.below k1)
   have E1:=Lib.hid (Rl.own_mono o1 hs)
   obtain ⟨ua,uc,rfl,_⟩:=own_shape o1
   have q1:=Rl.cell_on q0 k1
   have f1:=(k1.frozen (p:=⟨R,i,none⟩) (Ver.lt_cell q0)).trans f0
   have hRlt:=own_lt O1.out (k:=R) rfl
   clear cc o1 k1 HO HC HB q0 f0
   have hxl:=HX.out.1
   have O2:=Lib.hid (Rl.own_set O1.out (i:=i) (by omega) (.slice ua c.length uc))
   have hne:∀ u n ys,w1.ownsRow w.heap.size 54 3 u n ys → ∀ k,u.ownBlock = some k → ¬ (k = R):=fun u n ys ho k hk e=>Rl.own_ne ho O1.out Rl.atoms_ne_clauses k hk (by rw [e]; rfl)
   have C2:=Lib.hid ((C1.out.chg (Q:=fun k=>k = R) ((Blk.Chg.refl _ _).setAt rfl) hne:Cls (w1.setCell ⟨R,i,none⟩ (.slice ua c.length uc)) w.heap.size _ _))
   have E2:=Lib.hid (((Blk.Chg.refl (fun k=>k = R) w1).setAt rfl).owns E1.out (fun k hk=>hne _ _ _ E1.out k hk):(w1.setCell ⟨R,i,none⟩ (.slice ua c.length uc)).ownsRow w.heap.size 54 3 (.slice ua c.length uc) c.length (acells c))
   have B2:=Lib.hid (B1.out.setCell (p:=⟨R,i,none⟩) hRlt.1 (.slice ua c.length uc))
   clear hne O1 C1 E1 B1
   go_wp2_with fail
   go_roundg g'
   case measure=>omega
   case rel =>
    refine ⟨i + 1,xs.set i (.slice ua c.length uc),by go_num,O2,Lib.hid ⟨by rw [List.length_set]; exact HX.out.1,fun j hj=>?_⟩,Lib.hid ?_,by omega,by omega,B2⟩
    ·rw [List.getElem?_set_ne (by omega)]
     exact HX.out.2 j (by omega)
    ·rw [HTK.out,List.take_succ_eq_append_getElem (by rw [List.length_set]; omega),List.getElem_set_self,List.take_set_of_le (Nat.le_refl i)]
     exact C2.out.more E2.out
  ·obtain rfl:i = N:=by omega
   have hi':¬ (i:Int) < (i:Int):=by omega
   go_wp2_with fail
   go_ret
   refine ⟨_,rfl,xs,HO.out,?_,HB.out⟩
   have:=HC.out
   rwa [List.take_of_length_le (by rw [HX.out.1]; omega),List.take_of_length_le (by rw [HN.out]; omega)] at this
end Ix
end Go.Proofs.YtmhpjjjjgakpiaaGreatDoor

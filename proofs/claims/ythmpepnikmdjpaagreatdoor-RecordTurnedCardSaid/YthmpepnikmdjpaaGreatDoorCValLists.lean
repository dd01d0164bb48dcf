/-
Atoms, provides in memory as the source of an append; slices.Clone of them. Values in memory: what a value has within, by its kind; that it bears what happens below B. OfClauses and the like; Clauses and the like. Values of lists: OfClauses and the like copy; Clauses and the like tell a copy.
-/
import Derived.Test.YthmpepnikmdjpaaGreatDoorCRelLists
import Derived.Test.YthmpepnikmdjpaaGreatDoorCRelOwn
import Derived.Deep.AppendSrc
import Derived.Laws.OwnMore
import Derived.Test.YthmpepnikmdjpaaGreatDoorCValBase
namespace Go.Proofs.YthmpepnikmdjpaaGreatDoor
open Go.RowKit
set_option linter.unusedSimpArgs false
set_option linter.unusedVariables false
namespace Va
open Ver (Bs li li_len S S_size S_li)
open Rl (At Pv Ats Pvs Clss AtAt PvAt ClAt Slc nA nP acell acells pcell pcells flat_at at_getD infoA infoP infoC own_shape)
theorem slc_src {α:Type} {sz:Nat} (hz:0 < sz) {z:α} {P:World → Nat → Nat → α → Prop} (f:α → List Value) (hf:∀ x,(f x).length = sz) (hP:∀ w k o x,P w k o x → ∀ (j:Nat) u,(f x)[j]? = some u → w.cell? ⟨k,o + j,none⟩ = some u)
  (h1:∀ x,∀ u ∈ f x,u.oneCell' = true) {tS e:TypeId} (hu:Tryz.prog.underlying tS = some (.slice e)) {w:World} {v:Value} {l:List α} (h:Slc sz z P w v l):Src Tryz.prog sz tS v l.length (l.flatMap f) w:=by
 obtain ⟨h0,a,cap,rfl,hc,hr⟩:=h
 have hlen:(l.flatMap f).length = l.length * sz:=by
  clear h0 hc hr
  induction l with
  | nil=>simp
  | cons x l ih=>rw [List.flatMap_cons,List.length_append,ih,hf,List.length_cons,Nat.add_mul]; omega
 by_cases hl:0 < l.length
 ·obtain ⟨k,off,rfl,hat⟩:=hr hl
  refine Src.ofSlice w hu ⟨k,off,none⟩ l.length cap _ hlen (fun j u hj=>?_) fun u hu=>?_
  ·have hjl:=(List.getElem?_eq_some_iff.1 hj).1
   rw [hlen] at hjl
   have hi:j / sz < l.length:=Nat.div_lt_of_lt_mul (by rw [Nat.mul_comm]; exact hjl)
   have hm:j % sz < sz:=Nat.mod_lt _ hz
   have hd:sz * (j / sz) + j % sz = j:=Nat.div_add_mod j sz
   have hfa:=flat_at f sz hf l (j / sz) (j % sz) _ (at_getD (z:=z) hi) hm
   rw [hd,hj] at hfa
   have:=hP w k _ _ (hat _ hi) (j % sz) u hfa.symm
   rw [Addr.add_mid,← hd,← Nat.add_assoc]
   exact this
  ·obtain ⟨x,_,hx⟩:=List.mem_flatMap.1 hu
   exact h1 x u hx
 ·have:l = []:=List.eq_nil_of_length_eq_zero (by omega)
  subst this
  cases a with
  | none=>exact Src.ofNil w hu cap
  | some x=>exact Src.ofSlice w hu x 0 cap [] (by simp) (fun j u hj=>by simp at hj) (fun u hu=>by cases hu)
theorem ats_src {w:World} {v:Value} {l:List At} (h:Ats w v l) {tS e:TypeId} (hu:Tryz.prog.underlying tS = some (.slice e)):Src Tryz.prog 3 tS v l.length (acells l) w:=by
 refine slc_src (by omega) acell (fun x=>rfl) (fun w k o x hx j u hj=>?_) (fun x u hu=>?_) hu h
 ·obtain ⟨x0,x1,x2⟩:=hx
  match j with
  | 0=>simp [acell] at hj; subst hj; exact x0
  | 1=>simp [acell] at hj; subst hj; exact x1
  | 2=>simp [acell] at hj; subst hj; exact x2
  | j + 3=>simp [acell] at hj
 ·simp only [acell,List.mem_cons,List.not_mem_nil,or_false] at hu; rcases hu with rfl | rfl | rfl <;> rfl
theorem pvs_src {w:World} {v:Value} {l:List Pv} (h:Pvs w v l) {tS e:TypeId} (hu:Tryz.prog.underlying tS = some (.slice e)):Src Tryz.prog 2 tS v l.length (pcells l) w:=by
 refine slc_src (by omega) pcell (fun x=>rfl) (fun w k o x hx j u hj=>?_) (fun x u hu=>?_) hu h
 ·obtain ⟨x0,x1⟩:=hx
  match j with
  | 0=>simp [pcell] at hj; subst hj; exact x0
  | 1=>simp [pcell] at hj; subst hj; exact x1
  | j + 2=>simp [pcell] at hj
 ·simp only [pcell,List.mem_cons,List.not_mem_nil,or_false] at hu; rcases hu with rfl | rfl <;> rfl
set_option maxRecDepth 100000 in
set_option maxHeartbeats 2000000 in
theorem cloneAtoms_any (v:Value) (l:List At) (w:World) (h:Ats w v l) (hl:l.length ≤ 60000) :
  Calls Tryz.prog 168 #[v] w fun e w'=>∃ v',e = .returned v' ∧ w'.ownsRow w.heap.size 78 3 v' l.length (acells l) ∧ Below w.heap.size w w':=by
 obtain ⟨h0,a,cap,rfl,hc,hr⟩:=id h
 cases a with
 | none =>
  have hn:l.length = 0:=by
   by_cases h0:0 < l.length
   ·obtain ⟨k,off,e,_⟩:=hr h0; cases e
   ·omega
  have:l = []:=List.eq_nil_of_length_eq_zero hn
  subst this
  clear hr h
  have hq:∀ w:World,(binOp BinOp.eql 28 (.slice none 0 cap) (.slice none 0 0)).run Tryz.prog w = .ok (.bool true) w:=fun w=>by kernel_rfl
  go_enter Tryz.func168,Tryz.ntmps168
  go_wp2_with fail
  go_ret
  exact ⟨_,rfl,World.ownsRow_nil _ _ _ _,Below.refl _ _⟩
 | some ad =>
  have hB:Below w.heap.size w (w.alloc (.cells #[] 78)):=(Below.refl _ _).alloc (Nat.le_refl _) _
  have SRC:=Lib.hid (ats_src (h.below hB) Tryz.underlying28)
  have OWN:=Lib.hid (World.ownsRow_lit (base:=w.heap.size) (e:=78) (size:=3) w #[] 0 (Nat.le_refl _) (by decide) rfl)
  have HB:=Lib.hid hB
  have hsz:=hB.size
  obtain ⟨i0,hi,hz0,hz1,hz2⟩:=info_parts infoA
  obtain ⟨N,hN⟩:∃ N,l.length = N:=⟨_,rfl⟩
  have HI:=Lib.hid hi
  rw [hN] at hl SRC h0 hc ⊢
  clear h hr hi hB hN
  have hq:∀ w:World,(binOp BinOp.eql 28 (.slice (some ad) N cap) (.slice none 0 0)).run Tryz.prog w = .ok (.bool false) w:=fun w=>by kernel_rfl
  go_enter Tryz.func168,Tryz.ntmps168
  go_wp2_with (at_builtin; refine Own.wpList_append_src rfl (.tmp 5) (.tmp 6) 28 28 rfl w.heap.size 78 i0 _ 3 40 Tryz.underlying28 HI.out hz0 hz1 hz2 rfl _ 0 [] rfl OWN.out _ N (acells l) rfl SRC.out (by simp only [maxLen]; omega) (by omega) hsz ?_; intro v' w' o1 g1; have k1:Below w.heap.size w w':=Own.below_grown HB.out OWN.out g1 hsz)
  have o2:w'.ownsRow w.heap.size 78 3 v' N (acells l):=by simpa using o1
  clear o1 g1
  go_ret
  exact ⟨_,rfl,o2,k1⟩
set_option maxRecDepth 100000 in
set_option maxHeartbeats 2000000 in
theorem cloneProvides_any (v:Value) (l:List Pv) (w:World) (h:Pvs w v l) (hl:l.length ≤ 60000) :
  Calls Tryz.prog 170 #[v] w fun e w'=>∃ v',e = .returned v' ∧ w'.ownsRow w.heap.size 82 2 v' l.length (pcells l) ∧ Below w.heap.size w w':=by
 obtain ⟨h0,a,cap,rfl,hc,hr⟩:=id h
 cases a with
 | none =>
  have hn:l.length = 0:=by
   by_cases h0:0 < l.length
   ·obtain ⟨k,off,e,_⟩:=hr h0; cases e
   ·omega
  have:l = []:=List.eq_nil_of_length_eq_zero hn
  subst this
  clear hr h
  have hq:∀ w:World,(binOp BinOp.eql 29 (.slice none 0 cap) (.slice none 0 0)).run Tryz.prog w = .ok (.bool true) w:=fun w=>by kernel_rfl
  go_enter Tryz.func170,Tryz.ntmps170
  go_wp2_with fail
  go_ret
  exact ⟨_,rfl,World.ownsRow_nil _ _ _ _,Below.refl _ _⟩
 | some ad =>
  have hB:Below w.heap.size w (w.alloc (.cells #[] 82)):=(Below.refl _ _).alloc (Nat.le_refl _) _
  have SRC:=Lib.hid (pvs_src (h.below hB) Tryz.underlying29)
  have OWN:=Lib.hid (World.ownsRow_lit (base:=w.heap.size) (e:=82) (size:=2) w #[] 0 (Nat.le_refl _) (by decide) rfl)
  have HB:=Lib.hid hB
  have hsz:=hB.size
  obtain ⟨i0,hi,hz0,hz1,hz2⟩:=info_parts infoP
  obtain ⟨N,hN⟩:∃ N,l.length = N:=⟨_,rfl⟩
  have HI:=Lib.hid hi
  rw [hN] at hl SRC h0 hc ⊢
  clear h hr hi hB hN
  have hq:∀ w:World,(binOp BinOp.eql 29 (.slice (some ad) N cap) (.slice none 0 0)).run Tryz.prog w = .ok (.bool false) w:=fun w=>by kernel_rfl
  go_enter Tryz.func170,Tryz.ntmps170
  go_wp2_with (at_builtin; refine Own.wpList_append_src rfl (.tmp 5) (.tmp 6) 29 29 rfl w.heap.size 82 i0 _ 2 32 Tryz.underlying29 HI.out hz0 hz1 hz2 rfl _ 0 [] rfl OWN.out _ N (pcells l) rfl SRC.out (by simp only [maxLen]; omega) (by omega) hsz ?_; intro v' w' o1 g1; have k1:Below w.heap.size w w':=Own.below_grown HB.out OWN.out g1 hsz)
  have o2:w'.ownsRow w.heap.size 82 2 v' N (pcells l):=by simpa using o1
  clear o1 g1
  go_ret
  exact ⟨_,rfl,o2,k1⟩
set_option maxRecDepth 100000 in
set_option maxHeartbeats 2000000 in
theorem cloneClause_any (v:Value) (l:List At) (w:World) (h:Ats w v l) (hl:l.length ≤ 60000) :
  Calls Tryz.prog 211 #[v] w fun e w'=>∃ v',e = .returned v' ∧ w'.ownsRow w.heap.size 78 3 v' l.length (acells l) ∧ Below w.heap.size w w':=by
 obtain ⟨h0,a,cap,rfl,hc,hr⟩:=id h
 cases a with
 | none =>
  have hn:l.length = 0:=by
   by_cases h0:0 < l.length
   ·obtain ⟨k,off,e,_⟩:=hr h0; cases e
   ·omega
  have:l = []:=List.eq_nil_of_length_eq_zero hn
  subst this
  clear hr h
  have hq:∀ w:World,(binOp BinOp.eql 72 (.slice none 0 cap) (.slice none 0 0)).run Tryz.prog w = .ok (.bool true) w:=fun w=>by kernel_rfl
  go_enter Tryz.func211,Tryz.ntmps211
  go_wp2_with fail
  go_ret
  exact ⟨_,rfl,World.ownsRow_nil _ _ _ _,Below.refl _ _⟩
 | some ad =>
  have hB:Below w.heap.size w (w.alloc (.cells #[] 78)):=(Below.refl _ _).alloc (Nat.le_refl _) _
  have SRC:=Lib.hid (ats_src (h.below hB) Tryz.underlying72)
  have OWN:=Lib.hid (World.ownsRow_lit (base:=w.heap.size) (e:=78) (size:=3) w #[] 0 (Nat.le_refl _) (by decide) rfl)
  have HB:=Lib.hid hB
  have hsz:=hB.size
  obtain ⟨i0,hi,hz0,hz1,hz2⟩:=info_parts infoA
  obtain ⟨N,hN⟩:∃ N,l.length = N:=⟨_,rfl⟩
  have HI:=Lib.hid hi
  rw [hN] at hl SRC h0 hc ⊢
  clear h hr hi hB hN
  have hq:∀ w:World,(binOp BinOp.eql 72 (.slice (some ad) N cap) (.slice none 0 0)).run Tryz.prog w = .ok (.bool false) w:=fun w=>by kernel_rfl
  go_enter Tryz.func211,Tryz.ntmps211
  go_wp2_with (at_builtin; refine Own.wpList_append_src rfl (.tmp 5) (.tmp 6) 72 72 rfl w.heap.size 78 i0 _ 3 40 Tryz.underlying72 HI.out hz0 hz1 hz2 rfl _ 0 [] rfl OWN.out _ N (acells l) rfl SRC.out (by simp only [maxLen]; omega) (by omega) hsz ?_; intro v' w' o1 g1; have k1:Below w.heap.size w w':=Own.below_grown HB.out OWN.out g1 hsz)
  have o2:w'.ownsRow w.heap.size 78 3 v' N (acells l):=by simpa using o1
  clear o1 g1
  go_ret
  exact ⟨_,rfl,o2,k1⟩
open Rl (Cls cell_on append_el)
theorem take_getD {α:Type} {xs:List α} {i:Nat} (z:α) (h:i < xs.length):xs.take (i + 1) = xs.take i ++ [xs.getD i z]:=by
 rw [List.take_succ_eq_append_getElem h]
 simp [List.getD,List.getElem?_eq_getElem h]
set_option maxRecDepth 100000 in
set_option maxHeartbeats 8000000 in
theorem cloneClauses_any (v:Value) (l:List (List At)) (w:World) (h:Clss w v l) (hl:l.length ≤ 60000) (hcl:∀ c ∈ l,c.length ≤ 60000) :
  Calls Tryz.prog 166 #[v] w fun e w'=>∃ v' vs,e = .returned v' ∧ w'.ownsRow w.heap.size 72 1 v' l.length vs ∧ Cls w' w.heap.size vs l ∧ Below w.heap.size w w':=by
 obtain ⟨h0,a0,b0,rfl,hcap,hr⟩:=id h
 have HR:=Lib.hid hr
 have HCL:=Lib.hid hcl
 obtain ⟨N,hN⟩:∃ N,l.length = N:=⟨_,rfl⟩
 have HN:=Lib.hid hN
 rw [hN] at h0 hcap hl ⊢
 clear hN hr h hcl
 go_enter Tryz.func166,Tryz.ntmps166
 go_wp2_with fail
 go_loopg [3,8] N (fun gf s3 s8 wx=>∃ (i:Nat) (sa:Option Addr) (cap:Nat) (xs:List Value),s8 = .int .i64 i ∧ s3 = .slice sa i cap ∧ Hid (wx.ownsRow w.heap.size 72 1 (.slice sa i cap) i xs) ∧ Hid (Cls wx w.heap.size xs (l.take i)) ∧ i ≤ N ∧ N ≤ i + gf ∧ Hid (Below w.heap.size w wx))
 case atStart=>exact ⟨0,none,0,[],rfl,rfl,Lib.hid (World.ownsRow_nil _ _ _ 1),Lib.hid (Cls.nil _ _),by omega,by omega,Lib.hid (Below.refl _ _)⟩
 case round =>
  obtain ⟨i,sa,cap,xs,rfl,rfl,HO,HC,hi1,hi2,HB⟩:=hrel
  by_cases hi:i < N
  ·have hi':(i:Int) < (N:Int):=by omega
   have hil:i < l.length:=by rw [HN.out]; exact hi
   obtain ⟨g',rfl⟩:∃ g',gk = g' + 1:=⟨gk - 1,by omega⟩
   obtain ⟨ob,oo,rfl,hat⟩:=HR.out (by omega)
   obtain ⟨u,p0,p1⟩:=hat i hil
   rw [Nat.one_mul] at p0
   have q0:=cell_on p0 HB.out
   have cc:=cloneClause_any u _ wr (p1.below HB.out) (HCL.out _ (Rl.mem_getD (z:=[]) hil))
   have htk:=take_getD [] hil
   obtain ⟨cu,ccap,rfl⟩:=p1.shape
   obtain ⟨c,hcc⟩:∃ c,l.getD i [] = c:=⟨_,rfl⟩
   rw [hcc] at cc htk q0
   have HTK:=Lib.hid htk
   clear hat p0 p1 htk hcc hil
   have hs:=HB.out.size
   go_wp2_with fail
   refine cc.mono ?_
   rintro e w1 ⟨v1,rfl,o1,k1⟩
   have hs1:=k1.size
   have B1:=Lib.hid (HB.out.trans (k1.mono hs))
   have O1:=Lib.hid (Own.owns_below HO.out k1)
   have C1:=Lib.hid (HC.out.below k1)
   have E1:=Lib.hid (Rl.own_mono o1 hs)
   obtain ⟨va,vc,rfl,_⟩:=own_shape o1
   clear cc o1 k1 HO HC HB
   have hb3:Below w1.heap.size w1 (w1.alloc (.cells #[.slice va c.length vc] 72)):=(Below.refl _ _).alloc (Nat.le_refl _) _
   have hc3:=Blk.Is.new w1 72 #[.slice va c.length vc]
   obtain ⟨W3,hW3⟩:∃ W3,w1.alloc (.cells #[.slice va c.length vc] 72) = W3:=⟨_,rfl⟩
   rw [hW3] at hb3 hc3
   have HW3:=Lib.hid hW3
   have HC3:=Lib.hid (show W3.cell? ⟨w1.heap.size,0,none⟩ = some (.slice va c.length vc) from hc3.at rfl)
   have HOWN:=Lib.hid (Own.owns_below O1.out hb3)
   have HCM:=Lib.hid ((C1.out.below hb3).more (Own.owns_below E1.out hb3))
   have HB3:=Lib.hid (B1.out.trans (hb3.mono B1.out.size))
   have HSZ:=HB3.out.size
   have hn:i + 1 ≤ 70000:=by omega
   clear hW3 hb3 hc3 O1 C1 E1 B1
   go_wp2_with (at_builtin; rw [HW3.out]; refine append_el Tryz.underlying27 infoC rfl (by decide) rfl (.tmp 12) (.tmp 15) rfl w.heap.size (.slice sa i cap) i xs rfl HOWN.out w1.heap.size 1 rfl [.slice va c.length vc] rfl (fun j u hj=>by cases j with | zero=>(simp at hj; subst hj; exact HC3.out) | succ j=>simp at hj) (fun u hu=>by simp only [List.mem_singleton] at hu; rw [hu]; rfl) hn HSZ ?_; intro v' w4 h4 h5; have g1:=Own.below_grown HB3.out HOWN.out h5 HSZ; have g4:=HCM.out.grown HOWN.out h5; obtain ⟨a4,c4,rfl,_⟩:=own_shape h4; have H4:=Lib.hid h4; have G1:=Lib.hid g1; have G4:=Lib.hid g4; clear h4 h5 g1 g4 HW3 HC3 HOWN HCM HB3)
   go_roundg g'
   case measure=>omega
   case rel =>
    refine ⟨i + 1,a4,c4,_,by go_num,rfl,H4,Lib.hid ?_,by omega,by omega,G1⟩
    have:=G4.out
    rw [HTK.out]
    exact this
  ·obtain rfl:i = N:=by omega
   have hi':¬ (i:Int) < (i:Int):=by omega
   go_wp2_with fail
   go_ret
   have hc:=HC.out
   rw [show l.take i = l by rw [← HN.out,List.take_length]] at hc
   exact ⟨_,rfl,xs,HO.out,hc,HB.out⟩
end Va
end Go.Proofs.YthmpepnikmdjpaaGreatDoor
namespace Go.Proofs.YthmpepnikmdjpaaGreatDoor
open Go.RowKit
set_option linter.unusedSimpArgs false
set_option linter.unusedVariables false
namespace Va
open Ver (Bs li li_len S S_size S_li)
open Rl (At Pv Ats Pvs Clss Cls own_clss own_ats own_pvs LimA LimP LimC)
def Hi (B:Nat) (w:World) (Q:World → Prop):Prop:=∀ u,Blk.Chg (fun k=>k < B) w u → Q u
theorem Hi.here {B:Nat} {w:World} {Q:World → Prop} (h:Hi B w Q):Q w:=h w (Blk.Chg.refl _ _)
theorem Hi.on {B:Nat} {w w':World} {Q:World → Prop} (h:Hi B w Q) (hc:Blk.Chg (fun k=>k < B) w w'):Hi B w' Q:=fun u hu=>h u (hc.trans hu)
theorem Hi.mono {B B':Nat} {w:World} {Q:World → Prop} (h:Hi B w Q) (hB:B' ≤ B):Hi B' w Q:=fun u hu=>h u (hu.mono fun k _ hk=>Nat.lt_of_lt_of_le hk hB)
theorem chg_below {B:Nat} {w w':World} (h:Below w.heap.size w w'):Blk.Chg (fun k=>k < B) w w':=(Blk.Chg.ofBelow' (S:=fun _=>False) h).mono fun _ _ h=>h.elim
theorem Hi.below {B:Nat} {w w':World} {Q:World → Prop} (h:Hi B w Q) (hb:Below w.heap.size w w'):Hi B w' Q:=h.on (chg_below hb)
theorem hi_ats {B:Nat} {w:World} {v:Value} {l:List At} (h:w.ownsRow B 78 3 v l.length (Rl.acells l)) (hl:l.length ≤ 1152921504606846976):Hi B w fun u=>Ats u v l:=fun u hu =>
 own_ats (hu.owns h fun k hk hlt=>by have:=Rl.own_lt h hk; omega) hl
theorem hi_pvs {B:Nat} {w:World} {v:Value} {l:List Pv} (h:w.ownsRow B 82 2 v l.length (Rl.pcells l)) (hl:l.length ≤ 1152921504606846976):Hi B w fun u=>Pvs u v l:=fun u hu =>
 own_pvs (hu.owns h fun k hk hlt=>by have:=Rl.own_lt h hk; omega) hl
theorem hi_clss {B:Nat} {w:World} {v:Value} {vs:List Value} {l:List (List At)} (h:w.ownsRow B 72 1 v l.length vs) (hc:Cls w B vs l) (hl:l.length ≤ 1152921504606846976) (hl2:∀ c ∈ l,c.length ≤ 1152921504606846976):Hi B w fun u=>Clss u v l:=fun u hu =>
 own_clss (hu.owns h fun k hk hlt=>by have:=Rl.own_lt h hk; omega) (hc.chg hu fun u n ys ho k hk hlt=>by have:=Rl.own_lt ho hk; omega) hl hl2
inductive Vl where
 | none
 | text (s:ByteArray)
 | count (n:Int)
 | yes (b:Bool)
 | clauses (l:List (List At))
 | atoms (l:List At)
 | provs (l:List Pv)
def VAt (B:Nat) (w:World) (iv:Value):Vl → Prop
 | .none=>iv = .nilIface
 | .text s=>iv = .iface 9 (.string s)
 | .count n=>iv = .iface 3 (.int .i64 n)
 | .yes b=>iv = .iface 4 (.bool b)
 | .clauses l=>∃ v,iv = .iface 27 v ∧ Hi B w fun u=>Clss u v l
 | .atoms l=>∃ v,iv = .iface 28 v ∧ Hi B w fun u=>Ats u v l
 | .provs l=>∃ v,iv = .iface 29 v ∧ Hi B w fun u=>Pvs u v l
theorem VAt.on {B:Nat} {w w':World} {iv:Value} {x:Vl} (h:VAt B w iv x) (hc:Blk.Chg (fun k=>k < B) w w'):VAt B w' iv x:=by
 cases x with
 | none=>exact h
 | text s=>exact h
 | count n=>exact h
 | yes b=>exact h
 | clauses l=>obtain ⟨v,h1,h2⟩:=h; exact ⟨v,h1,h2.on hc⟩
 | atoms l=>obtain ⟨v,h1,h2⟩:=h; exact ⟨v,h1,h2.on hc⟩
 | provs l=>obtain ⟨v,h1,h2⟩:=h; exact ⟨v,h1,h2.on hc⟩
theorem VAt.mono {B B':Nat} {w:World} {iv:Value} {x:Vl} (h:VAt B w iv x) (hB:B' ≤ B):VAt B' w iv x:=by
 cases x with
 | none=>exact h
 | text s=>exact h
 | count n=>exact h
 | yes b=>exact h
 | clauses l=>obtain ⟨v,h1,h2⟩:=h; exact ⟨v,h1,h2.mono hB⟩
 | atoms l=>obtain ⟨v,h1,h2⟩:=h; exact ⟨v,h1,h2.mono hB⟩
 | provs l=>obtain ⟨v,h1,h2⟩:=h; exact ⟨v,h1,h2.mono hB⟩
theorem VAt.below {B:Nat} {w w':World} {iv:Value} {x:Vl} (h:VAt B w iv x) (hb:Below w.heap.size w w'):VAt B w' iv x:=h.on (chg_below hb)
theorem VAt.ok {B:Nat} {w:World} {iv:Value} {x:Vl} (h:VAt B w iv x):IvOK iv:=by
 cases x with
 | none=>exact .inl h
 | text s=>exact .inr ⟨_,_,h,by simp⟩
 | count n=>exact .inr ⟨_,_,h,by simp⟩
 | yes b=>exact .inr ⟨_,_,h,by simp⟩
 | clauses l=>obtain ⟨v,h1,h2⟩:=h; exact .inr ⟨_,_,h1,by simp⟩
 | atoms l=>obtain ⟨v,h1,h2⟩:=h; exact .inr ⟨_,_,h1,by simp⟩
 | provs l=>obtain ⟨v,h1,h2⟩:=h; exact .inr ⟨_,_,h1,by simp⟩
end Va
end Go.Proofs.YthmpepnikmdjpaaGreatDoor
namespace Go.Proofs.YthmpepnikmdjpaaGreatDoor
open Go.RowKit
set_option linter.unusedSimpArgs false
set_option linter.unusedVariables false
namespace Va
open Ver (Bs li li_len S S_size S_li)
open Rl (At Pv Ats Pvs Clss Cls own_clss own_ats own_pvs LimA LimP LimC)
theorem clauses_clone (v:Value) (l:List (List At)) (w:World) (h:Clss w v l) (hl:l.length ≤ 60000) (hcl:∀ c ∈ l,c.length ≤ 60000) :
  Calls Tryz.prog 166 #[v] w fun e w'=>∃ v':Value,e = .returned v' ∧ Hi w.heap.size w' (fun u=>Clss u v' l) ∧ Below w.heap.size w w':=by
 refine (cloneClauses_any v l w h hl hcl).mono ?_
 rintro e w' ⟨v1,vs,rfl,o1,c1,k1⟩
 exact ⟨_,rfl,hi_clss o1 c1 (by omega) (fun c hc=>by have:=hcl c hc; omega),k1⟩
set_option maxRecDepth 100000 in
set_option maxHeartbeats 2000000 in
theorem ofClauses_any (v:Value) (l:List (List At)) (w:World) (h:Clss w v l) (hl:l.length ≤ 60000) (hcl:∀ c ∈ l,c.length ≤ 60000) :
  Calls Tryz.prog 123 #[v] w fun e w'=>∃ iv,e = .returned (.agg #[iv]) ∧ IsI iv ∧ VAt w.heap.size w' iv (.clauses l) ∧ Below w.heap.size w w':=by
 have hb0:=Blk.Is.new w 97 #[.nilIface]
 have hB0:Below w.heap.size w (w.alloc (.cells #[.nilIface] 97)):=(Below.refl _ _).alloc (Nat.le_refl _) _
 have hs0:(w.alloc (.cells #[.nilIface] 97)).heap.size = w.heap.size + 1:=by simp
 have c:=clauses_clone v l _ (h.below hB0) hl hcl
 rw [hs0] at c
 obtain ⟨a0,b0,rfl⟩:=h.shape
 clear h
 go_enter Tryz.func123,Tryz.ntmps123
 go_wp2_with fail
 refine c.mono ?_
 rintro e W ⟨v1,rfl,h1,kb⟩
 obtain ⟨a1,b1,rfl⟩:=h1.here.shape
 have hi:Blk.Is W w.heap.size 97 #[.nilIface]:=(kb.block _ (by omega)).trans hb0
 have hc:=hi.at (i:=0) rfl
 have hf:=hi.free 0
 have h9:=(hi.set 0 (.iface 27 (.slice a1 l.length b1))).at (i:=0) (v:=.iface 27 (.slice a1 l.length b1)) rfl
 have k:Below w.heap.size w (W.setCell ⟨w.heap.size,0,none⟩ (.iface 27 (.slice a1 l.length b1))):=(hB0.trans (kb.mono (by omega))).setCell (Nat.le_refl _) _
 have HA:=Lib.hid ((h1.on ((Blk.Chg.refl _ W).setAt (b:=w.heap.size) (o:=0) (u:=.iface 27 (.slice a1 l.length b1)) (Nat.lt_succ_self _))).mono (Nat.le_succ _))
 clear kb hB0 hb0 hi h1 c
 generalize l.length = N at *
 go_wp2_with fail
 refine bodyPost_ret (v:=.agg #[.iface 27 (.slice a1 N b1)]) ?_ rfl ?_
 ·simp [results,Tryz.results123,go_sem,h9]
 ·exact ⟨_,rfl,.inr ⟨_,_,rfl⟩,⟨_,rfl,HA.out⟩,k⟩
set_option maxRecDepth 100000 in
set_option maxHeartbeats 2000000 in
theorem clauses_any (iv v:Value) (b:Bool) (l:List (List At)) (hI:IsI iv) (e1:asT 27 (.slice none 0 0) iv = v) (e2:asB 27 iv = b) (w:World) (h:Clss w v l) (hl:l.length ≤ 60000) (hcl:∀ c ∈ l,c.length ≤ 60000) :
  Calls Tryz.prog 115 #[.agg #[iv]] w fun e w'=>∃ u,e = .returned (.tuple #[u,.bool b]) ∧ Hi w.heap.size w' (fun z=>Clss z u l) ∧ Below w.heap.size w w':=by
 have hb0:=(Blk.Is.new w 97 #[iv]).at (i:=0) rfl
 have hB0:Below w.heap.size w (w.alloc (.cells #[iv] 97)):=(Below.refl _ _).alloc (Nat.le_refl _) _
 have c:=clausesM_any iv hI (w.alloc (.cells #[iv] 97))
 rw [e1,e2] at c
 have hc:=fun u k=>clauses_clone v l u (h.below k) hl hcl
 obtain ⟨a0,b0,rfl⟩:=h.shape
 clear h e1 e2
 generalize l.length = N at *
 have hC:=Lib.hid hc
 clear hc
 go_enter Tryz.func115,Tryz.ntmps115
 go_wp2_with fail
 refine c.mono ?_
 rintro e w1 ⟨rfl,k1⟩
 have k:=hB0.trans (k1.mono hB0.size)
 clear k1 hB0 hb0 c
 go_wp2_with fail
 refine (hC.out _ k).mono ?_
 rintro e w2 ⟨v2,rfl,h2,k2⟩
 have k3:=k.trans (k2.mono k.size)
 have H2:=Lib.hid (h2.mono k.size)
 clear k k2 hC h2
 go_wp2_with fail
 go_returns
 exact ⟨_,rfl,H2.out,k3⟩
theorem atoms_clone (v:Value) (l:List At) (w:World) (h:Ats w v l) (hl:l.length ≤ 60000)  :
  Calls Tryz.prog 168 #[v] w fun e w'=>∃ v':Value,e = .returned v' ∧ Hi w.heap.size w' (fun u=>Ats u v' l) ∧ Below w.heap.size w w':=by
 refine (cloneAtoms_any v l w h hl ).mono ?_
 rintro e w' ⟨v1,rfl,o1,k1⟩
 exact ⟨_,rfl,hi_ats o1 (by omega),k1⟩
set_option maxRecDepth 100000 in
set_option maxHeartbeats 2000000 in
theorem ofAtoms_any (v:Value) (l:List At) (w:World) (h:Ats w v l) (hl:l.length ≤ 60000)  :
  Calls Tryz.prog 124 #[v] w fun e w'=>∃ iv,e = .returned (.agg #[iv]) ∧ IsI iv ∧ VAt w.heap.size w' iv (.atoms l) ∧ Below w.heap.size w w':=by
 have hb0:=Blk.Is.new w 97 #[.nilIface]
 have hB0:Below w.heap.size w (w.alloc (.cells #[.nilIface] 97)):=(Below.refl _ _).alloc (Nat.le_refl _) _
 have hs0:(w.alloc (.cells #[.nilIface] 97)).heap.size = w.heap.size + 1:=by simp
 have c:=atoms_clone v l _ (h.below hB0) hl 
 rw [hs0] at c
 obtain ⟨a0,b0,rfl⟩:=h.shape
 clear h
 go_enter Tryz.func124,Tryz.ntmps124
 go_wp2_with fail
 refine c.mono ?_
 rintro e W ⟨v1,rfl,h1,kb⟩
 obtain ⟨a1,b1,rfl⟩:=h1.here.shape
 have hi:Blk.Is W w.heap.size 97 #[.nilIface]:=(kb.block _ (by omega)).trans hb0
 have hc:=hi.at (i:=0) rfl
 have hf:=hi.free 0
 have h9:=(hi.set 0 (.iface 28 (.slice a1 l.length b1))).at (i:=0) (v:=.iface 28 (.slice a1 l.length b1)) rfl
 have k:Below w.heap.size w (W.setCell ⟨w.heap.size,0,none⟩ (.iface 28 (.slice a1 l.length b1))):=(hB0.trans (kb.mono (by omega))).setCell (Nat.le_refl _) _
 have HA:=Lib.hid ((h1.on ((Blk.Chg.refl _ W).setAt (b:=w.heap.size) (o:=0) (u:=.iface 28 (.slice a1 l.length b1)) (Nat.lt_succ_self _))).mono (Nat.le_succ _))
 clear kb hB0 hb0 hi h1 c
 generalize l.length = N at *
 go_wp2_with fail
 refine bodyPost_ret (v:=.agg #[.iface 28 (.slice a1 N b1)]) ?_ rfl ?_
 ·simp [results,Tryz.results124,go_sem,h9]
 ·exact ⟨_,rfl,.inr ⟨_,_,rfl⟩,⟨_,rfl,HA.out⟩,k⟩
set_option maxRecDepth 100000 in
set_option maxHeartbeats 2000000 in
theorem atoms_any (iv v:Value) (b:Bool) (l:List At) (hI:IsI iv) (e1:asT 28 (.slice none 0 0) iv = v) (e2:asB 28 iv = b) (w:World) (h:Ats w v l) (hl:l.length ≤ 60000)  :
  Calls Tryz.prog 116 #[.agg #[iv]] w fun e w'=>∃ u,e = .returned (.tuple #[u,.bool b]) ∧ Hi w.heap.size w' (fun z=>Ats z u l) ∧ Below w.heap.size w w':=by
 have hb0:=(Blk.Is.new w 97 #[iv]).at (i:=0) rfl
 have hB0:Below w.heap.size w (w.alloc (.cells #[iv] 97)):=(Below.refl _ _).alloc (Nat.le_refl _) _
 have c:=atomsM_any iv hI (w.alloc (.cells #[iv] 97))
 rw [e1,e2] at c
 have hc:=fun u k=>atoms_clone v l u (h.below k) hl 
 obtain ⟨a0,b0,rfl⟩:=h.shape
 clear h e1 e2
 generalize l.length = N at *
 have hC:=Lib.hid hc
 clear hc
 go_enter Tryz.func116,Tryz.ntmps116
 go_wp2_with fail
 refine c.mono ?_
 rintro e w1 ⟨rfl,k1⟩
 have k:=hB0.trans (k1.mono hB0.size)
 clear k1 hB0 hb0 c
 go_wp2_with fail
 refine (hC.out _ k).mono ?_
 rintro e w2 ⟨v2,rfl,h2,k2⟩
 have k3:=k.trans (k2.mono k.size)
 have H2:=Lib.hid (h2.mono k.size)
 clear k k2 hC h2
 go_wp2_with fail
 go_returns
 exact ⟨_,rfl,H2.out,k3⟩
theorem provides_clone (v:Value) (l:List Pv) (w:World) (h:Pvs w v l) (hl:l.length ≤ 60000)  :
  Calls Tryz.prog 170 #[v] w fun e w'=>∃ v':Value,e = .returned v' ∧ Hi w.heap.size w' (fun u=>Pvs u v' l) ∧ Below w.heap.size w w':=by
 refine (cloneProvides_any v l w h hl ).mono ?_
 rintro e w' ⟨v1,rfl,o1,k1⟩
 exact ⟨_,rfl,hi_pvs o1 (by omega),k1⟩
set_option maxRecDepth 100000 in
set_option maxHeartbeats 2000000 in
theorem ofProvides_any (v:Value) (l:List Pv) (w:World) (h:Pvs w v l) (hl:l.length ≤ 60000)  :
  Calls Tryz.prog 125 #[v] w fun e w'=>∃ iv,e = .returned (.agg #[iv]) ∧ IsI iv ∧ VAt w.heap.size w' iv (.provs l) ∧ Below w.heap.size w w':=by
 have hb0:=Blk.Is.new w 97 #[.nilIface]
 have hB0:Below w.heap.size w (w.alloc (.cells #[.nilIface] 97)):=(Below.refl _ _).alloc (Nat.le_refl _) _
 have hs0:(w.alloc (.cells #[.nilIface] 97)).heap.size = w.heap.size + 1:=by simp
 have c:=provides_clone v l _ (h.below hB0) hl 
 rw [hs0] at c
 obtain ⟨a0,b0,rfl⟩:=h.shape
 clear h
 go_enter Tryz.func125,Tryz.ntmps125
 go_wp2_with fail
 refine c.mono ?_
 rintro e W ⟨v1,rfl,h1,kb⟩
 obtain ⟨a1,b1,rfl⟩:=h1.here.shape
 have hi:Blk.Is W w.heap.size 97 #[.nilIface]:=(kb.block _ (by omega)).trans hb0
 have hc:=hi.at (i:=0) rfl
 have hf:=hi.free 0
 have h9:=(hi.set 0 (.iface 29 (.slice a1 l.length b1))).at (i:=0) (v:=.iface 29 (.slice a1 l.length b1)) rfl
 have k:Below w.heap.size w (W.setCell ⟨w.heap.size,0,none⟩ (.iface 29 (.slice a1 l.length b1))):=(hB0.trans (kb.mono (by omega))).setCell (Nat.le_refl _) _
 have HA:=Lib.hid ((h1.on ((Blk.Chg.refl _ W).setAt (b:=w.heap.size) (o:=0) (u:=.iface 29 (.slice a1 l.length b1)) (Nat.lt_succ_self _))).mono (Nat.le_succ _))
 clear kb hB0 hb0 hi h1 c
 generalize l.length = N at *
 go_wp2_with fail
 refine bodyPost_ret (v:=.agg #[.iface 29 (.slice a1 N b1)]) ?_ rfl ?_
 ·simp [results,Tryz.results125,go_sem,h9]
 ·exact ⟨_,rfl,.inr ⟨_,_,rfl⟩,⟨_,rfl,HA.out⟩,k⟩
set_option maxRecDepth 100000 in
set_option maxHeartbeats 2000000 in
theorem provides_any (iv v:Value) (b:Bool) (l:List Pv) (hI:IsI iv) (e1:asT 29 (.slice none 0 0) iv = v) (e2:asB 29 iv = b) (w:World) (h:Pvs w v l) (hl:l.length ≤ 60000)  :
  Calls Tryz.prog 117 #[.agg #[iv]] w fun e w'=>∃ u,e = .returned (.tuple #[u,.bool b]) ∧ Hi w.heap.size w' (fun z=>Pvs z u l) ∧ Below w.heap.size w w':=by
 have hb0:=(Blk.Is.new w 97 #[iv]).at (i:=0) rfl
 have hB0:Below w.heap.size w (w.alloc (.cells #[iv] 97)):=(Below.refl _ _).alloc (Nat.le_refl _) _
 have c:=providesM_any iv hI (w.alloc (.cells #[iv] 97))
 rw [e1,e2] at c
 have hc:=fun u k=>provides_clone v l u (h.below k) hl 
 obtain ⟨a0,b0,rfl⟩:=h.shape
 clear h e1 e2
 generalize l.length = N at *
 have hC:=Lib.hid hc
 clear hc
 go_enter Tryz.func117,Tryz.ntmps117
 go_wp2_with fail
 refine c.mono ?_
 rintro e w1 ⟨rfl,k1⟩
 have k:=hB0.trans (k1.mono hB0.size)
 clear k1 hB0 hb0 c
 go_wp2_with fail
 refine (hC.out _ k).mono ?_
 rintro e w2 ⟨v2,rfl,h2,k2⟩
 have k3:=k.trans (k2.mono k.size)
 have H2:=Lib.hid (h2.mono k.size)
 clear k k2 hC h2
 go_wp2_with fail
 go_returns
 exact ⟨_,rfl,H2.out,k3⟩
end Va
end Go.Proofs.YthmpepnikmdjpaaGreatDoor

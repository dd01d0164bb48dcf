/-
Write: a value as a text; the reference's Write. Words and trimmed texts, by lists of bytes. The library's FieldsFunc and TrimFunc at white space are the words, and the trimmed text, by bytes.
-/
import Derived.Test.YthmpepnikmdjpaaGreatDoorCValSort
import Derived.Test.YthmpepnikmdjpaaGreatDoorShelf
import Derived.Test.YthmpepnikmdjpaaGreatDoorCRelWriteA
import Derived.Test.YthmpepnikmdjpaaGreatDoorCRelWriteP
import Derived.Lib.AppendIntMem
import Derived.Deep.QuietTactic
import Derived.Test.YthmpepnikmdjpaaGreatDoorCTextSmallK
import Derived.Lib.TrimUEq
import Derived.Lib.FieldsP
namespace Go.Proofs.YthmpepnikmdjpaaGreatDoor
open Go.RowKit
set_option linter.unusedSimpArgs false
set_option linter.unusedVariables false
namespace Va
open Ver (Bs li li_len S S_self S_size S_li)
open Rl (At Pv Ats Pvs Clss Cls Vars LimA LimP LimC text atoms provs pvA)
def wrB (s:ByteArray) (n:Nat):Bool:=!(s.toList == []) || decide (n = 0)
def wrT:Vl → ByteArray
 | .none=>⟨#[]⟩
 | .text s=>s
 | .count n=>⟨(Lib.itoa n).toArray⟩
 | .yes b=>if b then yesT else noT
 | .clauses l=>S (text l)
 | .atoms l=>S (atoms l)
 | .provs l=>S (provs l)
def wrK:Vl → Bool
 | .none=>false
 | .clauses l=>wrB (S (text l)) l.length
 | .atoms l=>wrB (S (atoms l)) l.length
 | .provs l=>wrB (S (provs l)) l.length
 | _=>true
def Vl.Lim (x:Vl):Prop:=LimC x.cls ∧ LimA x.ats ∧ LimP x.pvs ∧ (Lit.int .i64 x.cnt).wf = true
def Pow (w : World) : Prop := Lib.TabIs Tryz.prog w "internal/strconv.uint64pow10" .u64 Lib.pow10Tab
theorem Pow.on {w w':World} (h:Pow w) (hb:Below w.heap.size w w'):Pow w':=Lib.tabBelow_of_tabIs h w' hb
theorem below_grow (w:World) (os:Array Obj):Below w.heap.size w (Go.Sort.grow w os) :=
 ⟨rfl,rfl,rfl,by simp [Go.Sort.grow],fun k hk=>by simp [Go.Sort.grow,Array.getElem?_append_left hk]⟩
set_option maxRecDepth 100000 in
theorem itoa_any (n:Int) (hn:(Lit.int .i64 n).wf = true) (w:World) (hp:Pow w) :
  Calls Tryz.prog 214 #[.int .i64 n] w fun e w'=>e = .returned (.string ⟨(Lib.itoa n).toArray⟩) ∧ Below w.heap.size w w':=by
 have hb:-9223372036854775808 ≤ n ∧ n ≤ 9223372036854775807:=by
  simp [Lit.wf,IntKind.min,IntKind.max,IntKind.signed,IntKind.bits] at hn
  omega
 refine (Tryz.strconv_Itoa n hb.1 hb.2 w hp).mono ?_
 rintro e w' ⟨rfl,k,os,rfl⟩
 refine ⟨rfl,?_⟩
 have h1:=below_drewN w k
 exact h1.trans (below_grow (w.drewN k) os)
set_option maxRecDepth 100000 in
theorem written_any (s:ByteArray) (n:Nat) (w:World):Calls Tryz.prog 216 #[.string s,.int .i64 n] w fun e w'=>e = .returned (.tuple #[.string s,.bool (wrB s n)]) ∧ w' = w:=by
 by_cases h1:s.toList = []
 ·have e1:(s.toList == []) = true:=by rw [h1]; rfl
  by_cases h2:n = 0
  ·subst h2
   have hr:wrB s 0 = true:=by unfold wrB; rw [e1]; rfl
   rw [hr]
   go_enter Tryz.func216,Tryz.ntmps216
   go_wp2_with fail
   go_returns
   exact ⟨rfl,rfl⟩
  ·have hr:wrB s n = false:=by unfold wrB; rw [e1,decide_eq_false h2]; rfl
   have e2:((n:Int) == 0) = false:=by simp [h2]
   rw [hr]
   go_enter Tryz.func216,Tryz.ntmps216
   go_wp2_with fail
   go_returns
   exact ⟨rfl,rfl⟩
 ·have e1:(s.toList == []) = false:=beq_eq_false_iff_ne.2 h1
  have hr:wrB s n = true:=by unfold wrB; rw [e1]; rfl
  rw [hr]
  go_enter Tryz.func216,Tryz.ntmps216
  go_wp2_with fail
  go_returns
  exact ⟨rfl,rfl⟩
theorem writeYes_any (b:Bool) (w:World):Calls Tryz.prog 215 #[.bool b] w fun e w'=>e = .returned (.string (if b then yesT else noT)) ∧ w' = w:=by
 cases b
 all_goals
  unfold yesT noT
  go_enter Tryz.func215,Tryz.ntmps215
  go_wp2_with fail
  go_ret
  exact ⟨rfl,rfl⟩
set_option maxRecDepth 100000 in
set_option maxHeartbeats 4000000 in
theorem writeM_none  (w:World):Calls Tryz.prog 177 #[.agg #[.nilIface]] w fun e w'=>e = .returned (.tuple #[.string ⟨#[]⟩,.bool false]) ∧ Below w.heap.size w w':=by
 have hI:IsI (.nilIface):=.inl rfl
 have t1:=as_text hI
 have t2:=as_count hI
 have t3:=as_yes hI
 have t4:=as_clauses hI
 have t5:=as_atoms hI
 have t6:=as_provides hI
 simp [asT,asB] at t1 t2 t3 t4 t5 t6
 have hc0:=(Blk.Is.new w 97 #[.nilIface]).at (i:=0) rfl
 have hB0:Below w.heap.size w (w.alloc (.cells #[.nilIface] 97)):=(Below.refl _ _).alloc (Nat.le_refl _) _
 clear hI
 go_enter Tryz.func177,Tryz.ntmps177
 go_wp2_with fail
 go_returns
 exact ⟨rfl,hB0⟩
set_option maxRecDepth 100000 in
set_option maxHeartbeats 4000000 in
theorem writeM_text (s:ByteArray) (w:World):Calls Tryz.prog 177 #[.agg #[.iface 9 (.string s)]] w fun e w'=>e = .returned (.tuple #[.string s,.bool true]) ∧ Below w.heap.size w w':=by
 have hI:IsI (.iface 9 (.string s)):=.inr ⟨_,_,rfl⟩
 have t1:=as_text hI
 have t2:=as_count hI
 have t3:=as_yes hI
 have t4:=as_clauses hI
 have t5:=as_atoms hI
 have t6:=as_provides hI
 simp [asT,asB] at t1 t2 t3 t4 t5 t6
 have hc0:=(Blk.Is.new w 97 #[.iface 9 (.string s)]).at (i:=0) rfl
 have hB0:Below w.heap.size w (w.alloc (.cells #[.iface 9 (.string s)] 97)):=(Below.refl _ _).alloc (Nat.le_refl _) _
 clear hI
 go_enter Tryz.func177,Tryz.ntmps177
 go_wp2_with fail
 go_returns
 exact ⟨rfl,hB0⟩
set_option maxRecDepth 100000 in
set_option maxHeartbeats 4000000 in
theorem writeM_count (n:Int) (hn:(Lit.int .i64 n).wf = true) (w:World) (hp:Pow w):Calls Tryz.prog 177 #[.agg #[.iface 3 (.int .i64 n)]] w fun e w'=>e = .returned (.tuple #[.string ⟨(Lib.itoa n).toArray⟩,.bool true]) ∧ Below w.heap.size w w':=by
 have hI:IsI (.iface 3 (.int .i64 n)):=.inr ⟨_,_,rfl⟩
 have t1:=as_text hI
 have t2:=as_count hI
 have t3:=as_yes hI
 have t4:=as_clauses hI
 have t5:=as_atoms hI
 have t6:=as_provides hI
 simp [asT,asB] at t1 t2 t3 t4 t5 t6
 have hc0:=(Blk.Is.new w 97 #[.iface 3 (.int .i64 n)]).at (i:=0) rfl
 have hB0:Below w.heap.size w (w.alloc (.cells #[.iface 3 (.int .i64 n)] 97)):=(Below.refl _ _).alloc (Nat.le_refl _) _
 have c:=itoa_any n hn _ (hp.on hB0)
 clear hI hp hn
 generalize (⟨(Lib.itoa n).toArray⟩:ByteArray) = T at *
 go_enter Tryz.func177,Tryz.ntmps177
 go_wp2_with fail
 refine c.mono ?_
 rintro e w1 ⟨rfl,k1⟩
 have b1:=hB0.trans (k1.mono hB0.size)
 clear c k1 hB0 hc0
 go_wp2_with fail
 go_returns
 exact ⟨rfl,b1⟩
set_option maxRecDepth 100000 in
set_option maxHeartbeats 4000000 in
theorem writeM_yes (b:Bool) (w:World):Calls Tryz.prog 177 #[.agg #[.iface 4 (.bool b)]] w fun e w'=>e = .returned (.tuple #[.string (if b then yesT else noT),.bool true]) ∧ Below w.heap.size w w':=by
 have hI:IsI (.iface 4 (.bool b)):=.inr ⟨_,_,rfl⟩
 have t1:=as_text hI
 have t2:=as_count hI
 have t3:=as_yes hI
 have t4:=as_clauses hI
 have t5:=as_atoms hI
 have t6:=as_provides hI
 simp [asT,asB] at t1 t2 t3 t4 t5 t6
 have hc0:=(Blk.Is.new w 97 #[.iface 4 (.bool b)]).at (i:=0) rfl
 have hB0:Below w.heap.size w (w.alloc (.cells #[.iface 4 (.bool b)] 97)):=(Below.refl _ _).alloc (Nat.le_refl _) _
 have c:=writeYes_any b (w.alloc (.cells #[.iface 4 (.bool b)] 97))
 generalize (if b then yesT else noT) = T at *
 clear hI
 go_enter Tryz.func177,Tryz.ntmps177
 go_wp2_with fail
 refine c.mono ?_
 rintro e w1 ⟨rfl,rfl⟩
 clear c hc0
 go_wp2_with fail
 go_returns
 exact ⟨rfl,hB0⟩
set_option maxRecDepth 100000 in
set_option maxHeartbeats 4000000 in
theorem writeM_clauses (v:Value) (l:List (List At)) (w:World) (h:Clss w v l) (hL:LimC l) (hv:Vars w):Calls Tryz.prog 177 #[.agg #[.iface 27 v]] w fun e w'=>e = .returned (.tuple #[.string (S (text l)),.bool (wrB (S (text l)) l.length)]) ∧ Below w.heap.size w w':=by
 obtain ⟨a0,b0,rfl⟩:=h.shape
 have hB1:Below w.heap.size w (w.alloc (.cells #[.iface 27 (.slice a0 l.length b0)] 97)):=(Below.refl _ _).alloc (Nat.le_refl _) _
 have c:=Rl.Text_any _ l _ (h.below hB1) hL (hv.on hB1)
 obtain ⟨N,hN⟩:∃ N,l.length = N:=⟨_,rfl⟩
 rw [hN] at c hB1 ⊢
 clear h hL hv hN hB1
 have hI:IsI (.iface 27 (.slice a0 N b0)):=.inr ⟨_,_,rfl⟩
 have t1:=as_text hI
 have t2:=as_count hI
 have t3:=as_yes hI
 have t4:=as_clauses hI
 have t5:=as_atoms hI
 have t6:=as_provides hI
 simp [asT,asB] at t1 t2 t3 t4 t5 t6
 have hc0:=(Blk.Is.new w 97 #[.iface 27 (.slice a0 N b0)]).at (i:=0) rfl
 have hB0:Below w.heap.size w (w.alloc (.cells #[.iface 27 (.slice a0 N b0)] 97)):=(Below.refl _ _).alloc (Nat.le_refl _) _
 generalize S (text l) = T at *
 have cw:=fun w=>written_any T N w
 clear hI
 generalize wrB T N = G at *
 go_enter Tryz.func177,Tryz.ntmps177
 go_wp2_with fail
 refine c.mono ?_
 rintro e w1 ⟨rfl,k1⟩
 have b1:=hB0.trans (k1.mono hB0.size)
 clear c k1 hB0 hc0
 go_wp2_with fail
 refine (cw _).mono ?_
 rintro e w2 ⟨rfl,rfl⟩
 clear cw
 go_wp2_with fail
 go_returns
 exact ⟨rfl,b1⟩
set_option maxRecDepth 100000 in
set_option maxHeartbeats 4000000 in
theorem writeM_atoms (v:Value) (l:List At) (w:World) (h:Ats w v l) (hL:LimA l) (hv:Vars w):Calls Tryz.prog 177 #[.agg #[.iface 28 v]] w fun e w'=>e = .returned (.tuple #[.string (S (atoms l)),.bool (wrB (S (atoms l)) l.length)]) ∧ Below w.heap.size w w':=by
 obtain ⟨a0,b0,rfl⟩:=h.shape
 have hB1:Below w.heap.size w (w.alloc (.cells #[.iface 28 (.slice a0 l.length b0)] 97)):=(Below.refl _ _).alloc (Nat.le_refl _) _
 have c:=Rl.Atoms_any _ l _ (h.below hB1) hL (hv.on hB1)
 obtain ⟨N,hN⟩:∃ N,l.length = N:=⟨_,rfl⟩
 rw [hN] at c hB1 ⊢
 clear h hL hv hN hB1
 have hI:IsI (.iface 28 (.slice a0 N b0)):=.inr ⟨_,_,rfl⟩
 have t1:=as_text hI
 have t2:=as_count hI
 have t3:=as_yes hI
 have t4:=as_clauses hI
 have t5:=as_atoms hI
 have t6:=as_provides hI
 simp [asT,asB] at t1 t2 t3 t4 t5 t6
 have hc0:=(Blk.Is.new w 97 #[.iface 28 (.slice a0 N b0)]).at (i:=0) rfl
 have hB0:Below w.heap.size w (w.alloc (.cells #[.iface 28 (.slice a0 N b0)] 97)):=(Below.refl _ _).alloc (Nat.le_refl _) _
 generalize S (atoms l) = T at *
 have cw:=fun w=>written_any T N w
 clear hI
 generalize wrB T N = G at *
 go_enter Tryz.func177,Tryz.ntmps177
 go_wp2_with fail
 refine c.mono ?_
 rintro e w1 ⟨rfl,k1⟩
 have b1:=hB0.trans (k1.mono hB0.size)
 clear c k1 hB0 hc0
 go_wp2_with fail
 refine (cw _).mono ?_
 rintro e w2 ⟨rfl,rfl⟩
 clear cw
 go_wp2_with fail
 go_returns
 exact ⟨rfl,b1⟩
set_option maxRecDepth 100000 in
set_option maxHeartbeats 4000000 in
theorem writeM_provs (v:Value) (l:List Pv) (w:World) (h:Pvs w v l) (hL:LimP l) (hv:Vars w):Calls Tryz.prog 177 #[.agg #[.iface 29 v]] w fun e w'=>e = .returned (.tuple #[.string (S (provs l)),.bool (wrB (S (provs l)) l.length)]) ∧ Below w.heap.size w w':=by
 obtain ⟨a0,b0,rfl⟩:=h.shape
 have hB1:Below w.heap.size w (w.alloc (.cells #[.iface 29 (.slice a0 l.length b0)] 97)):=(Below.refl _ _).alloc (Nat.le_refl _) _
 have c:=Rl.Provides_any _ l _ (h.below hB1) hL (hv.on hB1)
 obtain ⟨N,hN⟩:∃ N,l.length = N:=⟨_,rfl⟩
 rw [hN] at c hB1 ⊢
 clear h hL hv hN hB1
 have hI:IsI (.iface 29 (.slice a0 N b0)):=.inr ⟨_,_,rfl⟩
 have t1:=as_text hI
 have t2:=as_count hI
 have t3:=as_yes hI
 have t4:=as_clauses hI
 have t5:=as_atoms hI
 have t6:=as_provides hI
 simp [asT,asB] at t1 t2 t3 t4 t5 t6
 have hc0:=(Blk.Is.new w 97 #[.iface 29 (.slice a0 N b0)]).at (i:=0) rfl
 have hB0:Below w.heap.size w (w.alloc (.cells #[.iface 29 (.slice a0 N b0)] 97)):=(Below.refl _ _).alloc (Nat.le_refl _) _
 generalize S (provs l) = T at *
 have cw:=fun w=>written_any T N w
 clear hI
 generalize wrB T N = G at *
 go_enter Tryz.func177,Tryz.ntmps177
 go_wp2_with fail
 refine c.mono ?_
 rintro e w1 ⟨rfl,k1⟩
 have b1:=hB0.trans (k1.mono hB0.size)
 clear c k1 hB0 hc0
 go_wp2_with fail
 refine (cw _).mono ?_
 rintro e w2 ⟨rfl,rfl⟩
 clear cw
 go_wp2_with fail
 go_returns
 exact ⟨rfl,b1⟩
theorem writeM_any {B:Nat} {iv:Value} {x:Vl} {w:World} (h:VAt B w iv x) (hL:x.Lim) (hv:Vars w) (hp:Pow w) :
  Calls Tryz.prog 177 #[.agg #[iv]] w fun e w'=>e = .returned (.tuple #[.string (wrT x),.bool (wrK x)]) ∧ Below w.heap.size w w':=by
 cases x with
 | none=>obtain rfl:=h; exact writeM_none w
 | text s=>obtain rfl:=h; exact writeM_text s w
 | count n=>obtain rfl:=h; exact writeM_count n hL.2.2.2 w hp
 | yes b=>obtain rfl:=h; exact writeM_yes b w
 | clauses l=>obtain ⟨v,rfl,hh⟩:=h; exact writeM_clauses v l w hh.here hL.1 hv
 | atoms l=>obtain ⟨v,rfl,hh⟩:=h; exact writeM_atoms v l w hh.here hL.2.1 hv
 | provs l=>obtain ⟨v,rfl,hh⟩:=h; exact writeM_provs v l w hh.here hL.2.2.1 hv
set_option maxRecDepth 100000 in
set_option maxHeartbeats 4000000 in
theorem write_any {B:Nat} {iv:Value} {x:Vl} {w:World} (h:VAt B w iv x) (hL:x.Lim) (hv:Vars w) (hp:Pow w) :
  Calls Tryz.prog 126 #[.agg #[iv]] w fun e w'=>e = .returned (.tuple #[.string (wrT x),.bool (wrK x)]) ∧ Below w.heap.size w w':=by
 have hb0:=(Blk.Is.new w 97 #[iv]).at (i:=0) rfl
 have hB0:Below w.heap.size w (w.alloc (.cells #[iv] 97)):=(Below.refl _ _).alloc (Nat.le_refl _) _
 have c:=writeM_any (h.below hB0) hL (hv.on hB0) (hp.on hB0)
 generalize wrT x = T at *
 generalize wrK x = G at *
 clear h hL hv hp
 go_enter Tryz.func126,Tryz.ntmps126
 go_wp2_with fail
 refine c.mono ?_
 rintro e w' ⟨rfl,kb⟩
 have k:=hB0.trans (kb.mono hB0.size)
 clear kb hB0 hb0 c
 go_wp2_with fail
 go_returns
 exact ⟨rfl,k⟩
end Va
end Go.Proofs.YthmpepnikmdjpaaGreatDoor
namespace Go.Proofs.YthmpepnikmdjpaaGreatDoor
open Go.RowKit
set_option linter.unusedSimpArgs false
set_option linter.unusedVariables false
namespace Va
open Ver (Bs li li_len S S_self S_size S_li)
open Rl (At Pv Ats Pvs Clss Cls Vars LimA LimP LimC text atoms provs pvA wrt wCl wAt)
end Va
end Go.Proofs.YthmpepnikmdjpaaGreatDoor
namespace Go.Proofs.YthmpepnikmdjpaaGreatDoor
set_option linter.unusedSimpArgs false
set_option linter.unusedVariables false
namespace Txt
def W (c:UInt8):Bool:=wht c.toNat
def White (x:List UInt8):Prop:=∀ c ∈ x,W c = true
def go (cur:List UInt8):List UInt8 → List (List UInt8)
 | []=>if cur = [] then [] else [cur]
 | c :: l=>if W c = true then (if cur = [] then go [] l else cur :: go [] l) else go (cur ++ [c]) l
def wordsL (l:List UInt8):List (List UInt8):=go [] l
def close (cur:List UInt8):List (List UInt8):=if cur = [] then [] else [cur]
def join:List (List UInt8) → List UInt8
 | []=>[]
 | [x]=>x
 | x :: y :: r=>x ++ 32 :: join (y :: r)
def trimLeft:List UInt8 → List UInt8
 | []=>[]
 | c :: l=>if W c = true then trimLeft l else c :: l
def trimRight (l:List UInt8):List UInt8:=(trimLeft l.reverse).reverse
def trimL (l:List UInt8):List UInt8:=trimRight (trimLeft l)
theorem trimLeft_eq (l:List UInt8):∃ x,White x ∧ l = x ++ trimLeft l ∧ (trimLeft l = [] ∨ ∃ c r,trimLeft l = c :: r ∧ W c = false):=by
 induction l with
 | nil=>exact ⟨[],(fun _ h=>by cases h),rfl,.inl rfl⟩
 | cons c l ih =>
  unfold trimLeft
  by_cases hw:W c = true
  ·rw [if_pos hw]
   obtain ⟨x,h1,h2,h3⟩:=ih
   refine ⟨c :: x,fun d hd=>?_,by rw [List.cons_append,← h2],h3⟩
   rcases List.mem_cons.1 hd with rfl | hd
   ·exact hw
   ·exact h1 d hd
  ·rw [if_neg hw]
   rw [Bool.not_eq_true] at hw
   exact ⟨[],(fun _ h=>by cases h),rfl,.inr ⟨c,l,rfl,hw⟩⟩
theorem trimLeft_front {x:List UInt8} (h:White x) (l:List UInt8):trimLeft (x ++ l) = trimLeft l:=by
 induction x with
 | nil=>rfl
 | cons c x ih =>
  rw [List.cons_append]
  unfold trimLeft
  rw [if_pos (h c (.head _)),ih (fun d hd=>h d (.tail _ hd))]
  cases l <;> rfl
theorem trimLeft_keep {c:UInt8} (h:W c = false) (l:List UInt8):trimLeft (c :: l) = c :: l:=by
 unfold trimLeft; rw [h]; rfl
theorem white_rev {x:List UInt8} (h:White x):White x.reverse:=fun d hd=>h d (List.mem_reverse.1 hd)
theorem trimRight_back {x:List UInt8} (h:White x) (l:List UInt8):trimRight (l ++ x) = trimRight l:=by
 unfold trimRight
 rw [List.reverse_append,trimLeft_front (white_rev h)]
theorem trimRight_keep {c:UInt8} (h:W c = false) (l:List UInt8):trimRight (l ++ [c]) = l ++ [c]:=by
 unfold trimRight
 rw [List.reverse_append]
 show (trimLeft (c :: l.reverse)).reverse = _
 rw [trimLeft_keep h]
 simp
theorem trimRight_eq (l:List UInt8):∃ x,White x ∧ l = trimRight l ++ x ∧ (trimRight l = [] ∨ ∃ c r,trimRight l = r ++ [c] ∧ W c = false):=by
 obtain ⟨x,h1,h2,h3⟩:=trimLeft_eq l.reverse
 refine ⟨x.reverse,white_rev h1,?_,?_⟩
 ·unfold trimRight
  rw [← List.reverse_append,← h2,List.reverse_reverse]
 ·rcases h3 with h | ⟨c,r,h,hc⟩
  ·left; unfold trimRight; rw [h]; rfl
  ·right; exact ⟨c,r.reverse,by unfold trimRight; rw [h]; simp,hc⟩
end Txt
end Go.Proofs.YthmpepnikmdjpaaGreatDoor
namespace Go.Proofs.YthmpepnikmdjpaaGreatDoor
open Go.Lib
set_option linter.unusedSimpArgs false
set_option linter.unusedVariables false
namespace Txt
theorem len_list (s:ByteArray):s.data.toList.length = s.size:=by rw [Array.length_toList]; rfl
theorem drop_cons (s:ByteArray) (k:Nat) (h:k < s.size):∃ c,s.data.toList.drop k = c :: s.data.toList.drop (k + 1) ∧ c.toNat = b s k:=by
 have hl:k < s.data.toList.length:=by rw [len_list]; exact h
 refine ⟨s.data.toList[k],List.drop_eq_getElem_cons hl,?_⟩
 unfold b
 rw [dif_pos h]
 rfl
theorem W_b {s:ByteArray} {k:Nat} {c:UInt8} (h:c.toNat = b s k):W c = wht (b s k):=by unfold W; rw [h]
theorem wht_high {r:Nat} (h:128 ≤ r):wht r = false:=by unfold wht; simp; omega
theorem sz_bytes (s:ByteArray) (i:Nat) (h:128 ≤ b s i):∀ j,j < sz s i → 128 ≤ b s (i + j):=by
 intro j hj
 have o:=fun k lo hi (q:on s k lo hi = true)=>(on_iff s k lo hi).1 q
 unfold sz at hj
 simp only at hj
 rw [if_neg (by omega)] at hj
 rcases (by omega:j = 0 ∨ j = 1 ∨ j = 2 ∨ j = 3 ∨ 4 ≤ j) with rfl | rfl | rfl | rfl | hj4
 ·exact h
 all_goals
  split at hj
  ·next q=>first | omega | (have:=(o _ _ _ q.2.2).2.1; omega)
  split at hj
  ·next q=>first | omega | (have q1:=(o _ _ _ q.2.1).2.1; have q2:=(o _ _ _ q.2.2).2.1; omega)
  split at hj
  ·next q=>first | omega | (have q1:=(o _ _ _ q.2.1).2.1; have q2:=(o _ _ _ q.2.2).2.1; omega)
  split at hj
  ·next q=>first | omega | (have q1:=(o _ _ _ q.2.2.2.1).2.1; have q2:=(o _ _ _ q.2.2.2.2).2.1; omega)
  split at hj
  ·next q=>first | omega | (have q1:=(o _ _ _ q.2.1).2.1; have q2:=(o _ _ _ q.2.2.1).2.1; have q3:=(o _ _ _ q.2.2.2).2.1; omega)
  split at hj
  ·next q=>first | omega | (have q1:=(o _ _ _ q.2.1).2.1; have q2:=(o _ _ _ q.2.2.1).2.1; have q3:=(o _ _ _ q.2.2.2).2.1; omega)
  split at hj
  ·next q=>first | omega | (have q1:=(o _ _ _ q.2.2.1).2.1; have q2:=(o _ _ _ q.2.2.2.1).2.1; have q3:=(o _ _ _ q.2.2.2.2).2.1; omega)
  omega
theorem step (s:ByteArray) (k:Nat) (h:k < s.size):(wht (Utf8.decode s k).1 = true ∧ (Utf8.decode s k).2 = 1 ∧ wht (b s k) = true) ∨
  (wht (Utf8.decode s k).1 = false ∧ 1 ≤ (Utf8.decode s k).2 ∧ k + (Utf8.decode s k).2 ≤ s.size ∧ ∀ j,j < (Utf8.decode s k).2 → wht (b s (k + j)) = false):=by
 by_cases hb:b s k < 128
 ·rw [dec_low s k h hb]
  cases hw:wht (b s k)
  ·exact .inr ⟨rfl,by omega,by show k + 1 ≤ s.size; omega,fun j hj=>by
    have:j = 0:=by have:j < 1:=hj
                   omega
    subst this; exact hw⟩
  ·exact .inl ⟨rfl,rfl,rfl⟩
 ·right
  rcases dec_high s k h (by omega) with ⟨h0,hd⟩ | ⟨h1,h2,h3,h4⟩
  ·rw [hd]
   refine ⟨by decide,by omega,by show k + 1 ≤ s.size; omega,fun j hj=>?_⟩
   have:j = 0:=by have:j < 1:=hj
                  omega
   subst this; rw [Nat.add_zero]; exact wht_high (by omega)
  ·rw [h3]
   exact ⟨wht_high h4,by omega,h2,fun j hj=>wht_high (sz_bytes s k (by omega) j hj)⟩
theorem ext_list (s:ByteArray) (i j:Nat) (h:j ≤ s.size):(s.extract i j).data.toList = (s.data.toList.drop i).take (j - i):=by
 simp [ByteArray.data_extract,List.extract_eq_take_drop]
theorem left_from (s:ByteArray):∀ f pos,s.size ≤ pos + f → pos ≤ s.size →
  (idxFuncFrom wht false s f pos = -1 ∧ trimLeft (s.data.toList.drop pos) = []) ∨ ∃ n:Nat,n < s.size ∧ idxFuncFrom wht false s f pos = (n:Int) ∧ trimLeft (s.data.toList.drop pos) = s.data.toList.drop n:=by
 intro f
 induction f with
 | zero =>
  intro pos hf hp
  left
  rw [show pos = s.size by omega,show s.data.toList.drop s.size = [] by rw [← len_list]; exact List.drop_length]
  exact ⟨rfl,rfl⟩
 | succ f ih =>
  intro pos hf hp
  by_cases hlt:pos < s.size
  ·unfold idxFuncFrom
   rw [if_pos hlt]
   obtain ⟨c,hc,hcb⟩:=drop_cons s pos hlt
   rcases step s pos hlt with ⟨h1,h2,h3⟩ | ⟨h1,h2,h3,h4⟩
   ·rw [if_neg (by rw [h1]; simp),h2,hc]
    have e:trimLeft (c :: s.data.toList.drop (pos + 1)) = trimLeft (s.data.toList.drop (pos + 1)):=by
     conv=>lhs; unfold trimLeft
     rw [if_pos (by rw [W_b hcb]; exact h3)]
    rw [e]
    exact ih (pos + 1) (by omega) (by omega)
   ·rw [if_pos h1]
    right
    refine ⟨pos,hlt,rfl,?_⟩
    rw [hc]
    have:=h4 0 (by omega)
    rw [Nat.add_zero] at this
    exact trimLeft_keep (by rw [W_b hcb]; exact this) _
  ·left
   rw [idxFuncFrom_end wht false s _ pos hlt,show pos = s.size by omega,show s.data.toList.drop s.size = [] by rw [← len_list]; exact List.drop_length]
   exact ⟨rfl,rfl⟩
theorem left_list (s:ByteArray):(trimLeftF wht s).data.toList = trimLeft s.data.toList:=by
 have:=left_from s s.size 0 (by omega) (by omega)
 rw [List.drop_zero] at this
 unfold trimLeftF idxFunc
 rcases this with ⟨h1,h2⟩ | ⟨n,h0,h1,h2⟩
 ·rw [if_pos h1,h2]
 ·rw [if_neg (by omega),h1,h2,Int.toNat_natCast,ext_list s n s.size (by omega)]
  exact List.take_of_length_le (by rw [List.length_drop,len_list]; omega)
theorem getD_b (s:ByteArray) (k:Nat) (h:k < s.size):(s.data.toList.getD k 0).toNat = b s k:=by
 rw [getD_get!',b_get s k h]
theorem take_snoc (s:ByteArray) (i:Nat) (h:i < s.size):∃ c,s.data.toList.take (i + 1) = s.data.toList.take i ++ [c] ∧ c.toNat = b s i:=by
 have hl:i < s.data.toList.length:=by rw [len_list]; exact h
 refine ⟨s.data.toList[i],by rw [List.take_succ_eq_append_getElem hl],?_⟩
 unfold b
 rw [dif_pos h]
 rfl
theorem right_from (s:ByteArray):∀ f i,i ≤ f → i ≤ s.size → OpenAt s.data.toList i →
  (lastIdxFuncFrom wht false s f i = -1 ∧ trimRight (s.data.toList.take i) = []) ∨
  ∃ n:Nat,n < s.size ∧ lastIdxFuncFrom wht false s f i = (n:Int) ∧ n + (Utf8.decode s n).2 ≤ s.size ∧ trimRight (s.data.toList.take i) = s.data.toList.take (n + (Utf8.decode s n).2):=by
 intro f
 induction f with
 | zero =>
  intro i hf hp _
  left
  rw [show i = 0 by omega]
  exact ⟨rfl,rfl⟩
 | succ f ih =>
  intro i hf hp ho
  by_cases h0:0 < i
  ·unfold lastIdxFuncFrom
   rw [if_pos h0]
   have hil:i ≤ s.data.toList.length:=by rw [len_list]; exact hp
   have hfw:=fw_width s.data.toList i h0 hil ho
   have hlc:=last_cases s.data.toList i h0 hil
   obtain ⟨m,rfl⟩:∃ m,i = m + 1:=⟨i - 1,by omega⟩
   rw [Nat.add_sub_cancel] at hlc
   have hgb:=getD_b s m (by omega)
   rw [hgb] at hlc
   obtain ⟨c,hc,hcb⟩:=take_snoc s m (by omega)
   have hwid:wht (decodeLastL (s.data.toList.take (m + 1))).1 = wht (b s m) ∧ (wht (b s m) = true → (decodeLastL (s.data.toList.take (m + 1))).2 = 1) ∧ (decodeLastL (s.data.toList.take (m + 1))).2 ≤ m + 1 ∧ 1 ≤ (decodeLastL (s.data.toList.take (m + 1))).2:=by
    have hw:=decodeLastL_width (s.data.toList.take (m + 1)) (by rw [List.length_take]; omega)
    rw [List.length_take] at hw
    refine ⟨?_,?_,by omega,hw.1⟩
    ·rcases hlc with ⟨ha,hd⟩ | ⟨ha,hd⟩ | ⟨ha,st,hst,hd,hsum⟩
     ·rw [hd]
     ·rw [hd,wht_high (show 128 ≤ ((65533,1):Nat × Nat).1 by decide),wht_high ha]
     ·rw [wht_high ha]
      rw [hd]
      have:128 ≤ (decodeL ((s.data.toList.take (m + 1)).drop st)).1:=by
       have hsz:(⟨((s.data.toList.take (m + 1)).drop st).toArray⟩:ByteArray).size = m + 1 - st:=by
        show ((s.data.toList.take (m + 1)).drop st).toArray.size = _
        rw [List.size_toArray,List.length_drop,List.length_take]; omega
       generalize hq:(⟨((s.data.toList.take (m + 1)).drop st).toArray⟩:ByteArray) = q at hsz
       have hdq:decodeL ((s.data.toList.take (m + 1)).drop st) = Utf8.decode q 0:=by unfold decodeL; rw [hq]
       rw [hdq] at hsum ⊢
       by_cases hlow:b q 0 < 128
       ·exfalso
        rw [dec_low q 0 (by omega) hlow] at hsum
        have hsm:st = m:=by have:st + 1 = m + 1:=hsum
                            omega
        have e:b q 0 = b s m:=by
         have:=b_get q 0 (by omega)
         rw [← this,← getD_get!',← hq]
         show (((s.data.toList.take (m + 1)).drop st).toArray.toList.getD 0 0).toNat = _
         rw [List.toList_toArray,getD_dropU,Nat.add_zero,hsm,getD_takeU _ _ _ (by omega)]; exact hgb
        omega
       ·rcases dec_high q 0 (by omega) (by omega) with ⟨_,h⟩ | ⟨_,_,_,h⟩
        ·rw [h]; decide
        ·exact h
      exact wht_high this
    ·intro hw1
     rcases hlc with ⟨ha,hd⟩ | ⟨ha,hd⟩ | ⟨ha,st,hst,hd,hsum⟩
     ·rw [hd]
     ·rw [hd]
     ·rw [wht_high ha] at hw1; cases hw1
   obtain ⟨hw1,hw2,hw3,hw4⟩:=hwid
   rw [hw1]
   cases hwb:wht (b s m)
   ·rw [if_pos rfl]
    right
    rw [decodeL_drop] at hfw
    refine ⟨m + 1 - (decodeLastL (s.data.toList.take (m + 1))).2,by omega,rfl,by rw [hfw]; omega,?_⟩
    rw [hfw,show m + 1 - (decodeLastL (s.data.toList.take (m + 1))).2 + (decodeLastL (s.data.toList.take (m + 1))).2 = m + 1 by omega,hc]
    exact trimRight_keep (by rw [W_b hcb]; exact hwb) _
   ·rw [if_neg (by simp),hw2 hwb,Nat.add_sub_cancel]
    have hopen:OpenAt s.data.toList m:=.inr (by
     rw [hgb]
     unfold wht at hwb
     simp at hwb
     omega)
    have e:trimRight (s.data.toList.take (m + 1)) = trimRight (s.data.toList.take m):=by
     rw [hc]
     exact trimRight_back (fun d hd=>by rw [List.mem_singleton.1 hd,W_b hcb]; exact hwb) _
    rw [e]
    exact ih m (by omega) (by omega) hopen
  ·left
   rw [show i = 0 by omega]
   exact ⟨lastIdxFuncFrom_zero wht false s _,rfl⟩
theorem right_list (s:ByteArray):(trimRightF wht s).data.toList = trimRight s.data.toList:=by
 have:=right_from s s.size s.size (by omega) (by omega) (.inl (len_list s).symm)
 rw [List.take_of_length_le (by rw [len_list]; omega)] at this
 unfold trimRightF rightEndF lastIdxFunc
 rcases this with ⟨h1,h2⟩ | ⟨n,h0,h1,hle,h2⟩
 ·rw [if_neg (by omega),h2,ext_list s 0 0 (by omega)]
  rfl
 ·rw [if_pos (by omega),h1,Int.toNat_natCast,h2]
  have hd:decodeGoB (s.extract n s.size) = Utf8.decode s n:=decode_drop s n h0
  rw [hd,ext_list s 0 _ hle]
  rfl
theorem trim_list (s:ByteArray):(trimF wht s).data.toList = trimL s.data.toList:=by
 unfold trimF trimL
 rw [right_list,left_list]
end Txt
end Go.Proofs.YthmpepnikmdjpaaGreatDoor

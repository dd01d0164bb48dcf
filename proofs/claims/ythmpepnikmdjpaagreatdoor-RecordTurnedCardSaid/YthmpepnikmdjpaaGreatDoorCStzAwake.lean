/-
The mathematics of packages and entries: what they are, which may be, what a stanza tells, which stanza tells it. What has been read, written and read again, is the same: the mathematics. Why a field, why stanzas may not be printed. The printer: what it holds, one more line, one more field. Print. A stanza that every program must know.
-/
import Derived.Test.YthmpepnikmdjpaaGreatDoorCValRead
import Derived.Test.YthmpepnikmdjpaaGreatDoorCWordsGo
import Derived.Test.YthmpepnikmdjpaaGreatDoorCStzFold
import Derived.Test.YthmpepnikmdjpaaGreatDoorCRelWriteA
import Derived.Test.YthmpepnikmdjpaaGreatDoorCStzGood
import Derived.StillTailTactics
import Derived.Test.YthmpepnikmdjpaaGreatDoorCRow
import Derived.Lib.SlBytesConst
namespace Go.Proofs.YthmpepnikmdjpaaGreatDoor
open Go.RowKit
set_option linter.unusedSimpArgs false
set_option linter.unusedVariables false
namespace Rc
open Ver (Bs li S sameV)
open Rl (At Pv may nmB isV pvA)
open Va (Vl rd wrT knd)
open Stz (Fld Sz sameB sameS foldL PR)
structure Pk where
 nm:Bs
 vs:Bs
 pre:List (List At)
 dep:List (List At)
 rcm:List (List At)
 con:List At
 brk:List At
 prv:List Pv
 ess:Bool
structure En where
 pk:Pk
 cfg:Bool
 hld:Bool
def nPk:Pk:=⟨[],[],[],[],[],[],[],[],false⟩
def nEn:En:=⟨nPk,false,false⟩
/-! ### which may be -/
def mayC (l:List (List At)):Int :=
 if l.any (fun c=>decide (6 < c.length)) = true then 12
 else if 12 < l.length then 12
 else if l.all (fun c=>decide (0 < c.length) && c.all may) = true then 0 else 3
def mayA (l:List At):Int:=if 12 < l.length then 12 else if l.all may = true then 0 else 3
def mayPv (p:Pv):Bool:=may (pvA p)
def mayP (l:List Pv):Int:=if 12 < l.length then 12 else if l.all mayPv = true then 0 else 3
def orI:List Int → Int
 | []=>0
 | x :: r=>if x ≠ 0 then x else orI r
def mayK (p:Pk):Int:=if (nmB p.nm && isV p.vs) = true then orI [mayC p.pre,mayC p.dep,mayC p.rcm,mayA p.con,mayA p.brk,mayP p.prv] else 3
def eachK (l:List Pk):Int:=orI (l.map mayK)
def again (p q:Pk):Bool:=decide (p.nm = q.nm) && sameV p.vs q.vs
def twice (l:List Pk):Bool:=(List.range l.length).any fun i=>(l.take i).any (again (l.getD i nPk))
def nmsOf:List Pk → List Bs → List Bs
 | [],ns=>ns
 | p :: r,ns=>nmsOf r (if p.nm ∈ ns then ns else ns ++ [p.nm])
def mayAll (l:List Pk):Int :=
 if 24 < l.length then 12 else if eachK l ≠ 0 then eachK l else if twice l = true then 4 else if 10 < (nmsOf l []).length then 12 else 0
/-! ### what the fields have -/
abbrev Vls:=Nat → Vl
def nms:List Bs:=[[80,97,99,107,97,103,101],[86,101,114,115,105,111,110],[69,115,115,101,110,116,105,97,108],[80,114,101,45,68,101,112,101,110,100,115],[68,101,112,101,110,100,115],[82,101,99,111,109,109,101,110,100,115],[67,111,110,102,108,105,99,116,115],[66,114,101,97,107,115],[80,114,111,118,105,100,101,115],[83,116,97,116,101],[72,111,108,100]]
def nmAt (i:Nat):Bs:=nms.getD i []
def isNo:Vl → Bool
 | .none=>true
 | _=>false
def no:Vls:=fun _=>.none
def keepN (xs:Vls) (nm:Bs) (x:Vl) (k:Nat):Vls:=fun i=>if i < k ∧ sameB nm (nmAt i) = true ∧ isNo (xs i) = true then x else xs i
def keep (xs:Vls) (nm:Bs) (x:Vl):Vls:=keepN xs nm x 11
def pkOf (xs:Vls):Pk:=⟨li (xs 0).txt,li (xs 1).txt,(xs 3).cls,(xs 4).cls,(xs 5).cls,(xs 6).ats,(xs 7).ats,(xs 8).pvs,(xs 2).ye⟩
def most:Int:=9223372036854775807
def furth (line:Int) (n:Nat):Int:=if most - (n:Int) < line then most else line + (n:Int)
def rdV (nm t:ByteArray):Except Int Vl:=rd (knd nm) t
def rdF (rf:ByteArray → ByteArray → Except Int Vl):Int → Vls → List Fld → Except (Int × Int) Vls
 | _,xs,[]=>.ok xs
 | line,xs,f :: r=>match rf (S f.1) (S (foldL f.2)) with
  | .error e=>.error (e,line)
  | .ok x=>rdF rf (furth line f.2.length) (keep xs f.1 x) r
def rdS (rf:ByteArray → ByteArray → Except Int Vl) (must:List Nat) (s:Sz):Except (Int × Int) Vls:=match rdF rf s.1 no s.2 with
 | .error p=>.error p
 | .ok xs=>if must.any (fun i=>isNo (xs i)) = true then .error (5,s.1) else .ok xs
def onOk {α β ε:Type} (f:α → β):Except ε α → Except ε β
 | .error e=>.error e
 | .ok x=>.ok (f x)
def ofS (s:Sz):Except (Int × Int) Pk:=onOk pkOf (rdS rdV [0,1] s)
def each {α β ε:Type} (f:α → Except ε β):List α → Except ε (List β)
 | []=>.ok []
 | x :: r=>match f x with
  | .error e=>.error e
  | .ok y=>match each f r with
   | .error e=>.error e
   | .ok ys=>.ok (y :: ys)
def whl {β:Type} (of:Sz → Except (Int × Int) β) (my:List β → Int) (l:List Sz):Except (Int × Int) (List β):=match each of l with
 | .error p=>.error p
 | .ok ys=>if my ys ≠ 0 then .error (my ys,0) else .ok ys
def Told {β:Type} (of:Sz → Except (Int × Int) β) (my:List β → Int) (s:ByteArray) (o:Except (Int × Int) (List β)):Prop :=
 ∃ l er n,PR s l er n ∧ ((er ≠ 0 ∧ o = .error ((er:Nat),(n:Nat))) ∨ (er = 0 ∧ o = whl of my l))
theorem Told.uniq {β:Type} {of:Sz → Except (Int × Int) β} {my:List β → Int} {s:ByteArray} {o o':Except (Int × Int) (List β)} (h:Told of my s o) (h':Told of my s o'):o = o':=by
 obtain ⟨l,er,n,p,q⟩:=h
 obtain ⟨l',er',n',p',q'⟩:=h'
 obtain ⟨rfl,rfl,rfl⟩:=p.uniq p'
 rcases q with ⟨a,rfl⟩ | ⟨a,rfl⟩ <;> rcases q' with ⟨b,rfl⟩ | ⟨b,rfl⟩
 ·rfl
 ·exact absurd b a
 ·exact absurd a b
 ·rfl
/-! ### which stanza tells it -/
def yesV (b:Bool):Vl:=if b = true then .yes true else .none
def valsP (p:Pk):Vls
 | 0=>.text (S p.nm)
 | 1=>.text (S p.vs)
 | 2=>yesV p.ess
 | 3=>.clauses p.pre
 | 4=>.clauses p.dep
 | 5=>.clauses p.rcm
 | 6=>.atoms p.con
 | 7=>.atoms p.brk
 | 8=>.provs p.prv
 | _=>.none
def fldAt (xs:Vls) (i:Nat):List Fld:=if li (wrT (xs i)) = [] then [] else [(nmAt i,[li (wrT (xs i))])]
def fldN (xs:Vls) (k:Nat):List Fld:=(List.range k).flatMap (fldAt xs)
def flds (xs:Vls):List Fld:=fldN xs 11
end Rc
end Go.Proofs.YthmpepnikmdjpaaGreatDoor
namespace Go.Proofs.YthmpepnikmdjpaaGreatDoor
open Go.RowKit
set_option linter.unusedSimpArgs false
set_option linter.unusedVariables false
namespace Va
open Ver (Bs li li_len li_drop S S_self S_size S_li)
open Rl (At Pv Ats Pvs Clss Cls Vars LimA LimP LimC text atoms provs pvA wrt wCl wAt may whole rdC rdA rdP atom nmB isV items items_all whole_ok)
open Txt (b)
/-! ### counts -/
theorem val_pos {s:ByteArray} (h0:b s 0 ≠ 48) (hd:Txt.dgt (b s 0) = true):∀ i,1 ≤ Txt.valP s (i + 1)
 | 0=>by
  have h:48 ≤ b s 0:=by unfold Txt.dgt at hd; simp at hd; omega
  simp only [Txt.valP]; omega
 | i + 1=>by
  have:=val_pos h0 hd i
  rw [Txt.valP]; omega
theorem dec_val {s:ByteArray} (hd:∀ j,j < s.size → Txt.dgt (b s j) = true) (h0:1 < s.size → b s 0 ≠ 48):∀ i,i + 1 ≤ s.size → Lib.decDigits (Txt.valP s (i + 1)) = (li s).take (i + 1)
 | 0,hi=>by
  obtain ⟨c,hc,hb⟩:=li_drop s 0 (by omega)
  rw [List.drop_zero] at hc
  have h:=hd 0 (by omega)
  have h1:48 ≤ b s 0 ∧ b s 0 ≤ 57:=by unfold Txt.dgt at h; simp at h; omega
  have hv:Txt.valP s 1 = b s 0 - 48:=by simp [Txt.valP]
  rw [hv,Lib.decDigits_one (by omega),hc,List.take_succ_cons,List.take_zero]
  congr 1
  rw [show 48 + (b s 0 - 48) = c.toNat by omega]
  exact UInt8.ofNat_toNat
 | i + 1,hi=>by
  have ih:=dec_val hd h0 i (by omega)
  have h:=hd (i + 1) (by omega)
  have h1:48 ≤ b s (i + 1) ∧ b s (i + 1) ≤ 57:=by unfold Txt.dgt at h; simp at h; omega
  have hp:=val_pos (h0 (by omega)) (hd 0 (by omega)) i
  have hv:Txt.valP s (i + 1 + 1) = 10 * Txt.valP s (i + 1) + (b s (i + 1) - 48):=by simp [Txt.valP]
  obtain ⟨c,hc,hb⟩:=li_drop s (i + 1) (by omega)
  rw [hv,Lib.decDigits,dif_neg (by omega),show (10 * Txt.valP s (i + 1) + (b s (i + 1) - 48)) / 10 = Txt.valP s (i + 1) by omega,show (10 * Txt.valP s (i + 1) + (b s (i + 1) - 48)) % 10 = b s (i + 1) - 48 by omega,ih]
  have hl:i + 1 < (li s).length:=by rw [li_len]; omega
  rw [List.take_succ_eq_append_getElem hl]
  congr 1
  rw [show 48 + (b s (i + 1) - 48) = c.toNat by omega,UInt8.ofNat_toNat]
  have e:((li s).drop (i + 1))[0]? = some c:=by rw [hc]; rfl
  rw [List.getElem?_drop,Nat.add_zero,List.getElem?_eq_getElem hl] at e
  injection e with e
  rw [e]
theorem itoa_back {s:ByteArray} (h:Txt.numOK s):(⟨(Lib.itoa (Txt.numOf s)).toArray⟩:ByteArray) = s:=by
 have h1:Txt.numOf s = Txt.valP s s.size:=by unfold Txt.numOf; rw [if_pos h]
 obtain ⟨⟨⟨ha,hb⟩,hc⟩,hd⟩:=h
 obtain ⟨k,hk⟩:∃ k,s.size = k + 1:=⟨s.size - 1,by omega⟩
 have e:=dec_val hd (fun h2 h3=>hc ⟨h2,h3⟩) k (by omega)
 rw [← hk,show (li s).take s.size = li s by rw [← li_len,List.take_length]] at e
 unfold Lib.itoa
 rw [if_neg (by omega),h1,Int.toNat_natCast,e]
/-! ### relations -/
theorem atom_may {l:Bs} {a:At} {r:Bs} (h:atom l = some (a,r)):may a = true:=by
 unfold Rl.atom at h
 repeat' split at h
 all_goals first
  | (cases h; done)
  | (injection h with h; injection h with h1 h2; subst h1; assumption)
theorem rdA_may {l:Bs} {a:At} {r:Bs} (h:rdA l = .ok (a,r)):may a = true:=by
 unfold Rl.rdA at h
 cases hq:atom l with
 | none=>rw [hq] at h; cases h
 | some q =>
  rw [hq] at h
  obtain ⟨x,y⟩:=q
  cases h
  exact atom_may hq
theorem txA_ne {a:At} (h:may a = true):wAt a ≠ []:=by
 unfold Rl.wAt
 rw [if_pos h]
 obtain ⟨n,r,v⟩:=a
 unfold Rl.may at h
 simp only [Bool.and_eq_true] at h
 unfold Rl.txA
 have hn:n ≠ []:=fun e=>by rw [e] at h; exact absurd h.1 (by decide)
 split <;> simp [hn]
theorem join_ne {sep:Bs}:∀ {l:List Bs},l ≠ [] → (∀ x ∈ l,x ≠ []) → Lib.join l sep ≠ []
 | [],h,_=>absurd rfl h
 | [x],_,hx=>by rw [Lib.join_one]; exact hx x (by simp)
 | x :: y :: l,_,hx=>by
  rw [show Lib.join (x :: y :: l) sep = x ++ (sep ++ Lib.join (y :: l) sep) from Rl.join_two _ _ _ _]
  have:=hx x (by simp)
  simp [this]
theorem wrt_ok {α:Type} {most:Nat} {sep:Bs} {f:α → Bs} {l:List α} (h0:l ≠ []) (h1:l.length ≤ most) (h2:∀ x ∈ l,f x ≠ []):wrt most sep f l ≠ []:=by
 unfold Rl.wrt
 rw [if_neg (by omega),if_neg]
 ·refine join_ne (by simpa using h0) fun y hy=>?_
  obtain ⟨x,hx,rfl⟩:=List.mem_map.1 hy
  exact h2 x hx
 ·rw [List.any_eq_true]
  rintro ⟨x,hx,hy⟩
  exact h2 x hx (List.isEmpty_iff.1 hy)
theorem items_ne {α:Type} {rdx:Bs → Except Int (α × Bs)} {c:UInt8}:∀ k l xs r,items rdx c k l = .ok (xs,r) → xs ≠ []
 | 0,l,xs,r,h=>by cases h
 | k + 1,l,xs,r,h=>by
  unfold Rl.items at h
  repeat' split at h
  all_goals first
   | (cases h; done)
   | (cases h; simp)
theorem lim_at {a:At} (h:may a = true):a.1.length ≤ 140737488351232 ∧ a.2.2.length ≤ 140737488351232:=by
 have:=Rl.may_sizes h
 omega
theorem whole_all {α:Type} {rdx:Bs → Except Int (α × Bs)} (P:α → Prop) (hP:∀ l x r,rdx l = .ok (x,r) → P x) {s:Bs} {xs:List α} (h:whole rdx s = .ok xs):∀ x ∈ xs,P x:=by
 rcases whole_ok h with rfl | ⟨r,h1⟩
 ·intro x hx; cases hx
 ·exact items_all P hP 12 _ _ _ h1
theorem clauses_read {s:Bs} {xs:List (List At)} (h:whole rdC s = .ok xs):(text xs ≠ [] ∨ xs = []) ∧ LimC xs:=by
 have hc:∀ c ∈ xs,(c ≠ [] ∧ c.length ≤ 6) ∧ ∀ a ∈ c,may a = true:=whole_all (fun c=>(c ≠ [] ∧ c.length ≤ 6) ∧ ∀ a ∈ c,may a = true) (fun l x r hx=>⟨⟨items_ne 6 l x r hx,Rl.items_len 6 l x r hx⟩,items_all (fun a=>may a = true) (fun l x r h=>rdA_may h) 6 l x r hx⟩) h
 refine ⟨?_,fun c hcm a ha=>lim_at ((hc c hcm).2 a ha)⟩
 by_cases h0:xs = []
 ·exact .inr h0
 ·refine .inl (wrt_ok h0 (Rl.whole_len h) fun c hcm=>?_)
  exact wrt_ok (hc c hcm).1.1 (hc c hcm).1.2 fun a ha=>txA_ne ((hc c hcm).2 a ha)
theorem atoms_read {s:Bs} {xs:List At} (h:whole rdA s = .ok xs):(atoms xs ≠ [] ∨ xs = []) ∧ LimA xs:=by
 have hc:∀ a ∈ xs,may a = true:=whole_all (fun a=>may a = true) (fun l x r hx=>rdA_may hx) h
 refine ⟨?_,fun a ha=>lim_at (hc a ha)⟩
 by_cases h0:xs = []
 ·exact .inr h0
 ·exact .inl (wrt_ok h0 (Rl.whole_len h) fun a ha=>txA_ne (hc a ha))
theorem rdP_may {l:Bs} {p:Pv} {r:Bs} (h:rdP l = .ok (p,r)):may (pvA p) = true:=by
 unfold Rl.rdP at h
 cases hq:rdA l with
 | error e=>rw [hq] at h; cases h
 | ok q =>
  rw [hq] at h
  obtain ⟨a,y⟩:=q
  have hm:=rdA_may hq
  simp only [Rl.prv] at h
  split at h
  ·rename_i hc
   cases h
   obtain ⟨n,rl,v⟩:=a
   simp only at hc
   unfold Rl.pvA
   unfold Rl.may at hm ⊢
   simp only [Bool.and_eq_true] at hm ⊢
   refine ⟨hm.1,?_⟩
   rcases hc with rfl | rfl
   ·have hv:v = []:=by have:=hm.2; simpa using this
    subst hv
    simp
   ·have h2:=hm.2
    simp only [show ¬ ((3:Int) = 0) by decide,if_false,Bool.and_eq_true] at h2
    by_cases hv:v = []
    ·subst hv
     exact absurd h2.2 (by decide)
    ·rw [if_neg hv]
     simp only [show ¬ ((3:Int) = 0) by decide,if_false,Bool.and_eq_true]
     exact h2
  ·cases h
theorem provs_read {s:Bs} {xs:List Pv} (h:whole rdP s = .ok xs):(provs xs ≠ [] ∨ xs = []) ∧ LimP xs:=by
 have hc:∀ p ∈ xs,may (pvA p) = true:=whole_all (fun p=>may (pvA p) = true) (fun l x r hx=>rdP_may hx) h
 refine ⟨?_,fun p hp=>lim_at (hc p hp)⟩
 by_cases h0:xs = []
 ·exact .inr h0
 ·exact .inl (wrt_ok h0 (Rl.whole_len h) fun p hp=>txA_ne (hc p hp))
theorem wrB_yes {l:Bs} {n:Nat} (h:l ≠ [] ∨ n = 0):wrB (S l) n = true:=by
 unfold wrB
 rcases h with h | h
 ·have:((S l).toList == []) = false:=beq_eq_false_iff_ne.2 fun e=>h (by rw [← S_li l]; rw [Lib.toList_data] at e; exact e)
  rw [this]; rfl
 ·rw [decide_eq_true h,Bool.or_true]
theorem nil_lim:LimC [] ∧ LimA [] ∧ LimP []:=⟨fun c hc=>(by cases hc),fun c hc=>(by cases hc),fun c hc=>(by cases hc)⟩
theorem back {k:Nat} {s:ByteArray} {x:Vl} (h:rd k s = .ok x):wrK x = true ∧ rd k (wrT x) = .ok x ∧ x.Lim:=by
 have n0:(Lit.int .i64 0).wf = true:=by decide
 have h':=h
 unfold rd at h
 split at h
 ·rename_i hk
  split at h
  ·cases h; exact ⟨rfl,h',nil_lim.1,nil_lim.2.1,nil_lim.2.2,n0⟩
  ·cases h
 split at h
 ·split at h
  ·cases h; exact ⟨rfl,h',nil_lim.1,nil_lim.2.1,nil_lim.2.2,n0⟩
  ·cases h
 split at h
 ·rename_i hk
  subst hk
  cases hq:whole rdC (li s) with
  | error e=>rw [hq] at h; cases h
  | ok xs =>
   rw [hq] at h
   cases h
   obtain ⟨h1,h2⟩:=clauses_read hq
   refine ⟨wrB_yes (h1.imp id fun e=>by rw [e]; rfl),?_,h2,nil_lim.2.1,nil_lim.2.2,n0⟩
   show asV .clauses (whole rdC (li (S (text xs)))) = _
   rw [S_li,Rl.text_own h1]; rfl
 split at h
 ·rename_i hk
  subst hk
  cases hq:whole rdA (li s) with
  | error e=>rw [hq] at h; cases h
  | ok xs =>
   rw [hq] at h
   cases h
   obtain ⟨h1,h2⟩:=atoms_read hq
   refine ⟨wrB_yes (h1.imp id fun e=>by rw [e]; rfl),?_,nil_lim.1,h2,nil_lim.2.2,n0⟩
   show asV .atoms (whole rdA (li (S (atoms xs)))) = _
   rw [S_li,Rl.atoms_own h1]; rfl
 split at h
 ·rename_i hk
  subst hk
  cases hq:whole rdP (li s) with
  | error e=>rw [hq] at h; cases h
  | ok xs =>
   rw [hq] at h
   cases h
   obtain ⟨h1,h2⟩:=provs_read hq
   refine ⟨wrB_yes (h1.imp id fun e=>by rw [e]; rfl),?_,nil_lim.1,nil_lim.2.1,h2,n0⟩
   show asV .provs (whole rdP (li (S (provs xs)))) = _
   rw [S_li,Rl.provs_own h1]; rfl
 split at h
 ·rename_i hk
  subst hk
  split at h
  ·cases h
   refine ⟨rfl,?_,nil_lim.1,nil_lim.2.1,nil_lim.2.2,n0⟩
   show (if yesT = yesT then Except.ok (Vl.yes true) else if yesT = noT then .ok (.yes false) else .error 3) = _
   rw [if_pos rfl]
  split at h
  ·cases h
   refine ⟨rfl,?_,nil_lim.1,nil_lim.2.1,nil_lim.2.2,n0⟩
   show (if noT = yesT then Except.ok (Vl.yes true) else if noT = noT then .ok (.yes false) else .error 3) = _
   rw [if_neg (by decide),if_pos rfl]
  ·cases h
 split at h
 ·rename_i hk
  subst hk
  split at h
  ·rename_i hn
   cases h
   have hb:=itoa_back hn
   refine ⟨rfl,?_,nil_lim.1,nil_lim.2.1,nil_lim.2.2,?_⟩
   ·show rd 6 (⟨(Lib.itoa (Txt.numOf s)).toArray⟩:ByteArray) = _
    rw [hb]; exact h'
   ·have hv:=Txt.valP_lt s s.size hn.2
    have hs:=hn.1.1.2
    have hp:10 ^ s.size ≤ 10 ^ 9:=Nat.pow_le_pow_right (by omega) hs
    have e:Txt.numOf s = Txt.valP s s.size:=by unfold Txt.numOf; rw [if_pos hn]
    have hlt:Txt.numOf s < 1000000000:=by rw [e]; omega
    show (Lit.int .i64 ((Txt.numOf s:Nat):Int)).wf = true
    simp [Lit.wf,IntKind.min,IntKind.max,IntKind.signed,IntKind.bits]
    omega
  ·cases h
 ·cases h; exact ⟨rfl,h',nil_lim.1,nil_lim.2.1,nil_lim.2.2,n0⟩
theorem wrT_long {α:Type} {most m:Nat} {sep:Bs} {f:α → Bs} (l:List α) (h:∀ x,(f x).length ≤ m):(wrt most sep f l).length ≤ most * (m + sep.length):=by
 unfold Rl.wrt
 split
 ·simp
 ·split
  ·simp
  ·rename_i h0 _
   have:=Rl.join_len sep m (l.map f) fun l hl=>by
    obtain ⟨a,_,rfl⟩:=List.mem_map.1 hl
    exact h a
   rw [List.length_map] at this
   exact Nat.le_trans this (Nat.mul_le_mul_right _ (by omega))
end Va
end Go.Proofs.YthmpepnikmdjpaaGreatDoor
namespace Go.Proofs.YthmpepnikmdjpaaGreatDoor
open Go.RowKit
set_option linter.unusedSimpArgs false
set_option linter.unusedVariables false
namespace Stz
theorem Flds.take {w:World} {a:Option Addr} {n cap:Nat} {fs:List Fld} (h:Flds w (.slice a n cap) fs) (i:Nat) (hi:i ≤ fs.length):Flds w (.slice a i cap) (fs.take i):=by
 obtain ⟨h0,a',cap',e,h1,h2⟩:=h
 simp only [Value.slice.injEq] at e
 obtain ⟨rfl,rfl,rfl⟩:=e
 have hl:(fs.take i).length = i:=by rw [List.length_take]; omega
 refine ⟨by omega,a,cap,by rw [hl],by omega,fun hp=>?_⟩
 obtain ⟨k,off,e,hat⟩:=h2 (by omega)
 refine ⟨k,off,e,fun j hj=>?_⟩
 have:=hat j (by omega)
 rw [hl] at hj
 rwa [show (fs.take i).getD j ([],[]) = fs.getD j ([],[]) by simp [List.getD,hj]]
end Stz
end Go.Proofs.YthmpepnikmdjpaaGreatDoor
namespace Go.Proofs.YthmpepnikmdjpaaGreatDoor
open Go.RowKit
set_option linter.unusedSimpArgs false
set_option linter.unusedVariables false
namespace Stz
def nums (l:Bs):List Int:=l.map fun c=>(c.toNat:Int)
theorem nums_len (l:Bs):(nums l).length = l.length:=by simp [nums]
theorem mine_ne {w:World} {B k:Nat} {T:TypeId} {v:Value} {zs:List Int} {cs:Array Value} (h:Mine w B v zs) (hk:Blk.Is w k T cs) (hT:5 ≠ T):v.ownBlock ≠ some k:=fun e=>by
 obtain ⟨_,_,cur,h1⟩:=h.block e
 exact hT (h1.inj hk).1
def PrAt (w:World) (B k:Nat) (p:Bs × Bool):Prop:=∃ v,Blk.Is w k 205 #[v,.bool p.2] ∧ Mine w B v (nums p.1)
theorem PrAt.shape {w:World} {B k:Nat} {p:Bs × Bool} (h:PrAt w B k p):∃ a c,Blk.Is w k 205 #[.slice a p.1.length c,.bool p.2] ∧ Mine w B (.slice a p.1.length c) (nums p.1) ∧ p.1.length ≤ c:=by
 obtain ⟨v,h1,h2⟩:=h
 obtain ⟨n,a,c,rfl,hc,hn,_⟩:=h2.rows
 rw [nums_len] at hn
 subst hn
 exact ⟨a,c,h1,h2,hc⟩
theorem PrAt.chg {w w':World} {B k:Nat} {p:Bs × Bool} {S':Nat → Prop} (h:PrAt w B k p) (hc:Blk.Chg S' w w') (hk:¬ S' k) (hS:∀ b,S' b → w.heap.size ≤ b):PrAt w' B k p:=by
 obtain ⟨v,h1,h2⟩:=h
 exact ⟨v,(hc.block k h1.lt hk).trans h1,h2.chg hc fun b hb hs=>by have:=(h2.block hb).2.1; have:=hS b hs; omega⟩
theorem PrAt.below {w w':World} {B k:Nat} {p:Bs × Bool} (h:PrAt w B k p) (hb:Below w.heap.size w w'):PrAt w' B k p:=h.chg (S':=fun _=>False) (Blk.Chg.ofBelow' hb) (by simp) (by simp)
theorem grown_is {w w':World} {B k:Nat} {T:TypeId} {cs:Array Value} {v:Value} {zs:List Int} (h:Mine w B v zs) (hk:Blk.Is w k T cs) (hT:5 ≠ T) (hg:w.grownBy w' v.ownBlock):Blk.Is w' k T cs:=by
 have hc:Blk.Chg (fun b=>v.ownBlock = some b) w w':=(Blk.Chg.refl _ w).grown hg fun b hb _=>hb
 exact (hc.block k hk.lt (mine_ne h hk hT)).trans hk
def Keeps (w w':World) (k:Nat):Prop:=∀ b T cs,Blk.Is w b T cs → 5 ≠ T → b ≠ k → Blk.Is w' b T cs
theorem Keeps.trans {a b c:World} {k:Nat} (h:Keeps a b k) (h':Keeps b c k):Keeps a c k:=fun i T cs hi hT hk=>h' i T cs (h i T cs hi hT hk) hT hk
theorem Keeps.set (w:World) (k i:Nat) (u:Value):Keeps w (w.setCell ⟨k,i,none⟩ u) k:=fun b T cs hi _ hk=>hi.setOther (a:=⟨k,i,none⟩) u hk
theorem Keeps.grown {w w':World} {B k:Nat} {v:Value} {zs:List Int} (h:Mine w B v zs) (hg:w.grownBy w' v.ownBlock):Keeps w w' k:=fun b T cs hi hT _=>grown_is h hi hT hg
theorem Keeps.below {w w':World} {k:Nat} (h:Below w.heap.size w w'):Keeps w w' k:=fun b T cs hi _ _=>(h.block b hi.lt).trans hi
end Stz
end Go.Proofs.YthmpepnikmdjpaaGreatDoor
namespace Go.Proofs.YthmpepnikmdjpaaGreatDoor
open Go.RowKit
set_option linter.unusedSimpArgs false
set_option linter.unusedVariables false
namespace Stz
def BytesAt (w:World) (v:Value) (l:Bs):Prop:=∃ a cap,v = .slice a l.length cap ∧ (a = none → cap = 0) ∧ l.length ≤ cap ∧ Row w a l.length (nums l)
theorem BytesAt.below {w w':World} {v:Value} {l:Bs} (h:BytesAt w v l) (hb:Below w.heap.size w w'):BytesAt w' v l:=by
 obtain ⟨a,cap,h1,h2,h3,h4⟩:=h
 exact ⟨a,cap,h1,h2,h3,h4.below hb⟩
theorem BytesAt.none (w:World):BytesAt w (.slice none 0 0) []:=⟨Option.none,0,rfl,fun _=>rfl,Nat.le_refl _,Row.nil w⟩
end Stz
end Go.Proofs.YthmpepnikmdjpaaGreatDoor
namespace Go.Proofs.YthmpepnikmdjpaaGreatDoor
open Go.RowKit
set_option linter.unusedSimpArgs false
set_option linter.unusedVariables false
namespace Stz
def awNums:List Int:=[80,97,99,107,97,103,101,58,32,97,10,68,101,112,101,110,100,115,58,32,98,44,10,9,99,10]
def awPackage:Bs:=[80,97,99,107,97,103,101]
def awDepends:Bs:=[68,101,112,101,110,100,115]
def awFields:List Fld:=[(awPackage,[[97]]),(awDepends,[[98,44],[99]])]
def awLines:List Bs:=[[80,97,99,107,97,103,101,58,32,97],[68,101,112,101,110,100,115,58,32,98,44],[9,99]]
theorem aw_parse:parse awLines = ([(1,awFields)],0,0):=by kernel_rfl
theorem aw_lines:awLines = Txt.linesL (strOfNums awNums).data.toList:=by decide +kernel
theorem bytes_S (l:List Bs):bytes (l.map S) = l:=by
 unfold bytes
 simp [List.map_map,Function.comp_def,S_data]
theorem aw_E:∀ i,i < 3 → Txt.E ((awLines.map S).getD i ByteArray.empty) = 0:=by decide +kernel
theorem aw_pr:PR (strOfNums awNums) [(1,awFields)] 0 0:=by
 refine ⟨awLines.map S,0,0,?_,.inr ⟨rfl,by rw [bytes_S]; exact aw_parse⟩⟩
 unfold Txt.LR
 rw [if_neg (by decide +kernel)]
 refine .inl ⟨rfl,rfl,?_,fun i hi=>aw_E i hi⟩
 unfold Txt.LinesOf
 rw [← aw_lines]
 exact bytes_S awLines
theorem aw_get:GetR awFields [100,101,112,101,110,100,115] [98,44,32,99] true:=by
 refine .inr ⟨1,by decide,rfl,by decide +kernel,by decide +kernel,fun j hj=>?_⟩
 have:j = 0:=by omega
 subst this
 decide +kernel
end Stz
end Go.Proofs.YthmpepnikmdjpaaGreatDoor

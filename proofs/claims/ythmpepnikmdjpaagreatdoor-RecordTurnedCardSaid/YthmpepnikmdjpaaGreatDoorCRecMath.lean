/-
Written packages and entries are read back as they were; their texts may be printed.
-/
import Derived.Test.YthmpepnikmdjpaaGreatDoorCStzAwake
namespace Go.Proofs.YthmpepnikmdjpaaGreatDoor
open Go.RowKit
set_option linter.unusedSimpArgs false
set_option linter.unusedVariables false
namespace Rc
open Ver (Bs li li_len S S_self S_size S_li)
open Rl (At Pv may nmB isV pvA text atoms provs wAt wCl txA sgnN whole rdC rdA rdP wrt nch vch sg)
open Va (Vl rd wrT knd wrB yesT noT asV)
open Stz (Fld Sz sameB sameS foldL partsL PR textsOK firstOK goodL fieldErr fieldsErr stanzaErr eachErr listErr nameB fieldLines)
open Txt (trimL trimLeft trimRight W)
/-! ### texts that may stand in a field -/
def Prn (t:Bs):Prop:=∀ c ∈ t,32 ≤ c.toNat ∧ c.toNat ≤ 126
structure Ink (t:Bs):Prop where
 prn:Prn t
 hd:∃ c r,t = c :: r ∧ W c = false
 tl:∃ r c,t = r ++ [c] ∧ W c = false
theorem Ink.app {a s b:Bs} (ha:Ink a) (hs:Prn s) (hb:Ink b):Ink (a ++ (s ++ b)):=by
 obtain ⟨c,r,ea,hc⟩:=ha.hd
 obtain ⟨r',c',eb,hc'⟩:=hb.tl
 refine ⟨?_,⟨c,r ++ (s ++ b),by rw [ea]; rfl,hc⟩,⟨a ++ (s ++ r'),c',by rw [eb]; simp,hc'⟩⟩
 intro x hx
 simp only [List.mem_append] at hx
 rcases hx with h | h | h
 ·exact ha.prn x h
 ·exact hs x h
 ·exact hb.prn x h
theorem ink_join {sep:Bs} (hs:Prn sep):∀ l:List Bs,l ≠ [] → (∀ x ∈ l,Ink x) → Ink (Lib.join l sep)
 | [],h,_=>absurd rfl h
 | [x],_,hx=>by rw [Lib.join_one]; exact hx x (by simp)
 | x :: y :: r,_,hx=>by
  rw [Rl.join_two]
  exact (hx x (by simp)).app hs (ink_join hs (y :: r) (by simp) fun z hz=>hx z (List.mem_cons_of_mem _ hz))
def ik (c:UInt8):Bool:=decide (33 ≤ c.toNat) && decide (c.toNat ≤ 126)
theorem ik_W {c:UInt8} (h:ik c = true):W c = false:=by
 have:∀ x:BitVec 8,ik ⟨x⟩ = true → W ⟨x⟩ = false:=by decide +kernel
 exact this c.toBitVec h
theorem nch_ik {c:UInt8} (h:nch c = true):ik c = true:=by
 have:∀ x:BitVec 8,nch ⟨x⟩ = true → ik ⟨x⟩ = true:=by decide +kernel
 exact this c.toBitVec h
theorem vch_ik {c:UInt8} (h:vch c = true):ik c = true:=by
 have:∀ x:BitVec 8,vch ⟨x⟩ = true → ik ⟨x⟩ = true:=by decide +kernel
 exact this c.toBitVec h
theorem sg_ik {c:UInt8} (h:sg c = true):ik c = true:=by
 have:∀ x:BitVec 8,sg ⟨x⟩ = true → ik ⟨x⟩ = true:=by decide +kernel
 exact this c.toBitVec h
theorem ik_prn {t:Bs} (h:t.all ik = true):Prn t:=by
 intro c hc
 have:=List.all_eq_true.1 h c hc
 unfold ik at this
 simp only [Bool.and_eq_true,decide_eq_true_eq] at this
 omega
theorem ink_all {t:Bs} (h0:t ≠ []) (h:t.all ik = true):Ink t:=by
 refine ⟨ik_prn h,?_,?_⟩
 ·cases t with
  | nil=>exact absurd rfl h0
  | cons c r=>exact ⟨c,r,rfl,ik_W (List.all_eq_true.1 h c (by simp))⟩
 ·refine ⟨t.dropLast,t.getLast h0,(List.dropLast_concat_getLast h0).symm,ik_W (List.all_eq_true.1 h _ (List.getLast_mem h0))⟩
theorem nm_ik {n:Bs} (h:nmB n = true):n.all ik = true:=by
 cases n with
 | nil=>rfl
 | cons c r =>
  unfold nmB at h
  simp only [Bool.and_eq_true] at h
  rw [List.all_cons,Bool.and_eq_true]
  refine ⟨nch_ik (by unfold nch; rw [h.1.2]; rfl),?_⟩
  rw [List.all_eq_true]
  intro x hx
  exact nch_ik (List.all_eq_true.1 h.2 x hx)
theorem ink_nm {n:Bs} (h:nmB n = true):Ink n:=ink_all (Rl.nm_ne h) (nm_ik h)
theorem ink_vs {v:Bs} (h:isV v = true):Ink v:=by
 obtain ⟨h1,h2,_⟩:=Rl.ver_all h
 refine ink_all h2 ?_
 rw [List.all_eq_true] at h1 ⊢
 intro x hx
 exact vch_ik (h1 x hx)
theorem ink_txA {a:At} (h:may a = true):Ink (txA a):=by
 obtain ⟨h1,h2⟩:=Rl.may_parts h
 unfold txA
 rcases h2 with ⟨h2,_⟩ | ⟨h2,_,h3⟩
 ·rw [if_pos h2]; exact ink_nm h1
 ·rw [if_neg h2]
  have e:a.1 ++ [32] ++ [40] ++ sgnN a.2.1 ++ [32] ++ a.2.2 ++ [41] = a.1 ++ (([32] ++ [40] ++ sgnN a.2.1 ++ [32] ++ a.2.2) ++ [41]):=by simp
  rw [e]
  refine (ink_nm h1).app ?_ (ink_all (by simp) (by decide +kernel))
  intro c hc
  simp only [List.mem_append] at hc
  rcases hc with ((((hc | hc) | hc) | hc) | hc)
  ·simp only [List.mem_singleton] at hc; subst hc; decide
  ·simp only [List.mem_singleton] at hc; subst hc; decide
  ·have:=Rl.sgn_sg a.2.1
   rw [List.all_eq_true] at this
   have h5:=sg_ik (this c hc)
   unfold ik at h5
   simp only [Bool.and_eq_true,decide_eq_true_eq] at h5
   omega
  ·simp only [List.mem_singleton] at hc; subst hc; decide
  ·exact (ink_vs h3).prn c hc
theorem ink_wAt {a:At} (h:wAt a ≠ []):Ink (wAt a):=by
 obtain ⟨h1,h2⟩:=Rl.wAt_may h
 rw [h2]
 exact ink_txA h1
theorem ink_wrt {α:Type} {most:Nat} {sep:Bs} (hs:Prn sep) {f:α → Bs} (hf:∀ x,f x ≠ [] → Ink (f x)) {l:List α} (h:wrt most sep f l ≠ []):Ink (wrt most sep f l):=by
 obtain ⟨h1,_,h3,h4⟩:=Rl.wrt_ne h
 rw [h4]
 refine ink_join hs _ (by simpa using h1) fun x hx=>?_
 obtain ⟨y,hy,rfl⟩:=List.mem_map.1 hx
 exact hf y (h3 y hy)
theorem prn_of {t:Bs} (h:(t.all fun c=>decide (32 ≤ c.toNat) && decide (c.toNat ≤ 126)) = true):Prn t:=by
 intro c hc
 have:=List.all_eq_true.1 h c hc
 simpa using this
theorem ink_text {l:List (List At)} (h:text l ≠ []):Ink (text l):=ink_wrt (prn_of (by decide)) (fun c hc=>ink_wrt (prn_of (by decide)) (fun a=>ink_wAt) hc) h
theorem ink_atoms {l:List At} (h:atoms l ≠ []):Ink (atoms l):=ink_wrt (prn_of (by decide)) (fun a=>ink_wAt) h
theorem ink_provs {l:List Pv} (h:provs l ≠ []):Ink (provs l):=ink_wrt (prn_of (by decide)) (fun a h=>ink_wAt h) h
theorem left_id {c:UInt8} {r:Bs} (h:W c = false):trimLeft (c :: r) = c :: r:=by
 unfold trimLeft
 rw [h]; rfl
theorem Ink.trim {t:Bs} (h:Ink t):trimL t = t:=by
 obtain ⟨c,r,e1,h1⟩:=h.hd
 obtain ⟨r',c',e2,h2⟩:=h.tl
 unfold trimL
 have e3:trimLeft t = t:=by rw [e1]; exact left_id h1
 rw [e3]
 unfold trimRight
 have e4:t.reverse = c' :: r'.reverse:=by rw [e2]; simp
 rw [e4,left_id h2,← e4,List.reverse_reverse]
theorem Ink.ne {t:Bs} (h:Ink t):t ≠ []:=by
 obtain ⟨c,r,e,_⟩:=h.hd
 rw [e]; simp
theorem Ink.fold {t:Bs} (h:Ink t):foldL [t] = t:=by
 unfold foldL partsL
 have:(trimL t).isEmpty = false:=by
  rw [h.trim]
  cases t with
  | nil=>exact absurd rfl h.ne
  | cons=>rfl
 simp [h.trim,this]
 have h0:=h.ne
 cases t with
 | nil=>exact absurd rfl h0
 | cons c r=>exact Lib.join_one _ _
theorem Ink.good {t:Bs} (h:Ink t):goodL t:=Stz.good_asc fun c hc=>by
 have h1:=h.prn c hc
 refine ⟨by omega,?_⟩
 unfold Txt.ctl
 have e1:decide (c.toNat < 32) = false:=decide_eq_false (by omega)
 have e2:decide (c.toNat = 127) = false:=decide_eq_false (by omega)
 rw [e1,e2]; rfl
theorem Ink.ok {t:Bs} (h:Ink t):textsOK [t] = true:=by
 unfold textsOK firstOK
 have h1:=h.good
 have h2:=h.trim
 simp [h1,h2]
/-! ### names -/
theorem nm_same:∀ i,i < 11 → ∀ j,j < 11 → (sameB (nmAt i) (nmAt j) = true ↔ i = j):=by decide +kernel
def kdAt (i:Nat):Nat:=[0,1,5,2,2,2,3,3,4,7,5].getD i 7
theorem nm_knd:∀ i,i < 11 → knd (S (nmAt i)) = kdAt i:=by decide +kernel
theorem nm_short:∀ i,i < 11 → (nmAt i).length ≤ 11:=by decide +kernel
/-! ### keep -/
theorem keep_nm {xs:Vls} {i:Nat} (hi:i < 11) (x:Vl) (h:isNo (xs i) = true):keep xs (nmAt i) x = fun j=>if j = i then x else xs j:=by
 funext j
 unfold keep keepN
 by_cases hj:j = i
 ·subst hj
  rw [if_pos ⟨hi,(nm_same j hi j hi).2 rfl,h⟩,if_pos rfl]
 ·rw [if_neg hj]
  by_cases hj2:j < 11
  ·rw [if_neg]
   intro ⟨_,h2,_⟩
   exact hj ((nm_same i hi j hj2).1 h2).symm
  ·rw [if_neg (fun h=>hj2 h.1)]
theorem keep_else {xs:Vls} {nm:Bs} (x:Vl) (h:∀ i,i < 11 → sameB nm (nmAt i) = false):keep xs nm x = xs:=by
 funext j
 unfold keep keepN
 rw [if_neg]
 intro ⟨h1,h2,_⟩
 rw [h j h1] at h2
 cases h2
theorem rdF_places (rf:ByteArray → ByteArray → Except Int Vl) (fld:Nat → Fld) (x:Nat → Vl):∀ (is:List Nat) (line:Int) (xs:Vls) (r:List Fld),is.Nodup →
  (∀ i ∈ is,i < 11 ∧ (fld i).1 = nmAt i ∧ rf (S (nmAt i)) (S (foldL (fld i).2)) = .ok (x i) ∧ isNo (xs i) = true) →
  ∃ line',rdF rf line xs (is.map fld ++ r) = rdF rf line' (fun j=>if j ∈ is then x j else xs j) r
 | [],line,xs,r,_,_=>⟨line,by simp⟩
 | i :: is,line,xs,r,hn,h=>by
  rw [List.nodup_cons] at hn
  obtain ⟨hi,h1,h2,h3⟩:=h i (by simp)
  obtain ⟨line',h4⟩:=rdF_places rf fld x is (furth line (fld i).2.length) (fun j=>if j = i then x i else xs j) r hn.2 (fun j hj=>by
   obtain ⟨a,b,c,d⟩:=h j (by simp [hj])
   have hji:j ≠ i:=fun e=>hn.1 (e ▸ hj)
   refine ⟨a,b,c,?_⟩
   simp only [if_neg hji]
   exact d)
  refine ⟨line',?_⟩
  rw [List.map_cons,List.cons_append]
  show (match rf (S (fld i).1) (S (foldL (fld i).2)) with
   | .error e=>(Except.error (e,line):Except (Int × Int) Vls)
   | .ok x=>rdF rf (furth line (fld i).2.length) (keep xs (fld i).1 x) (is.map fld ++ r)) = _
  rw [h1,h2]
  simp only
  rw [keep_nm hi _ h3,h4]
  congr 1
  funext j
  by_cases hj:j = i
  ·subst hj
   simp [hn.1]
  ·simp [hj]
/-! ### what is written -/
theorem orI_zero:∀ {l:List Int},orI l = 0 → ∀ x ∈ l,x = 0
 | [],_,x,hx=>by cases hx
 | y :: l,h,x,hx=>by
  unfold orI at h
  by_cases hy:y = 0
  ·rw [if_neg (by simpa using hy)] at h
   rcases List.mem_cons.1 hx with rfl | hx
   ·exact hy
   ·exact orI_zero h x hx
  ·rw [if_pos hy] at h
   exact absurd h hy
theorem orI_all:∀ {l:List Int},(∀ x ∈ l,x = 0) → orI l = 0
 | [],_=>rfl
 | y :: l,h=>by
  unfold orI
  rw [if_neg (by simpa using h y (by simp))]
  exact orI_all fun x hx=>h x (List.mem_cons_of_mem _ hx)
theorem mayC_ok {l:List (List At)} (h:mayC l = 0):l.length ≤ 12 ∧ ∀ c ∈ l,0 < c.length ∧ c.length ≤ 6 ∧ ∀ a ∈ c,may a = true:=by
 unfold mayC at h
 split at h
 ·cases h
 ·rename_i h1
  split at h
  ·cases h
  ·rename_i h2
   split at h
   ·rename_i h3
    refine ⟨by omega,fun c hc=>?_⟩
    rw [List.all_eq_true] at h3
    have h4:=h3 c hc
    simp only [Bool.and_eq_true,decide_eq_true_eq,List.all_eq_true] at h4
    refine ⟨h4.1,?_,h4.2⟩
    have h5:¬ 6 < c.length:=fun h6=>h1 (List.any_eq_true.2 ⟨c,hc,by simpa using h6⟩)
    omega
   ·cases h
theorem mayA_ok {l:List At} (h:mayA l = 0):l.length ≤ 12 ∧ ∀ a ∈ l,may a = true:=by
 unfold mayA at h
 split at h
 ·cases h
 ·rename_i h1
  split at h
  ·rename_i h3
   rw [List.all_eq_true] at h3
   exact ⟨by omega,h3⟩
  ·cases h
theorem mayP_ok {l:List Pv} (h:mayP l = 0):l.length ≤ 12 ∧ ∀ p ∈ l,may (pvA p) = true:=by
 unfold mayP at h
 split at h
 ·cases h
 ·rename_i h1
  split at h
  ·rename_i h3
   rw [List.all_eq_true] at h3
   exact ⟨by omega,h3⟩
  ·cases h
structure Ok (p:Pk):Prop where
 nm:nmB p.nm = true
 vs:isV p.vs = true
 pre:mayC p.pre = 0
 dep:mayC p.dep = 0
 rcm:mayC p.rcm = 0
 con:mayA p.con = 0
 brk:mayA p.brk = 0
 prv:mayP p.prv = 0
theorem mayK_ok {p:Pk}:mayK p = 0 ↔ Ok p:=by
 unfold mayK
 constructor
 ·intro h
  split at h
  ·rename_i h1
   rw [Bool.and_eq_true] at h1
   have h2:=orI_zero h
   exact ⟨h1.1,h1.2,h2 _ (by simp),h2 _ (by simp),h2 _ (by simp),h2 _ (by simp),h2 _ (by simp),h2 _ (by simp)⟩
  ·cases h
 ·intro h
  rw [h.nm,h.vs]
  simp only [Bool.and_self,if_true]
  refine orI_all fun x hx=>?_
  simp only [List.mem_cons,List.not_mem_nil,or_false] at hx
  rcases hx with rfl | rfl | rfl | rfl | rfl | rfl
  ·exact h.pre
  ·exact h.dep
  ·exact h.rcm
  ·exact h.con
  ·exact h.brk
  ·exact h.prv
theorem wAt_ne {a:At} (h:may a = true):wAt a ≠ []:=Va.txA_ne h
theorem wCl_ne {c:List At} (h0:0 < c.length) (h6:c.length ≤ 6) (h:∀ a ∈ c,may a = true):wCl c ≠ [] :=
 Va.wrt_ok (fun e=>by rw [e] at h0; exact absurd h0 (by simp)) h6 fun a ha=>wAt_ne (h a ha)
theorem text_ok {l:List (List At)} (h:mayC l = 0):text l ≠ [] ∨ l = []:=by
 obtain ⟨h1,h2⟩:=mayC_ok h
 by_cases hl:l = []
 ·exact .inr hl
 ·exact .inl (Va.wrt_ok hl h1 fun c hc=>wCl_ne (h2 c hc).1 (h2 c hc).2.1 (h2 c hc).2.2)
theorem atoms_ok {l:List At} (h:mayA l = 0):atoms l ≠ [] ∨ l = []:=by
 obtain ⟨h1,h2⟩:=mayA_ok h
 by_cases hl:l = []
 ·exact .inr hl
 ·exact .inl (Va.wrt_ok hl h1 fun a ha=>wAt_ne (h2 a ha))
theorem provs_ok {l:List Pv} (h:mayP l = 0):provs l ≠ [] ∨ l = []:=by
 obtain ⟨h1,h2⟩:=mayP_ok h
 by_cases hl:l = []
 ·exact .inr hl
 ·exact .inl (Va.wrt_ok hl h1 fun p hp=>wAt_ne (h2 p hp))
def Fits (k:Nat) (x:Vl):Prop:=(li (wrT x) = [] ∧ (x = .none ∨ x = .clauses [] ∨ x = .atoms [] ∨ x = .provs [])) ∨ (Ink (li (wrT x)) ∧ rd k (wrT x) = .ok x ∧ isNo x = false)
theorem fits_yes (b:Bool):Fits 5 (yesV b):=by
 cases b with
 | true=>exact .inr ⟨ink_all (by decide) (by decide +kernel),by unfold rd; simp [yesV,wrT],rfl⟩
 | false=>exact .inl ⟨rfl,.inl rfl⟩
theorem fits_clauses {l:List (List At)} (h:mayC l = 0):Fits 2 (.clauses l):=by
 by_cases hl:l = []
 ·subst hl; exact .inl ⟨by decide +kernel,.inr (.inl rfl)⟩
 ·have h1:=text_ok h
  have h2:text l ≠ []:=h1.resolve_right hl
  refine .inr ⟨?_,?_,rfl⟩
  ·show Ink (li (S (text l)))
   rw [S_li]; exact ink_text h2
  ·show asV .clauses (whole rdC (li (S (text l)))) = _
   rw [S_li,Rl.text_own h1]; rfl
theorem fits_atoms {l:List At} (h:mayA l = 0):Fits 3 (.atoms l):=by
 by_cases hl:l = []
 ·subst hl; exact .inl ⟨by decide +kernel,.inr (.inr (.inl rfl))⟩
 ·have h1:=atoms_ok h
  have h2:atoms l ≠ []:=h1.resolve_right hl
  refine .inr ⟨?_,?_,rfl⟩
  ·show Ink (li (S (atoms l)))
   rw [S_li]; exact ink_atoms h2
  ·show asV .atoms (whole rdA (li (S (atoms l)))) = _
   rw [S_li,Rl.atoms_own h1]; rfl
theorem fits_provs {l:List Pv} (h:mayP l = 0):Fits 4 (.provs l):=by
 by_cases hl:l = []
 ·subst hl; exact .inl ⟨by decide +kernel,.inr (.inr (.inr rfl))⟩
 ·have h1:=provs_ok h
  have h2:provs l ≠ []:=h1.resolve_right hl
  refine .inr ⟨?_,?_,rfl⟩
  ·show Ink (li (S (provs l)))
   rw [S_li]; exact ink_provs h2
  ·show asV .provs (whole rdP (li (S (provs l)))) = _
   rw [S_li,Rl.provs_own h1]; rfl
theorem fits_nm {n:Bs} (h:nmB n = true):Fits 0 (.text (S n)):=by
 refine .inr ⟨?_,?_,rfl⟩
 ·show Ink (li (S n))
  rw [S_li]; exact ink_nm h
 ·show (if nmB (li (S n)) then Except.ok (Vl.text (S n)) else .error 3) = _
  rw [S_li,h]; rfl
theorem fits_vs {v:Bs} (h:isV v = true):Fits 1 (.text (S v)):=by
 refine .inr ⟨?_,?_,rfl⟩
 ·show Ink (li (S v))
  rw [S_li]; exact ink_vs h
 ·show (if isV (li (S v)) then Except.ok (Vl.text (S v)) else .error 3) = _
  rw [S_li,h]; rfl
theorem fitsP {p:Pk} (h:Ok p):∀ i,i < 11 → Fits (kdAt i) (valsP p i)
 | 0,_=>fits_nm h.nm
 | 1,_=>fits_vs h.vs
 | 2,_=>fits_yes _
 | 3,_=>fits_clauses h.pre
 | 4,_=>fits_clauses h.dep
 | 5,_=>fits_clauses h.rcm
 | 6,_=>fits_atoms h.con
 | 7,_=>fits_atoms h.brk
 | 8,_=>fits_provs h.prv
 | 9,_=>.inl ⟨rfl,.inl rfl⟩
 | 10,_=>.inl ⟨rfl,.inl rfl⟩
 | i + 11,hi=>by omega
/-! ### the fields as places -/
def fld1 (xs:Vls) (i:Nat):Fld:=(nmAt i,[li (wrT (xs i))])
def plc (xs:Vls):List Nat:=(List.range 11).filter fun i=>decide (li (wrT (xs i)) ≠ [])
theorem flat_filter (xs:Vls):∀ l:List Nat,l.flatMap (fldAt xs) = (l.filter fun i=>decide (li (wrT (xs i)) ≠ [])).map (fld1 xs)
 | []=>rfl
 | i :: l=>by
  rw [List.flatMap_cons,flat_filter xs l,List.filter_cons]
  unfold fldAt
  by_cases h:li (wrT (xs i)) = []
  ·rw [if_pos h,if_neg (by simp [h])]; rfl
  ·rw [if_neg h,if_pos (by simp [h])]; rfl
theorem flds_plc (xs:Vls):flds xs = (plc xs).map (fld1 xs):=flat_filter xs _
theorem plc_nodup (xs:Vls):(plc xs).Nodup:=List.Nodup.sublist List.filter_sublist List.nodup_range
theorem plc_mem {xs:Vls} {i:Nat}:i ∈ plc xs ↔ i < 11 ∧ li (wrT (xs i)) ≠ []:=by
 unfold plc
 rw [List.mem_filter,List.mem_range,decide_eq_true_eq]
theorem fit_read {xs:Vls} (h:∀ i,i < 11 → Fits (kdAt i) (xs i)) {i:Nat} (hi:i ∈ plc xs):Ink (li (wrT (xs i))) ∧ rdV (S (nmAt i)) (S (foldL (fld1 xs i).2)) = .ok (xs i) ∧ isNo (xs i) = false:=by
 obtain ⟨h1,h2⟩:=plc_mem.1 hi
 rcases h i h1 with h3 | ⟨h3,h4,h5⟩
 ·exact absurd h3.1 h2
 ·refine ⟨h3,?_,h5⟩
  show rd (knd (S (nmAt i))) (S (foldL [li (wrT (xs i))])) = _
  rw [h3.fold,S_self,nm_knd i h1,h4]
def back (xs:Vls):Vls:=fun j=>if j ∈ plc xs then xs j else .none
theorem back_eq {xs:Vls} (h:∀ i,i < 11 → Fits (kdAt i) (xs i)) {j:Nat} (hj:j < 11):back xs j = xs j ∨ (back xs j = .none ∧ (xs j = .none ∨ xs j = .clauses [] ∨ xs j = .atoms [] ∨ xs j = .provs [])):=by
 unfold back
 by_cases h1:j ∈ plc xs
 ·rw [if_pos h1]; exact .inl rfl
 ·rw [if_neg h1]
  rcases h j hj with h2 | h2
  ·exact .inr ⟨rfl,h2.2⟩
  ·exact absurd (plc_mem.2 ⟨hj,h2.1.ne⟩) h1
theorem back_parts {xs:Vls} (h:∀ i,i < 11 → Fits (kdAt i) (xs i)) {j:Nat} (hj:j < 11):(back xs j).txt = (xs j).txt ∧ (back xs j).ye = (xs j).ye ∧ (back xs j).cls = (xs j).cls ∧ (back xs j).ats = (xs j).ats ∧ (back xs j).pvs = (xs j).pvs:=by
 rcases back_eq h hj with e | ⟨e,e2 | e2 | e2 | e2⟩
 ·rw [e]; exact ⟨rfl,rfl,rfl,rfl,rfl⟩
 all_goals (rw [e,e2]; exact ⟨rfl,rfl,rfl,rfl,rfl⟩)
theorem pkOf_back {xs:Vls} (h:∀ i,i < 11 → Fits (kdAt i) (xs i)):pkOf (back xs) = pkOf xs:=by
 unfold pkOf
 rw [(back_parts h (j:=0) (by omega)).1,(back_parts h (j:=1) (by omega)).1,(back_parts h (j:=2) (by omega)).2.1,(back_parts h (j:=3) (by omega)).2.2.1,(back_parts h (j:=4) (by omega)).2.2.1,(back_parts h (j:=5) (by omega)).2.2.1,(back_parts h (j:=6) (by omega)).2.2.2.1,(back_parts h (j:=7) (by omega)).2.2.2.1,(back_parts h (j:=8) (by omega)).2.2.2.2]
theorem yesV_ye (b:Bool):(yesV b).ye = b:=by cases b <;> rfl
theorem pkOf_vals (p:Pk):pkOf (valsP p) = p:=by
 unfold pkOf
 show Pk.mk (li (S p.nm)) (li (S p.vs)) p.pre p.dep p.rcm p.con p.brk p.prv (yesV p.ess).ye = p
 rw [S_li,S_li,yesV_ye]
theorem has_text {xs:Vls} (h:∀ i,i < 11 → Fits (kdAt i) (xs i)) {i:Nat} (hi:i < 11) {s:ByteArray} (hx:xs i = .text s):isNo (back xs i) = false:=by
 rcases h i hi with h2 | h2
 ·rw [hx] at h2
  rcases h2.2 with e | e | e | e <;> cases e
 ·have:i ∈ plc xs:=plc_mem.2 ⟨hi,h2.1.ne⟩
  unfold back
  rw [if_pos this,hx]; rfl
theorem of_places {p:Pk} (h:Ok p) (line:Int) (is:List Nat) (hn:is.Nodup) (hm:∀ i,i ∈ is ↔ i ∈ plc (valsP p)) (r:List Fld) (hr:∀ l xs,rdF rdV l xs r = .ok xs):ofS (line,is.map (fld1 (valsP p)) ++ r) = .ok p:=by
 have hf:=fitsP h
 obtain ⟨line',h1⟩:=rdF_places rdV (fld1 (valsP p)) (valsP p) is line no r hn fun i hi=>by
  have hi':=(hm i).1 hi
  exact ⟨(plc_mem.1 hi').1,rfl,(fit_read hf hi').2.1,rfl⟩
 unfold ofS rdS
 simp only
 rw [h1,hr]
 have e:(fun j=>if j ∈ is then valsP p j else no j) = back (valsP p):=by
  funext j
  unfold back
  by_cases hj:j ∈ is
  ·rw [if_pos hj,if_pos ((hm j).1 hj)]
  ·rw [if_neg hj,if_neg (fun q=>hj ((hm j).2 q))]; rfl
 rw [e]
 have h0:=has_text hf (i:=0) (by omega) (s:=S p.nm) rfl
 have h2:=has_text hf (i:=1) (by omega) (s:=S p.vs) rfl
 simp only [List.any_cons,List.any_nil,h0,h2,Bool.or_false,Bool.false_eq_true,if_false]
 show Except.ok (pkOf (back (valsP p))) = _
 rw [pkOf_back hf,pkOf_vals]
theorem of_sz {p:Pk} (h:Ok p) (line:Int):ofS (line,flds (valsP p)) = .ok p:=by
 rw [flds_plc]
 have:=of_places h line (plc (valsP p)) (plc_nodup _) (fun _=>Iff.rfl) [] (fun _ _=>rfl)
 rwa [List.append_nil] at this
end Rc
end Go.Proofs.YthmpepnikmdjpaaGreatDoor

/-
What MayAll tells of packages; the places of names, one package after the other; an index in memory. Packages have one order.
-/
import Derived.Test.YtelofmeapplfpaaGreatDoorCIxMap
import Derived.Test.YtelofmeapplfpaaGreatDoorCIxKeep
import Derived.Test.YtelofmeapplfpaaGreatDoorCIxSort
import Derived.Test.YtelofmeapplfpaaGreatDoorCIxOwn3
namespace Go.Proofs.YtelofmeapplfpaaGreatDoor
open Go.RowKit
set_option linter.unusedSimpArgs false
set_option linter.unusedVariables false
namespace Ix
open Ver (Bs li li_len S S_self S_size S_li)
open Rl (At Pv may nmB isV Vars)
open Rc (Pk nPk Pks mayK mayC mayA mayP mayAll eachK orI twice nmsOf again)
/-! ### what may be -/
theorem orI_zero:∀ {l:List Int},orI l = 0 → ∀ x ∈ l,x = 0
 | [],_,x,hx=>by cases hx
 | y :: r,h,x,hx=>by
  unfold orI at h
  by_cases hy:y = 0
  ·rw [if_neg (by simpa using hy)] at h
   rcases List.mem_cons.1 hx with rfl | hx
   ·exact hy
   ·exact orI_zero h x hx
  ·rw [if_pos hy] at h
   exact absurd h hy
theorem mayC_of {l:List (List At)} (h:mayC l = 0):l.length ≤ 12 ∧ ∀ c ∈ l,c.length ≤ 6:=by
 unfold mayC at h
 split at h
 ·cases h
 ·rename_i h1
  split at h
  ·cases h
  ·rename_i h2
   refine ⟨by omega,fun c hc=>?_⟩
   by_cases h3:c.length ≤ 6
   ·exact h3
   ·exact absurd (List.any_eq_true.2 ⟨c,hc,by rw [decide_eq_true_eq]; omega⟩) h1
theorem mayA_of {l:List At} (h:mayA l = 0):l.length ≤ 12:=by
 unfold mayA at h
 split at h
 ·cases h
 ·omega
theorem mayP_of {l:List Pv} (h:mayP l = 0):l.length ≤ 12:=by
 unfold mayP at h
 split at h
 ·cases h
 ·omega
structure MayP (p:Pk):Prop where
 nm:nmB p.nm = true
 ver:isV p.vs = true
 pre:mayC p.pre = 0
 dep:mayC p.dep = 0
 rcm:mayC p.rcm = 0
 con:mayA p.con = 0
 brk:mayA p.brk = 0
 prv:mayP p.prv = 0
theorem mayK_of {p:Pk} (h:mayK p = 0):MayP p:=by
 unfold mayK at h
 split at h
 ·rename_i h1
  rw [Bool.and_eq_true] at h1
  have k:=orI_zero h
  exact ⟨h1.1,h1.2,k _ (by simp),k _ (by simp),k _ (by simp),k _ (by simp),k _ (by simp),k _ (by simp)⟩
 ·cases h
theorem MayP.few {p:Pk} (h:MayP p):Few p :=
 ⟨⟨by have:=(mayC_of h.pre).1; omega,fun c hc=>by have:=(mayC_of h.pre).2 c hc; omega⟩,⟨by have:=(mayC_of h.dep).1; omega,fun c hc=>by have:=(mayC_of h.dep).2 c hc; omega⟩,⟨by have:=(mayC_of h.rcm).1; omega,fun c hc=>by have:=(mayC_of h.rcm).2 c hc; omega⟩,
  by have:=mayA_of h.con; omega,by have:=mayA_of h.brk; omega,by have:=mayP_of h.prv; omega⟩
structure MayL (l:List Pk):Prop where
 len:l.length ≤ 24
 each:∀ p ∈ l,MayP p
 once:twice l = false
 nms:(nmsOf l []).length ≤ 10
theorem mayAll_of {l:List Pk} (h:mayAll l = 0):MayL l:=by
 unfold mayAll at h
 split at h
 ·cases h
 ·rename_i h1
  split at h
  ·rename_i h2; exact absurd h h2
  ·rename_i h2
   split at h
   ·cases h
   ·rename_i h3
    split at h
    ·cases h
    ·rename_i h4
     refine ⟨by omega,fun p hp=>mayK_of (orI_zero (show orI (l.map mayK) = 0 from (by simpa using h2:eachK l = 0)) _ (List.mem_map.2 ⟨p,hp,rfl⟩)),by simpa using h3,by omega⟩
/-! ### places -/
def pl (f:Nat → Bool) (k:Nat):List Nat:=(List.range k).filter f
theorem pl_lt {f:Nat → Bool} {k i:Nat} (h:i ∈ pl f k):i < k:=List.mem_range.1 (List.mem_filter.1 h).1
theorem pl_succ (f:Nat → Bool) (k:Nat):pl f (k + 1) = pl f k ++ (if f k = true then [k] else []):=by
 unfold pl
 rw [List.range_succ,List.filter_append]
 congr 1
 rw [List.filter_cons]
 split <;> rfl
theorem last_ne {f:Nat → Bool} {k:Nat}:(pl f k).getLast? ≠ some k:=fun h=>by
 have:=pl_lt (List.mem_of_getLast? h)
 omega
def stands (p:Pk) (nm:Bs):Bool:=decide (p.nm = nm) || p.prv.any fun v=>decide (v.1 = nm)
def ff (xs:List Pk) (m:Bool) (nm:Bs) (i:Nat):Bool:=match m with
 | false=>decide ((xs.getD i nPk).nm = nm)
 | true=>stands (xs.getD i nPk) nm
def gM (xs:List Pk) (k:Nat) (c:Bool → Bs → Bool) (m:Bool) (nm:Bs):List Nat:=pl (ff xs m nm) k ++ (if c m nm = true then [k] else [])
def gK (xs:List Pk) (k:Nat) (m:Bool) (nm:Bs):List Nat:=pl (ff xs m nm) k
theorem gM_none (xs:List Pk) (k:Nat) (m:Bool) (nm:Bs):gM xs k (fun _ _=>false) m nm = gK xs k m nm:=by unfold gM gK; simp
theorem gM_upd (xs:List Pk) (k:Nat) (c:Bool → Bs → Bool) (m:Bool) (nm:Bs) (m':Bool) (x:Bs):upd (gM xs k c) m nm k m' x = gM xs k (fun m' x=>if m' = m ∧ x = nm then true else c m' x) m' x:=by
 unfold upd gM
 by_cases h:m' = m ∧ x = nm
 ·obtain ⟨rfl,rfl⟩:=h
  rw [if_pos ⟨rfl,rfl⟩]
  simp only [and_self,if_true]
  unfold addTo
  cases hc:c m' x with
  | false =>
   simp only [Bool.false_eq_true,if_false,List.append_nil]
   rw [if_neg last_ne]
  | true =>
   simp only [if_true]
   rw [if_pos (by rw [List.getLast?_append]; rfl)]
 ·rw [if_neg h]
  simp only [h,if_false]
theorem gM_all (xs:List Pk) (k:Nat) (c:Bool → Bs → Bool) (h:∀ m nm,c m nm = ff xs m nm k) (m:Bool) (nm:Bs):gM xs k c m nm = gK xs (k + 1) m nm:=by
 unfold gM gK
 rw [pl_succ,h m nm]
def cJ (p:Pk) (j:Nat) (m:Bool) (nm:Bs):Bool:=match m with
 | false=>decide (p.nm = nm)
 | true=>decide (p.nm = nm) || (p.prv.take j).any fun v=>decide (v.1 = nm)
theorem cJ_zero (p:Pk) (m:Bool) (nm:Bs):(if m = true ∧ nm = p.nm then true else if m = false ∧ nm = p.nm then true else false) = cJ p 0 m nm:=by
 unfold cJ
 cases m with
 | false=>by_cases h:nm = p.nm <;> simp [h,eq_comm]
 | true=>by_cases h:nm = p.nm <;> simp [h,eq_comm]
theorem cJ_succ (p:Pk) (j:Nat) (v:Pv) (hv:p.prv[j]? = some v) (m:Bool) (nm:Bs):(if m = true ∧ nm = v.1 then true else cJ p j m nm) = cJ p (j + 1) m nm:=by
 unfold cJ
 cases m with
 | false=>simp
 | true =>
  have e:p.prv.take (j + 1) = p.prv.take j ++ [v]:=by
   obtain ⟨h1,h2⟩:=List.getElem?_eq_some_iff.1 hv
   rw [List.take_succ_eq_append_getElem h1,h2]
  simp only [true_and]
  rw [e,List.any_append]
  by_cases h:nm = v.1
  ·simp [h]
  ·have h':¬ v.1 = nm:=fun hh=>h hh.symm
   simp [h,h']
theorem cJ_all (xs:List Pk) (k:Nat) (m:Bool) (nm:Bs):cJ (xs.getD k nPk) (xs.getD k nPk).prv.length m nm = ff xs m nm k:=by
 unfold cJ ff stands
 cases m with
 | false=>rfl
 | true=>rw [List.take_of_length_le (Nat.le_refl _)]
/-! ### an index -/
def Sorts (l xs:List Pk):Prop:=xs.Perm l ∧ ∀ i j,i < j → j < xs.length → ¬ cmpP (xs.getD j nPk) (xs.getD i nPk) < 0
def Mrd (w:World) (b:Nat) (g:Bs → List Nat):Prop:=∃ (n:Nat) (hd:Bs → Value),n ≤ 60000 ∧ Hdr w b n hd (fun nm=>decide (g nm ≠ [])) ∧ ∀ nm,∃ M,w.ownsRow M 3 1 (hd nm) (g nm).length (ints (g nm))
theorem Mrd.below {w w':World} {b:Nat} {g:Bs → List Nat} (h:Mrd w b g) (hb:Below w.heap.size w w'):Mrd w' b g:=by
 obtain ⟨n,hd,h0,h1,h2⟩:=h
 exact ⟨n,hd,h0,h1.below hb,fun nm=>by obtain ⟨M,hM⟩:=h2 nm; exact ⟨M,Own.owns_below hM hb⟩⟩
def Idx (w:World) (pb:Nat) (xs:List Pk):Prop:=∃ (pv:Value) (bn bs:Nat),Blk.Is w pb 76 #[pv,.map (some bn),.map (some bs)] ∧ Pks w pv xs ∧ Mrd w bn (gK xs xs.length false) ∧ Mrd w bs (gK xs xs.length true)
theorem Idx.below {w w':World} {pb:Nat} {xs:List Pk} (h:Idx w pb xs) (hb:Below w.heap.size w w'):Idx w' pb xs:=by
 obtain ⟨pv,bn,bs,h1,h2,h3,h4⟩:=h
 exact ⟨pv,bn,bs,Rl.is_on h1 hb,h2.below hb,Mrd.below h3 hb,Mrd.below h4 hb⟩
theorem Gs.rd {w:World} {M:Nat} {bm:Bool → Nat} {g:Bool → Bs → List Nat} {n:Nat} (h:Gs w M bm g n) (hn:n ≤ 60000) (m:Bool):Mrd w (bm m) (g m):=by
 obtain ⟨_,_,_,_,hd,h4,h5,_⟩:=h
 exact ⟨n,hd m,hn,h4 m,fun nm=>⟨M,h5 m nm⟩⟩
end Ix
end Go.Proofs.YtelofmeapplfpaaGreatDoor
namespace Go.Proofs.YtelofmeapplfpaaGreatDoor
open Go.RowKit
set_option linter.unusedSimpArgs false
set_option linter.unusedVariables false
namespace Ix
open Ver (Bs cmpV sameV orr)
open Rl (At Pv isV)
open Rc (Pk nPk mayAll twice again)
theorem orr_zero {p q:Int} (h:orr p q = 0):p = 0 ∧ q = 0:=by
 unfold orr at h
 split at h
 ·rename_i h1
  simp only [bne_iff_ne,ne_eq] at h1
  exact absurd h h1
 ·rename_i h1
  refine ⟨by simpa using h1,h⟩
theorem again_of {p q:Pk} (hp:isV p.vs = true) (hq:isV q.vs = true) (h:cmpP p q = 0):again p q = true:=by
 unfold cmpP at h
 obtain ⟨h1,h2⟩:=orr_zero h
 unfold again sameV
 rw [cb_zero h1]
 have h3:cmpV p.vs q.vs = 0:=by rw [Ver.cmpV_turn]; omega
 unfold isV at hp hq
 simp [h3,hp,hq]
theorem twice_no {l:List Pk} (h:twice l = false) {i j:Nat} (hij:i < j) (hj:j < l.length):again (l.getD j nPk) (l.getD i nPk) = false:=by
 unfold twice at h
 rw [List.any_eq_false] at h
 have h1:=h j (List.mem_range.2 hj)
 rw [Bool.not_eq_true,List.any_eq_false] at h1
 have h2:=h1 (l.getD i nPk) (by
  rw [List.mem_iff_getElem?]
  refine ⟨i,?_⟩
  rw [List.getElem?_take,if_pos hij,List.getD_eq_getElem?_getD,List.getElem?_eq_getElem (by omega)]
  rfl)
 simpa using h2
theorem one_of {l:List Pk} (h:MayL l) {p q:Pk} (hp:p ∈ l) (hq:q ∈ l) (h0:cmpP p q = 0):p = q:=by
 obtain ⟨i,hi⟩:=List.mem_iff_getElem?.1 hp
 obtain ⟨j,hj⟩:=List.mem_iff_getElem?.1 hq
 have il:=(List.getElem?_eq_some_iff.1 hi).1
 have jl:=(List.getElem?_eq_some_iff.1 hj).1
 have gi:=get_getD hi nPk
 have gj:=get_getD hj nPk
 have vp:=(h.each p hp).ver
 have vq:=(h.each q hq).ver
 rcases Nat.lt_trichotomy i j with h1 | h1 | h1
 ·have:=twice_no h.once h1 jl
  rw [gi,gj,again_of vq vp (by rw [cmpP_turn]; omega)] at this
  cases this
 ·subst h1
  rw [hi] at hj
  exact Option.some.inj hj
 ·have:=twice_no h.once h1 il
  rw [gi,gj,again_of vp vq h0] at this
  cases this
theorem Sorts.pairwise {l xs:List Pk} (h:Sorts l xs):xs.Pairwise fun p q=>¬ cmpP q p < 0:=by
 rw [List.pairwise_iff_getElem]
 intro i j hi hj hij
 have:=h.2 i j hij hj
 rw [List.getD_eq_getElem?_getD,List.getElem?_eq_getElem hj,List.getD_eq_getElem?_getD,List.getElem?_eq_getElem hi] at this
 exact this
theorem sorts_one {l m xs ys:List Pk} (h:MayL l) (hm:m.Perm l) (hx:Sorts l xs) (hy:Sorts m ys):xs = ys:=by
 refine List.Perm.eq_of_pairwise (le:=fun p q=>¬ cmpP q p < 0) (fun a b ha hb h1 h2=>?_) hx.pairwise hy.pairwise (hx.1.trans (hm.symm.trans hy.1.symm))
 have ha':=hx.1.mem_iff.1 ha
 have hb':=hm.mem_iff.1 (hy.1.mem_iff.1 hb)
 refine one_of h ha' hb' ?_
 have:=cmpP_turn a b
 omega
end Ix
end Go.Proofs.YtelofmeapplfpaaGreatDoor

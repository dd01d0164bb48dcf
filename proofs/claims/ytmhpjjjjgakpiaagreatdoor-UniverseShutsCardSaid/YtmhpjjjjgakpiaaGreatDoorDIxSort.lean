/-
Packages in a row of the call's own that is written in place: the cells of each, and where their lists lie. slices.SortFunc at packages, by index.order.
-/
import Derived.Test.YtmhpjjjjgakpiaaGreatDoorDIxOrd
import Derived.Deep.MidRow
import Derived.Shelf.SlSortCmp.NoneTotal
namespace Go.Proofs.YtmhpjjjjgakpiaaGreatDoor
open Go.RowKit
set_option linter.unusedSimpArgs false
set_option linter.unusedVariables false
namespace Ix
open Rl (At Ats Clss Slc isV mem_getD)
open Rc (Pk nPk PkC Pks Has)
theorem choose_list {α:Type} {P:Nat → α → Prop}:∀ n:Nat,(∀ i,i < n → ∃ x,P i x) → ∃ l:List α,l.length = n ∧ ∀ i x,l[i]? = some x → P i x
 | 0,_=>⟨[],rfl,fun i x h=>by simp at h⟩
 | n + 1,h=>by
  obtain ⟨l,h1,h2⟩:=choose_list n fun i hi=>h i (by omega)
  obtain ⟨y,hy⟩:=h n (by omega)
  refine ⟨l ++ [y],by simp [h1],fun i x hx=>?_⟩
  by_cases hi:i < l.length
  ·rw [List.getElem?_append_left hi] at hx
   exact h2 i x hx
  ·rw [List.getElem?_append_right (by omega)] at hx
   have:i = n:=by
    by_cases e:i - l.length = 0
    ·omega
    ·rw [List.getElem?_eq_none (by simp; omega)] at hx; cases hx
   subst this
   rw [h1,Nat.sub_self] at hx
   simp at hx
   subst hx
   exact hy
theorem get_getD {α:Type} {l:List α} {i:Nat} {x:α} (h:l[i]? = some x) (z:α):l.getD i z = x:=by rw [List.getD_eq_getElem?_getD,h]; rfl
/-! ### a row of packages -/
def Row (w:World) (R:Nat) (d:List El):Prop:=∀ i x,d[i]? = some x → ∀ j v,x.enc[j]? = some v → w.cell? ⟨R,9 * i + j,none⟩ = some v ∧ w.frozen? ⟨R,9 * i + j,none⟩ = false
def Ok (w:World) (R:Nat) (x:El):Prop:=∀ u,Blk.Chg (fun k=>k = R) w u → Has u x.pk x.u1 x.u2 x.u3 x.u4 x.u5 x.u6
theorem Ok.on {w w':World} {R:Nat} {x:El} (h:Ok w R x) (hc:Blk.Chg (fun k=>k = R) w w'):Ok w' R x:=fun u hu=>h u (hc.trans hu)
theorem Ok.here {w:World} {R:Nat} {x:El} (h:Ok w R x):Has w x.pk x.u1 x.u2 x.u3 x.u4 x.u5 x.u6:=h w (Blk.Chg.refl _ _)
theorem Row.below {w w':World} {R:Nat} {d:List El} (h:Row w R d) (hb:Below w.heap.size w w'):Row w' R d:=fun i x hx j v hv=>by
 obtain ⟨h1,h2⟩:=h i x hx j v hv
 exact ⟨Rl.cell_on h1 hb,(hb.frozen (Ver.lt_cell h1)).trans h2⟩
theorem Row.set {w:World} {R:Nat} {d:List El} (h:Row w R d) {i:Nat} (hi:i < d.length) (x:El):Row (w.setCells R (9 * i) x.enc) R (d.set i x):=fun k y hy j v hv=>by
 have hj:j < 9:=by have:=(List.getElem?_eq_some_iff.1 hv).1; exact this
 have he:∀ z:El,z.enc.length = 9:=fun z=>rfl
 rw [World.frozen?_setCells]
 have hkl:k < d.length:=by have:=(List.getElem?_eq_some_iff.1 hy).1; simpa using this
 obtain ⟨z,hz⟩:∃ z,d[k]? = some z:=⟨d[k],List.getElem?_eq_getElem hkl⟩
 obtain ⟨v',hv'⟩:∃ v',z.enc[j]? = some v':=⟨z.enc[j]'(by rw [he]; exact hj),List.getElem?_eq_getElem _⟩
 have hold:=h k z hz j v' hv'
 refine ⟨?_,hold.2⟩
 by_cases e:k = i
 ·subst e
  rw [List.getElem?_set_self hi] at hy
  cases hy
  have hin:=World.cell?_setCells_in R x.enc (9 * k) w (fun j' hj'=>by
   obtain ⟨v2,hv2⟩:∃ v2,z.enc[j']? = some v2:=⟨z.enc[j']'(by rw [he]; exact hj'),List.getElem?_eq_getElem _⟩
   rw [(h k z hz j' v2 hv2).1]; rfl) j (by rw [he]; exact hj)
  rw [hin]
  exact hv ▸ (List.getElem?_eq_getElem (by rw [he]; exact hj)).symm
 ·rw [List.getElem?_set_ne (fun h=>e h.symm),hz] at hy
  cases hy
  rw [hv'] at hv
  cases hv
  rw [World.cell?_setCells_out R x.enc (9 * i) w _ (fun _ _=>by show 9 * k + j < 9 * i ∨ 9 * i + x.enc.length ≤ 9 * k + j; rw [he]; omega)]
  exact hold.1
theorem Row.range {w:World} {R:Nat} {d:List El} (h:Row w R d) {i:Nat} {x:El} (hx:d[i]? = some x):w.rangeAt R (9 * i) x.enc:=fun j v hv=>(h i x hx j v hv).1
theorem Row.there {w:World} {R:Nat} {d:List El} (h:Row w R d) {i:Nat} {x:El} (hx:d[i]? = some x):w.there R (9 * i) 9:=fun j hj=>by
 obtain ⟨v,hv⟩:∃ v,x.enc[j]? = some v:=⟨x.enc[j]'hj,List.getElem?_eq_getElem _⟩
 have:=h i x hx j v hv
 exact ⟨by rw [this.1]; rfl,this.2⟩
def PRow (w:World) (B:Nat) (v:Value) (d:List El):Prop :=
 ∃ a cap,v = .slice a d.length cap ∧ d.length ≤ cap ∧ (0 < d.length → ∃ R,a = some ⟨R,0,none⟩ ∧ B ≤ R ∧ R < w.heap.size ∧ Row w R d ∧ ∀ x ∈ d,Ok w R x)
theorem PRow.below {w w':World} {B:Nat} {v:Value} {d:List El} (h:PRow w B v d) (hb:Below w.heap.size w w'):PRow w' B v d:=by
 obtain ⟨a,cap,h1,h2,h3⟩:=h
 refine ⟨a,cap,h1,h2,fun h0=>?_⟩
 obtain ⟨R,r1,r2,r3,r4,r5⟩:=h3 h0
 exact ⟨R,r1,r2,Nat.lt_of_lt_of_le r3 hb.size,r4.below hb,fun x hx=>(r5 x hx).on (Blk.Chg.ofBelow' hb)⟩
theorem PRow.pks {w:World} {B:Nat} {v:Value} {d:List El} (h:PRow w B v d) (hd:d.length ≤ 1152921504606846976):Pks w v (d.map El.pk):=by
 obtain ⟨a,cap,h1,h2,h3⟩:=h
 refine ⟨by rw [List.length_map]; exact hd,a,cap,by rw [List.length_map]; exact h1,by rw [List.length_map]; exact h2,fun h0=>?_⟩
 rw [List.length_map] at h0
 obtain ⟨R,r1,r2,r3,r4,r5⟩:=h3 h0
 refine ⟨R,0,r1,fun i hi=>?_⟩
 rw [List.length_map] at hi
 obtain ⟨x,hx⟩:∃ x,d[i]? = some x:=⟨d[i],List.getElem?_eq_getElem hi⟩
 have e:(d.map El.pk).getD i nPk = x.pk:=get_getD (by rw [List.getElem?_map,hx]; rfl) _
 rw [e]
 have hm:x ∈ d:=List.mem_of_getElem? hx
 refine ⟨x.enc,⟨_,_,_,_,_,_,rfl,(r5 x hm).here⟩,fun j u hj=>?_⟩
 rw [Nat.zero_add]
 exact (r4 i x hx j u hj).1
/-! ### packages as they came in -/
structure Fit (p:Pk):Prop where
 ver:isV p.vs = true
 lim:p.Lim
def ElAt (w:World) (k o:Nat) (x:El):Prop:=∀ j u,x.enc[j]? = some u → w.cell? ⟨k,o + j,none⟩ = some u
theorem el_of {w:World} {cs:List Value} {p:Pk} (h:PkC w cs p) (hf:Fit p):∃ x:El,x.pk = p ∧ x.enc = cs ∧ Has w x.pk x.u1 x.u2 x.u3 x.u4 x.u5 x.u6:=by
 obtain ⟨u1,u2,u3,u4,u5,u6,rfl,hh⟩:=h
 refine ⟨⟨p,u1,u2,u3,u4,u5,u6,fun u hu=>?_,hf.ver,hf.lim.nm,hf.lim.vs⟩,rfl,rfl,hh⟩
 simp only [List.mem_cons,List.not_mem_nil,or_false] at hu
 rcases hu with rfl | rfl | rfl | rfl | rfl | rfl
 ·obtain ⟨a,c,e⟩:=hh.pre.shape; exact ⟨a,_,c,e⟩
 ·obtain ⟨a,c,e⟩:=hh.dep.shape; exact ⟨a,_,c,e⟩
 ·obtain ⟨a,c,e⟩:=hh.rcm.shape; exact ⟨a,_,c,e⟩
 ·obtain ⟨a,c,e⟩:=hh.con.shape; exact ⟨a,_,c,e⟩
 ·obtain ⟨a,c,e⟩:=hh.brk.shape; exact ⟨a,_,c,e⟩
 ·obtain ⟨a,c,e⟩:=hh.prv.shape; exact ⟨a,_,c,e⟩
theorem els_of {w:World} {v:Value} {l:List Pk} (h:Pks w v l) (hf:∀ p ∈ l,Fit p):∃ d:List El,d.map El.pk = l ∧ Slc 9 default ElAt w v d ∧ ∀ x ∈ d,Has w x.pk x.u1 x.u2 x.u3 x.u4 x.u5 x.u6:=by
 obtain ⟨h0,a,cap,h1,h2,h3⟩:=h
 by_cases hl:0 < l.length
 ·obtain ⟨k,off,rfl,hat⟩:=h3 hl
  obtain ⟨d,d1,d2⟩:=choose_list (P:=fun i (x:El)=>x.pk = l.getD i nPk ∧ (∀ j u,x.enc[j]? = some u → w.cell? ⟨k,off + 9 * i + j,none⟩ = some u) ∧ Has w x.pk x.u1 x.u2 x.u3 x.u4 x.u5 x.u6) l.length (fun i hi=>by
   obtain ⟨cs,c1,c2⟩:=hat i hi
   obtain ⟨x,x1,x2,x3⟩:=el_of c1 (hf _ (mem_getD hi))
   exact ⟨x,x1,fun j u hj=>c2 j u (by rw [← x2]; exact hj),x3⟩)
  have hm:d.map El.pk = l:=by
   apply List.ext_getElem?
   intro i
   rw [List.getElem?_map]
   by_cases hi:i < l.length
   ·obtain ⟨x,hx⟩:∃ x,d[i]? = some x:=⟨d[i]'(by omega),List.getElem?_eq_getElem (by omega)⟩
    rw [hx,List.getElem?_eq_getElem hi]
    have:=(d2 i x hx).1
    rw [List.getD_eq_getElem?_getD,List.getElem?_eq_getElem hi] at this
    exact congrArg some this
   ·rw [List.getElem?_eq_none (by omega),List.getElem?_eq_none (by omega)]; rfl
  refine ⟨d,hm,⟨by omega,_,cap,by rw [d1]; exact h1,by omega,fun _=>⟨k,off,rfl,fun i hi=>?_⟩⟩,fun x hx=>?_⟩
  ·obtain ⟨x,hx⟩:∃ x,d[i]? = some x:=⟨d[i],List.getElem?_eq_getElem hi⟩
   rw [get_getD hx]
   exact (d2 i x hx).2.1
  ·obtain ⟨i,hi⟩:=List.mem_iff_getElem?.1 hx
   exact (d2 i x hi).2.2
 ·have:l = []:=List.eq_nil_of_length_eq_zero (by omega)
  subst this
  exact ⟨[],rfl,⟨by simp,a,cap,h1,h2,fun h=>absurd h (by simp)⟩,fun x hx=>by cases hx⟩
abbrev Sl:Type:={ u:Value // u.oneCell' = true }
def SlAt (w:World) (k o:Nat) (x:Sl):Prop:=w.cell? ⟨k,o,none⟩ = some x.1
theorem sls_of {w:World} {v:Value} {l:List (List At)} (h:Clss w v l):∃ d:List Sl,d.length = l.length ∧ Slc 1 ⟨.slice none 0 0,rfl⟩ SlAt w v d ∧ ∀ i x,d[i]? = some x → Ats w x.1 (l.getD i []):=by
 obtain ⟨h0,a,cap,h1,h2,h3⟩:=h
 by_cases hl:0 < l.length
 ·obtain ⟨k,off,rfl,hat⟩:=h3 hl
  obtain ⟨d,d1,d2⟩:=choose_list (P:=fun i (x:Sl)=>SlAt w k (off + 1 * i) x ∧ Ats w x.1 (l.getD i [])) l.length (fun i hi=>by
   obtain ⟨u,c1,c2⟩:=hat i hi
   refine ⟨⟨u,?_⟩,c1,c2⟩
   obtain ⟨a,c,e⟩:=c2.shape
   rw [e]; rfl)
  refine ⟨d,d1,⟨by omega,_,cap,by rw [d1]; exact h1,by omega,fun _=>⟨k,off,rfl,fun i hi=>?_⟩⟩,fun i x hx=>(d2 i x hx).2⟩
  obtain ⟨x,hx⟩:∃ x,d[i]? = some x:=⟨d[i],List.getElem?_eq_getElem hi⟩
  rw [get_getD hx]
  exact (d2 i x hx).1
 ·have:l = []:=List.eq_nil_of_length_eq_zero (by omega)
  subst this
  exact ⟨[],rfl,⟨by simp,a,cap,h1,h2,fun h=>absurd h (by simp)⟩,fun i x hx=>by simp at hx⟩
end Ix
end Go.Proofs.YtmhpjjjjgakpiaaGreatDoor
namespace Go.Proofs.YtmhpjjjjgakpiaaGreatDoor
open Go.RowKit
set_option linter.unusedSimpArgs false
set_option linter.unusedVariables false
namespace Ix
open Go.Sort (HoldsK putRowK)
theorem holds_row {w:World} {R:Nat} {d:List El} (h:Row w R d):HoldsK El.enc 9 w R 0 d.toArray:=by
 intro t ht
 rw [Sort.size_flatK] at ht
 rw [Sort.get_flatK _ _ _ _ ht,Nat.zero_add]
 have hsz:d.toArray.size = d.length:=by simp
 rw [hsz] at ht
 have hi:t / 9 < d.length:=Nat.div_lt_of_lt_mul (by omega)
 have hj:t % 9 < 9:=Nat.mod_lt _ (by omega)
 have hx:d[t / 9]? = some d[t / 9]:=List.getElem?_eq_getElem hi
 obtain ⟨x,ex⟩:∃ x,d[t / 9] = x:=⟨_,rfl⟩
 have e1:d.toArray[t / 9]! = x:=by rw [← ex]; simp [hi]
 rw [ex] at hx
 rw [e1]
 obtain ⟨v,hv⟩:∃ v,x.enc[t % 9]? = some v:=⟨_,List.getElem?_eq_getElem (l:=x.enc) hj⟩
 have e2:x.enc[t % 9]! = v:=by
  rw [getElem!_pos x.enc (t % 9) hj]
  exact (List.getElem?_eq_some_iff.1 hv).2
 show w.cell? _ = some (x.enc[t % 9]!) ∧ _
 rw [e2]
 have:=h (t / 9) x hx (t % 9) v hv
 rwa [Nat.div_add_mod] at this
theorem row_holds {w:World} {R:Nat} {a:Array El} (h:HoldsK El.enc 9 w R 0 a):Row w R a.toList:=by
 intro i x hx j v hv
 have hi:i < a.size:=by have:=(List.getElem?_eq_some_iff.1 hx).1; simpa using this
 have hj:j < 9:=(List.getElem?_eq_some_iff.1 hv).1
 have e1:a[i]! = x:=by
  rw [getElem!_pos a i hi]
  have:=(List.getElem?_eq_some_iff.1 hx).2
  simpa using this
 have:=h.cell hi hj
 rw [e1,Nat.zero_add] at this
 have e2:x.enc[j]! = v:=by
  rw [getElem!_pos x.enc j hj]
  exact (List.getElem?_eq_some_iff.1 hv).2
 rw [e2,Nat.mul_comm i 9] at this
 exact this
theorem sort_chg (w:World) (R n:Nat) (a:Array El) (os:Array Obj):Blk.Chg (fun k=>k = R) w (sortWorldK El.enc 9 w R 0 n a os):=by
 unfold sortWorldK putRowK Sort.putRow
 refine ⟨rfl,rfl,rfl,?_,fun k hk hn=>?_⟩
 ·rw [Sort.size_grow]
  simp [Sort.mapBlock,Sort.ahead]
 ·rw [Sort.heap_grow_old _ _ (by simpa [Sort.mapBlock,Sort.ahead] using hk)]
  simp only [Sort.mapBlock,Sort.ahead,Array.getElem?_modify]
  rw [if_neg (fun e=>hn e.symm)]
set_option maxHeartbeats 2000000 in
theorem sort_any (v:Value) (d:List El) (w:World) {B:Nat} (h:PRow w B v d) (hm:Ver.MaxLen w) (hg:1 < B) (hl:d.length ≤ 60000) :
  Calls Tryz.prog 67 #[v,.func (.func 68) #[] #[]] w fun e w'=>e = .returned (.tuple #[]) ∧ ∃ d':List El,d'.Perm d ∧ (∀ i j,i < j → j < d'.length → ¬ cmpE (d'.getD j default) (d'.getD i default) < 0) ∧ PRow w' B v d' ∧ Blk.Chg (fun k=>0 < d.length ∧ v.ownBlock = some k) w w':=by
 obtain ⟨a,cap,rfl,hc,hr⟩:=h
 rcases Nat.eq_zero_or_pos d.length with h0 | h0
 ·have hd:d = []:=List.eq_nil_of_length_eq_zero h0
  subst hd
  have hcon:=AnyF.slices_SortFunc_none (P:=Tryz.prog) (ρ:=Tryz.sortPk_ren) Tryz.sortPk a cap (.func (.func 68) #[] #[]) w
  change Calls Tryz.prog 67 _ _ _ at hcon
  refine hcon.mono ?_
  rintro e w' ⟨rfl,rfl⟩
  exact ⟨rfl,[],List.Perm.refl _,fun i j _ hj=>by simp at hj,⟨a,cap,rfl,hc,fun h=>absurd h (by simp)⟩,Blk.Chg.refl _ _⟩
 ·obtain ⟨R,rfl,hB,hR,hrow,hok⟩:=hr h0
  have eg:∀ args w,(callFunc 68 args).run Tryz.prog w = .ok (.enter 68 args) w:=enters_of Tryz.func68 (by kernel_rfl) rfl
  have hH:=holds_row hrow
  have hcon:=AnyQ.slices_SortFunc (P:=Tryz.prog) (ρ:=Tryz.sortPk_ren) Tryz.sortPk 9 Tryz.isAgg40 Tryz.sizeOf40 El.enc (fun _=>rfl) El.one cmpE swo 68 #[] R 0 cap d.toArray w eg (cmpLays R 0 d.toArray.size w hm (by omega)) hH hR (by simp; omega)
  change Calls Tryz.prog 67 _ _ _ at hcon
  have hsz:d.toArray.size = d.length:=by simp
  rw [hsz] at hcon
  refine hcon.mono ?_
  rintro e w' ⟨rfl,a',n,os,hp,hs,rfl⟩
  obtain ⟨p1,_,p2⟩:=hp
  rw [hsz] at p1
  have hperm:a'.toList.Perm d:=by
   have e1:(a'.extract 0 d.length).toList = a'.toList:=by rw [← p1]; simp
   have e2:(d.toArray.extract 0 d.length).toList = d:=by simp
   rw [e1,e2] at p2
   exact p2
  have hlen:a'.toList.length = d.length:=by simpa using p1
  have hch:=sort_chg w R n a' os
  refine ⟨rfl,a'.toList,hperm,fun i j hij hj=>?_,⟨_,_,by rw [hlen],by rw [hlen]; exact hc,fun _=>⟨R,rfl,hB,Nat.lt_of_lt_of_le hR hch.size,?_,fun x hx=>(hok x (hperm.mem_iff.1 hx)).on hch⟩⟩,hch.mono fun k _ hk=>⟨h0,by rw [hk]; rfl⟩⟩
  ·have:=hs i j (Nat.zero_le _) hij (by rw [← hlen]; exact hj)
   unfold ltOf at this
   rw [decide_eq_false_iff_not] at this
   have g:∀ k,k < a'.toList.length → a'.toList.getD k default = a'[k]!:=fun k hk=>by
    have hk':k < a'.size:=by simpa using hk
    rw [List.getD_eq_getElem?_getD,List.getElem?_eq_getElem hk,getElem!_pos a' k hk']
    simp
   rw [g i (by omega),g j hj]
   exact this
  ·exact row_holds (holdsK_sortWorldK_c El.enc 9 w R 0 d.toArray a' n os hH hR (by rw [p1]; simp))
end Ix
end Go.Proofs.YtmhpjjjjgakpiaaGreatDoor

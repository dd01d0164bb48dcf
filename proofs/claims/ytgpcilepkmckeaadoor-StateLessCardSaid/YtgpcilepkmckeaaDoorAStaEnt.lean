/-
Entries in a row of the call's own that is written in place: the cells of each, and where their lists lie.
-/
import Derived.Test.YtgpcilepkmckeaaDoorAStaMath
import Derived.Test.YtgpcilepkmckeaaDoorARecBare
import Derived.Deep.MidRow
namespace Go.Proofs.YtgpcilepkmckeaaDoor
open Go.RowKit
set_option linter.unusedSimpArgs false
set_option linter.unusedVariables false
namespace Sa
open Ver (Bs S)
open Rl (At Slc mem_getD)
open Rc (Pk nPk En nEn EnC CAt Has Ens infoEn)
structure Ee where
 en:En
 u1:Value
 u2:Value
 u3:Value
 u4:Value
 u5:Value
 u6:Value
 sl:∀ u ∈ [u1,u2,u3,u4,u5,u6],∃ a n c,u = Value.slice a n c
instance:Inhabited Ee:=⟨⟨nEn,.slice none 0 0,.slice none 0 0,.slice none 0 0,.slice none 0 0,.slice none 0 0,.slice none 0 0,fun u hu=>by simp at hu; exact ⟨none,0,0,hu⟩⟩⟩
def Ee.enc (x:Ee):List Value:=[.string (S x.en.pk.nm),.string (S x.en.pk.vs),x.u1,x.u2,x.u3,x.u4,x.u5,x.u6,.bool x.en.pk.ess,.bool x.en.cfg,.bool x.en.hld]
theorem Ee.one (x:Ee):∀ u ∈ x.enc,u.oneCell' = true:=by
 intro u hu
 unfold Ee.enc at hu
 simp only [List.mem_cons,List.not_mem_nil,or_false] at hu
 have h:∀ v ∈ [x.u1,x.u2,x.u3,x.u4,x.u5,x.u6],v.oneCell' = true:=fun v hv=>by
  obtain ⟨a,n,c,e⟩:=x.sl v hv
  rw [e]; rfl
 simp only [List.mem_cons,List.not_mem_nil,or_false] at h
 rcases hu with rfl | rfl | e | e | e | e | e | e | rfl | rfl | rfl
 ·rfl
 ·rfl
 ·exact h u (.inl e)
 ·exact h u (.inr (.inl e))
 ·exact h u (.inr (.inr (.inl e)))
 ·exact h u (.inr (.inr (.inr (.inl e))))
 ·exact h u (.inr (.inr (.inr (.inr (.inl e)))))
 ·exact h u (.inr (.inr (.inr (.inr (.inr e)))))
 ·rfl
 ·rfl
 ·rfl
def EeAt (w:World) (k o:Nat) (x:Ee):Prop:=∀ j u,x.enc[j]? = some u → w.cell? ⟨k,o + j,none⟩ = some u
def Ee.Is (x:Ee) (w:World):Prop:=Has w x.en.pk x.u1 x.u2 x.u3 x.u4 x.u5 x.u6
theorem Ee.Is.below {x:Ee} {w w':World} (h:x.Is w) (hb:Below w.heap.size w w'):x.Is w':=Has.below h hb
theorem choose_list {α:Type} {P:Nat → α → Prop}:∀ n:Nat,(∀ i,i < n → ∃ x,P i x) → ∃ l:List α,l.length = n ∧ ∀ i x,l[i]? = some x → P i x
 | 0,_=>⟨[],rfl,fun i x h=>by simp at h⟩
 | n + 1,h=>by
  obtain ⟨l,h1,h2⟩:=choose_list n fun i hi=>h i (by omega)
  obtain ⟨y,hy⟩:=h n (by omega)
  refine ⟨l ++ [y],by simp [h1],fun i x hx=>?_⟩
  by_cases hi:i < l.length
  ·rw [List.getElem?_append_left hi] at hx
   exact h2 i x hx
  ·rw [List.getElem?_append_right (by omega)] at hx
   have:i = n:=by
    by_cases e:i - l.length = 0
    ·omega
    ·rw [List.getElem?_eq_none (by simp; omega)] at hx; cases hx
   subst this
   rw [h1,Nat.sub_self] at hx
   simp at hx
   subst hx
   exact hy
theorem get_getD {α:Type} {l:List α} {i:Nat} {x:α} (h:l[i]? = some x) (z:α):l.getD i z = x:=by rw [List.getD_eq_getElem?_getD,h]; rfl
theorem ee_of {w:World} {cs:List Value} {p:En} (h:EnC w cs p):∃ x:Ee,x.en = p ∧ x.enc = cs ∧ x.Is w:=by
 obtain ⟨u1,u2,u3,u4,u5,u6,rfl,hh⟩:=h
 refine ⟨⟨p,u1,u2,u3,u4,u5,u6,fun u hu=>?_⟩,rfl,rfl,hh⟩
 simp only [List.mem_cons,List.not_mem_nil,or_false] at hu
 rcases hu with rfl | rfl | rfl | rfl | rfl | rfl
 ·obtain ⟨a,c,e⟩:=hh.pre.shape; exact ⟨a,_,c,e⟩
 ·obtain ⟨a,c,e⟩:=hh.dep.shape; exact ⟨a,_,c,e⟩
 ·obtain ⟨a,c,e⟩:=hh.rcm.shape; exact ⟨a,_,c,e⟩
 ·obtain ⟨a,c,e⟩:=hh.con.shape; exact ⟨a,_,c,e⟩
 ·obtain ⟨a,c,e⟩:=hh.brk.shape; exact ⟨a,_,c,e⟩
 ·obtain ⟨a,c,e⟩:=hh.prv.shape; exact ⟨a,_,c,e⟩
theorem ees_of {w:World} {v:Value} {l:List En} (h:Ens w v l):∃ d:List Ee,d.map Ee.en = l ∧ Slc 11 default EeAt w v d ∧ ∀ x ∈ d,x.Is w:=by
 obtain ⟨h0,a,cap,h1,h2,h3⟩:=h
 by_cases hl:0 < l.length
 ·obtain ⟨k,off,rfl,hat⟩:=h3 hl
  obtain ⟨d,d1,d2⟩:=choose_list (P:=fun i (x:Ee)=>x.en = l.getD i nEn ∧ (∀ j u,x.enc[j]? = some u → w.cell? ⟨k,off + 11 * i + j,none⟩ = some u) ∧ x.Is w) l.length (fun i hi=>by
   obtain ⟨cs,c1,c2⟩:=hat i hi
   obtain ⟨x,x1,x2,x3⟩:=ee_of c1
   exact ⟨x,x1,fun j u hj=>c2 j u (by rw [← x2]; exact hj),x3⟩)
  have hm:d.map Ee.en = l:=by
   apply List.ext_getElem?
   intro i
   rw [List.getElem?_map]
   by_cases hi:i < l.length
   ·obtain ⟨x,hx⟩:∃ x,d[i]? = some x:=⟨d[i]'(by omega),List.getElem?_eq_getElem (by omega)⟩
    rw [hx,List.getElem?_eq_getElem hi]
    have:=(d2 i x hx).1
    rw [List.getD_eq_getElem?_getD,List.getElem?_eq_getElem hi] at this
    exact congrArg some this
   ·rw [List.getElem?_eq_none (by omega),List.getElem?_eq_none (by omega)]; rfl
  refine ⟨d,hm,⟨by omega,_,cap,by rw [d1]; exact h1,by omega,fun _=>⟨k,off,rfl,fun i hi=>?_⟩⟩,fun x hx=>?_⟩
  ·obtain ⟨x,hx⟩:∃ x,d[i]? = some x:=⟨d[i],List.getElem?_eq_getElem hi⟩
   rw [get_getD hx]
   exact (d2 i x hx).2.1
  ·obtain ⟨i,hi⟩:=List.mem_iff_getElem?.1 hx
   exact (d2 i x hi).2.2
 ·have:l = []:=List.eq_nil_of_length_eq_zero (by omega)
  subst this
  exact ⟨[],rfl,⟨by simp,a,cap,h1,h2,fun h=>absurd h (by simp)⟩,fun x hx=>by cases hx⟩
theorem EeAt.below {w w':World} {k o:Nat} {x:Ee} (h:EeAt w k o x) (hb:Below w.heap.size w w'):EeAt w' k o x:=fun j u hj=>Rl.cell_on (h j u hj) hb
theorem ees_src {w:World} {v:Value} {l:List Ee} (h:Slc 11 default EeAt w v l):Src Tryd.prog 11 22 v l.length (l.flatMap Ee.enc) w:=by
 obtain ⟨h0,a,cap,rfl,hc,hr⟩:=h
 have hlen:(l.flatMap Ee.enc).length = l.length * 11:=by
  clear h0 hc hr
  induction l with
  | nil=>simp
  | cons x l ih=>rw [List.flatMap_cons,List.length_append,ih,List.length_cons,Nat.add_mul,show x.enc.length = 11 from rfl]; omega
 have hone:∀ u ∈ l.flatMap Ee.enc,u.oneCell' = true:=fun u hu=>by
  obtain ⟨x,_,hx⟩:=List.mem_flatMap.1 hu
  exact x.one u hx
 by_cases hl:0 < l.length
 ·obtain ⟨k,off,rfl,hat⟩:=hr hl
  refine Src.ofSlice w Tryd.underlying22 ⟨k,off,none⟩ l.length cap _ hlen (fun j u hj=>?_) hone
  have hjl:=(List.getElem?_eq_some_iff.1 hj).1
  rw [hlen] at hjl
  have hi:j / 11 < l.length:=Nat.div_lt_of_lt_mul (by rw [Nat.mul_comm]; exact hjl)
  have hm:j % 11 < 11:=Nat.mod_lt _ (by omega)
  obtain ⟨x,hx⟩:∃ x,l[j / 11]? = some x:=⟨l[j / 11],List.getElem?_eq_getElem hi⟩
  have h5:=hat _ hi
  rw [get_getD hx] at h5
  have hf:=Rl.flat_at Ee.enc 11 (fun _=>rfl) l (j / 11) (j % 11) x hx hm
  rw [Nat.div_add_mod] at hf
  rw [hf] at hj
  have:=h5 _ _ hj
  rw [Nat.add_assoc,Nat.div_add_mod] at this
  have e:(⟨k,off,none⟩:Addr).add j = ⟨k,off + j,none⟩:=by cases j <;> simp [Addr.add]
  rw [e]; exact this
 ·have:l = []:=List.eq_nil_of_length_eq_zero (by omega)
  subst this
  cases a with
  | none=>exact Src.ofNil w Tryd.underlying22 cap
  | some a=>exact Src.ofSlice w Tryd.underlying22 a 0 cap [] (by simp) (fun j u hj=>by simp at hj) (fun u hu=>by cases hu)
theorem ee_at {w:World} {B:Nat} {R rc n:Nat} {ds:List Ee} (h:w.ownsRow B 38 11 (.slice (some ⟨R,0,none⟩) n rc) n (ds.flatMap Ee.enc)) {i:Nat} {x:Ee} (hx:ds[i]? = some x) {j:Nat} {u:Value} (hj:x.enc[j]? = some u):w.cell? ⟨R,i * 11 + j,none⟩ = some u:=by
 rw [Nat.mul_comm i 11]
 exact Rl.own_cell h (by rw [Rl.flat_at Ee.enc 11 (fun _=>rfl) ds i j x hx (List.getElem?_eq_some_iff.1 hj).1]; exact hj)
theorem own_ees {w:World} {B:Nat} {v:Value} {ds:List Ee} {n:Nat} (h:w.ownsRow B 38 11 v n (ds.flatMap Ee.enc)) (hn:ds.length = n) (hh:∀ x ∈ ds,x.Is w) (hl:n ≤ 1152921504606846976):Ens w v (ds.map Ee.en):=by
 obtain ⟨a,cap,rfl,hc⟩:=Rl.own_shape h
 refine ⟨by rw [List.length_map]; omega,a,cap,by rw [List.length_map,hn],by rw [List.length_map]; omega,fun h0=>?_⟩
 rw [List.length_map] at h0
 obtain ⟨R,c2,e,_⟩:=Rl.own_slice h (by omega)
 simp only [Value.slice.injEq,true_and] at e
 obtain ⟨rfl,rfl⟩:=e
 refine ⟨R,0,rfl,fun i hi=>?_⟩
 rw [List.length_map] at hi
 obtain ⟨x,hx⟩:∃ x,ds[i]? = some x:=⟨ds[i],List.getElem?_eq_getElem hi⟩
 have e:(ds.map Ee.en).getD i nEn = x.en:=get_getD (by rw [List.getElem?_map,hx]; rfl) _
 rw [e]
 refine ⟨x.enc,⟨_,_,_,_,_,_,rfl,hh x (List.mem_of_getElem? hx)⟩,fun j u hj=>?_⟩
 rw [Nat.zero_add,Nat.mul_comm 11 i]
 exact ee_at h hx hj
theorem flat_set:∀ (ds:List Ee) (i j:Nat) (x y:Ee) (u:Value),ds[i]? = some x → j < 11 → y.enc = x.enc.set j u → (ds.flatMap Ee.enc).set (i * 11 + j) u = (ds.set i y).flatMap Ee.enc
 | [],i,j,x,y,u,h,_,_=>by simp at h
 | z :: r,0,j,x,y,u,h,hj,he=>by
  simp at h
  subst h
  rw [List.flatMap_cons,Nat.zero_mul,Nat.zero_add,List.set_append_left _ _ (by rw [show z.enc.length = 11 from rfl]; exact hj),← he]
  rfl
 | z :: r,i + 1,j,x,y,u,h,hj,he=>by
  simp at h
  have ih:=flat_set r i j x y u h hj he
  have hz:z.enc.length = 11:=rfl
  rw [List.flatMap_cons,List.set_append_right _ _ (by rw [hz]; omega),hz,show (i + 1) * 11 + j - 11 = i * 11 + j by omega,ih]
  rfl
theorem ee_set {w:World} {B:Nat} {R rc n:Nat} {ds:List Ee} (h:w.ownsRow B 38 11 (.slice (some ⟨R,0,none⟩) n rc) n (ds.flatMap Ee.enc)) {i:Nat} {x y:Ee} (hx:ds[i]? = some x) {j:Nat} (hj:j < 11) {u:Value} (he:y.enc = x.enc.set j u):(w.setCell ⟨R,i * 11 + j,none⟩ u).ownsRow B 38 11 (.slice (some ⟨R,0,none⟩) n rc) n ((ds.set i y).flatMap Ee.enc):=by
 have hlt:i * 11 + j < (ds.flatMap Ee.enc).length:=by
  have hi:i < ds.length:=(List.getElem?_eq_some_iff.1 hx).1
  have:(ds.flatMap Ee.enc).length = ds.length * 11:=by
   clear h hx hi
   induction ds with
   | nil=>simp
   | cons x l ih=>rw [List.flatMap_cons,List.length_append,ih,List.length_cons,Nat.add_mul,show x.enc.length = 11 from rfl]; omega
  omega
 have:=Rl.own_set h hlt u
 rwa [flat_set ds i j x y u hx hj he] at this
/-! ### how such rows stand to what came in -/
structure EqH (x y:Ee):Prop where
 pk:x.en.pk = y.en.pk
 cfg:x.en.cfg = y.en.cfg
 u1:x.u1 = y.u1
 u2:x.u2 = y.u2
 u3:x.u3 = y.u3
 u4:x.u4 = y.u4
 u5:x.u5 = y.u5
 u6:x.u6 = y.u6
structure LeR (x y:Ee):Prop where
 cfg:x.en.cfg = y.en.cfg
 nm:x.en.pk.nm = y.en.pk.nm
 vs:x.en.pk.vs = y.en.pk.vs
 rcm:x.en.pk.rcm = y.en.pk.rcm ∧ x.u3 = y.u3
 prv:x.en.pk.prv = y.en.pk.prv ∧ x.u6 = y.u6
 pre:(x.en.pk.pre = y.en.pk.pre ∧ x.u1 = y.u1) ∨ (x.en.pk.pre = [] ∧ x.u1 = .slice none 0 0)
 dep:(x.en.pk.dep = y.en.pk.dep ∧ x.u2 = y.u2) ∨ (x.en.pk.dep = [] ∧ x.u2 = .slice none 0 0)
 con:(x.en.pk.con = y.en.pk.con ∧ x.u4 = y.u4) ∨ (x.en.pk.con = [] ∧ x.u4 = .slice none 0 0)
 brk:(x.en.pk.brk = y.en.pk.brk ∧ x.u5 = y.u5) ∨ (x.en.pk.brk = [] ∧ x.u5 = .slice none 0 0)
theorem EqH.le {x y:Ee} (h:EqH x y):LeR x y:=by
 obtain ⟨h1,h2,a,b,c,d,e,f⟩:=h
 exact ⟨h2,by rw [h1],by rw [h1],⟨by rw [h1],c⟩,⟨by rw [h1],f⟩,.inl ⟨by rw [h1],a⟩,.inl ⟨by rw [h1],b⟩,.inl ⟨by rw [h1],d⟩,.inl ⟨by rw [h1],e⟩⟩
def AllR (R:Ee → Ee → Prop) (ds d:List Ee):Prop:=ds.length = d.length ∧ ∀ (j:Nat) (x y:Ee),ds[j]? = some x → d[j]? = some y → R x y
theorem AllR.mono {R R':Ee → Ee → Prop} {ds d:List Ee} (h:AllR R ds d) (hR:∀ x y,R x y → R' x y):AllR R' ds d:=⟨h.1,fun j x y hx hy=>hR _ _ (h.2 j x y hx hy)⟩
theorem AllR.set {R:Ee → Ee → Prop} {ds d:List Ee} (h:AllR R ds d) {i:Nat} {x x':Ee} (hx:ds[i]? = some x) (hR:∀ y,R x y → R x' y):AllR R (ds.set i x') d:=by
 refine ⟨by rw [List.length_set]; exact h.1,fun j z y hz hy=>?_⟩
 by_cases e:j = i
 ·subst e
  rw [List.getElem?_set_self (List.getElem?_eq_some_iff.1 hx).1] at hz
  obtain rfl:=Option.some.inj hz
  exact hR y (h.2 j x y hx hy)
 ·rw [List.getElem?_set_ne (fun e2=>e e2.symm)] at hz
  exact h.2 j z y hz hy
theorem AllR.mem {R:Ee → Ee → Prop} {ds d:List Ee} (h:AllR R ds d) {x:Ee} (hx:x ∈ ds):∃ y ∈ d,R x y:=by
 obtain ⟨j,hj⟩:=List.mem_iff_getElem?.1 hx
 have hl:=(List.getElem?_eq_some_iff.1 hj).1
 obtain ⟨y,hy⟩:∃ y,d[j]? = some y:=⟨d[j]'(by rw [← h.1]; exact hl),List.getElem?_eq_getElem _⟩
 exact ⟨y,List.mem_of_getElem? hy,h.2 j x y hj hy⟩
theorem slc_no {α:Type} (sz:Nat) (z:α) (P:World → Nat → Nat → α → Prop) (w:World):Slc sz z P w (.slice none 0 0) []:=⟨by simp,none,0,rfl,by simp,fun h=>absurd h (by simp)⟩
theorem LeR.is {x y:Ee} (h:LeR x y) {w:World} (hy:y.Is w):x.Is w:=by
 obtain ⟨_,_,_,⟨c1,c2⟩,⟨d1,d2⟩,e,f,g,k⟩:=h
 refine ⟨?_,?_,?_,?_,?_,?_⟩
 ·rcases e with ⟨e1,e2⟩ | ⟨e1,e2⟩
  ·rw [e1,e2]; exact hy.pre
  ·rw [e1,e2]; exact slc_no _ _ _ _
 ·rcases f with ⟨e1,e2⟩ | ⟨e1,e2⟩
  ·rw [e1,e2]; exact hy.dep
  ·rw [e1,e2]; exact slc_no _ _ _ _
 ·rw [c1,c2]; exact hy.rcm
 ·rcases g with ⟨e1,e2⟩ | ⟨e1,e2⟩
  ·rw [e1,e2]; exact hy.con
  ·rw [e1,e2]; exact slc_no _ _ _ _
 ·rcases k with ⟨e1,e2⟩ | ⟨e1,e2⟩
  ·rw [e1,e2]; exact hy.brk
  ·rw [e1,e2]; exact slc_no _ _ _ _
 ·rw [d1,d2]; exact hy.prv
theorem LeR.lim {x y:Ee} (h:LeR x y) (hy:y.en.pk.Lim):x.en.pk.Lim:=by
 obtain ⟨_,a,b,⟨c1,c2⟩,⟨d1,d2⟩,e,f,g,k⟩:=h
 have nc:Rl.LimC []:=fun c hc=>nomatch hc
 have na:Rl.LimA []:=fun c hc=>nomatch hc
 refine ⟨by rw [a]; exact hy.nm,by rw [b]; exact hy.vs,?_,?_,by rw [c1]; exact hy.rcm,?_,?_,by rw [d1]; exact hy.prv⟩
 ·rcases e with ⟨e1,_⟩ | ⟨e1,_⟩
  ·rw [e1]; exact hy.pre
  ·rw [e1]; exact nc
 ·rcases f with ⟨e1,_⟩ | ⟨e1,_⟩
  ·rw [e1]; exact hy.dep
  ·rw [e1]; exact nc
 ·rcases g with ⟨e1,_⟩ | ⟨e1,_⟩
  ·rw [e1]; exact hy.con
  ·rw [e1]; exact na
 ·rcases k with ⟨e1,_⟩ | ⟨e1,_⟩
  ·rw [e1]; exact hy.brk
  ·rw [e1]; exact na
theorem pk_map {ds:List Ee} {j:Nat} {x:Ee} (h:ds[j]? = some x):pkA (ds.map Ee.en) j = x.en.pk ∧ cfA (ds.map Ee.en) j = x.en.cfg:=by
 unfold pkA cfA
 rw [get_getD (x:=x.en) (by rw [List.getElem?_map,h]; rfl)]
 exact ⟨rfl,rfl⟩
theorem pk_off {ds:List Ee} {j:Nat} (h:¬ j < ds.length):pkA (ds.map Ee.en) j = nEn.pk ∧ cfA (ds.map Ee.en) j = nEn.cfg:=by
 unfold pkA cfA
 rw [List.getD_eq_getElem?_getD,List.getElem?_eq_none (by rw [List.length_map]; omega)]
 exact ⟨rfl,rfl⟩
theorem AllR.each {R:Ee → Ee → Prop} {ds d:List Ee} (h:AllR R ds d) (j:Nat):(∃ x y,ds[j]? = some x ∧ d[j]? = some y ∧ R x y) ∨ (¬ j < ds.length ∧ ¬ j < d.length):=by
 by_cases hj:j < ds.length
 ·have hj2:j < d.length:=by rw [← h.1]; exact hj
  exact .inl ⟨_,_,List.getElem?_eq_getElem hj,List.getElem?_eq_getElem hj2,h.2 j _ _ (List.getElem?_eq_getElem hj) (List.getElem?_eq_getElem hj2)⟩
 ·exact .inr ⟨hj,by rw [← h.1]; exact hj⟩
theorem LeR.like {ds d:List Ee} (h:AllR LeR ds d):Like (ds.map Ee.en) (d.map Ee.en):=by
 have key:∀ j,cfA (ds.map Ee.en) j = cfA (d.map Ee.en) j ∧ (pkA (ds.map Ee.en) j).nm = (pkA (d.map Ee.en) j).nm ∧ (pkA (ds.map Ee.en) j).vs = (pkA (d.map Ee.en) j).vs ∧ (pkA (ds.map Ee.en) j).prv = (pkA (d.map Ee.en) j).prv:=fun j=>by
  rcases h.each j with ⟨x,y,hx,hy,hR⟩ | ⟨h1,h2⟩
  ·rw [(pk_map hx).1,(pk_map hy).1,(pk_map hx).2,(pk_map hy).2]
   exact ⟨hR.cfg,hR.nm,hR.vs,hR.prv.1⟩
  ·rw [(pk_off h1).1,(pk_off h2).1,(pk_off h1).2,(pk_off h2).2]
   exact ⟨rfl,rfl,rfl,rfl⟩
 exact ⟨by rw [List.length_map,List.length_map,h.1],fun j=>(key j).1,fun j=>(key j).2.1,fun j=>(key j).2.2.1,fun j=>(key j).2.2.2⟩
theorem LeR.part {ds d:List Ee} (h:AllR LeR ds d):Part (ds.map Ee.en) (d.map Ee.en):=by
 have key:∀ j,((pkA (ds.map Ee.en) j).pre = (pkA (d.map Ee.en) j).pre ∨ (pkA (ds.map Ee.en) j).pre = []) ∧ ((pkA (ds.map Ee.en) j).dep = (pkA (d.map Ee.en) j).dep ∨ (pkA (ds.map Ee.en) j).dep = []) ∧ ((pkA (ds.map Ee.en) j).con = (pkA (d.map Ee.en) j).con ∨ (pkA (ds.map Ee.en) j).con = []) ∧ ((pkA (ds.map Ee.en) j).brk = (pkA (d.map Ee.en) j).brk ∨ (pkA (ds.map Ee.en) j).brk = []):=fun j=>by
  rcases h.each j with ⟨x,y,hx,hy,hR⟩ | ⟨h1,h2⟩
  ·rw [(pk_map hx).1,(pk_map hy).1]
   exact ⟨hR.pre.imp And.left And.left,hR.dep.imp And.left And.left,hR.con.imp And.left And.left,hR.brk.imp And.left And.left⟩
  ·rw [(pk_off h1).1,(pk_off h2).1]
   exact ⟨.inl rfl,.inl rfl,.inl rfl,.inl rfl⟩
 exact ⟨LeR.like h,fun j=>(key j).1,fun j=>(key j).2.1,fun j=>(key j).2.2.1,fun j=>(key j).2.2.2⟩
theorem EqH.alike {ds d:List Ee} (h:AllR EqH ds d):Alike (ds.map Ee.en) (d.map Ee.en):=by
 have key:∀ j,pkA (ds.map Ee.en) j = pkA (d.map Ee.en) j:=fun j=>by
  rcases h.each j with ⟨x,y,hx,hy,hR⟩ | ⟨h1,h2⟩
  ·rw [(pk_map hx).1,(pk_map hy).1,hR.pk]
  ·rw [(pk_off h1).1,(pk_off h2).1]
 exact ⟨LeR.like (h.mono fun _ _ h=>h.le),fun j=>by rw [key],fun j=>by rw [key],fun j=>by rw [key],fun j=>by rw [key]⟩
theorem LeR.few {ds d:List Ee} (h:AllR LeR ds d) (hF:Few (d.map Ee.en)):Few (ds.map Ee.en):=by
 have mem:∀ x ∈ ds.map Ee.en,∃ z y,z.en = x ∧ y.en ∈ d.map Ee.en ∧ LeR z y:=fun x hx=>by
  obtain ⟨z,hz,rfl⟩:=List.mem_map.1 hx
  obtain ⟨y,hy,hR⟩:=h.mem hz
  exact ⟨z,y,rfl,List.mem_map.2 ⟨y,hy,rfl⟩,hR⟩
 refine ⟨by have:=hF.len; rw [List.length_map] at this ⊢; rw [h.1]; exact this,fun x hx=>?_,fun x hx=>?_,fun x hx=>?_⟩
 ·obtain ⟨z,y,rfl,hy,hR⟩:=mem x hx
  have:=hF.pre _ hy
  rcases hR.pre with ⟨e,_⟩ | ⟨e,_⟩ <;> rw [e]
  ·exact this
  ·simp
 ·obtain ⟨z,y,rfl,hy,hR⟩:=mem x hx
  have:=hF.dep _ hy
  rcases hR.dep with ⟨e,_⟩ | ⟨e,_⟩ <;> rw [e]
  ·exact this
  ·simp
 ·obtain ⟨z,y,rfl,hy,hR⟩:=mem x hx
  have:=hF.con _ hy
  rcases hR.con with ⟨e,_⟩ | ⟨e,_⟩ <;> rcases hR.brk with ⟨e',_⟩ | ⟨e',_⟩ <;> rw [e,e']
  ·exact this
  ·simp; omega
  ·simp; omega
  ·simp
theorem LeR.lims {ds d:List Ee} (h:AllR LeR ds d) (hL:LimS (d.map Ee.en)):LimS (ds.map Ee.en):=fun x hx=>by
 obtain ⟨z,hz,rfl⟩:=List.mem_map.1 hx
 obtain ⟨y,hy,hR⟩:=h.mem hz
 exact hR.lim (hL _ (List.mem_map.2 ⟨y,hy,rfl⟩))
theorem LeR.ens {w w':World} {B:Nat} {v:Value} {n:Nat} {ds d:List Ee} (h:AllR LeR ds d) (hd:∀ y ∈ d,y.Is w) (hb:Below w.heap.size w w') (ho:w'.ownsRow B 38 11 v n (ds.flatMap Ee.enc)) (hn:ds.length = n) (hl:n ≤ 1152921504606846976):Ens w' v (ds.map Ee.en) :=
 own_ees ho hn (fun x hx=>by obtain ⟨y,hy,hR⟩:=h.mem hx; exact (hR.is (hd y hy)).below hb) hl
end Sa
end Go.Proofs.YtgpcilepkmckeaaDoor

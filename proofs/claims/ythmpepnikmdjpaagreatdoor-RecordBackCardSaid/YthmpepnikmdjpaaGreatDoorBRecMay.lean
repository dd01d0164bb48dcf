/-
What is read of small fields is small. A row of the call's own of things whose lists lie in memory of their own: what appends leave of it. Fields and stanzas that a call makes, as rows of its own; how long what values of packages are written as may be. Which items of a field, which packages may be.
-/
import Derived.Test.YthmpepnikmdjpaaGreatDoorBRecOf
import Derived.Test.YthmpepnikmdjpaaGreatDoorBRecMath
import Derived.Test.YthmpepnikmdjpaaGreatDoorBStzLines
import Derived.Test.YthmpepnikmdjpaaGreatDoorBStzLine
import Derived.Test.YthmpepnikmdjpaaGreatDoorBRecFld
import Derived.Test.YthmpepnikmdjpaaGreatDoorBRelAtom
namespace Go.Proofs.YthmpepnikmdjpaaGreatDoor
open Go.RowKit
set_option linter.unusedSimpArgs false
set_option linter.unusedVariables false
namespace Rc
open Ver (Bs li li_len S S_self S_size S_li)
open Rl (At Pv LimA LimP LimC)
open Va (Vl rd knd)
open Stz (Fld Sz foldL)
def GoodV (x:Vl):Prop:=x.Lim ∧ x.txt.size ≤ 140737488351232
theorem good_none:GoodV .none:=⟨⟨Va.nil_lim.1,Va.nil_lim.2.1,Va.nil_lim.2.2,by decide⟩,by show (0:Nat) ≤ _; omega⟩
theorem rd_txt {k:Nat} {s:ByteArray} {x:Vl} (h:rd k s = .ok x):x.txt.size ≤ s.size:=by
 have nt:∀ y:Vl,y.txt = ⟨#[]⟩ → y.txt.size ≤ s.size:=fun y hy=>by rw [hy]; exact Nat.zero_le _
 unfold rd at h
 repeat' split at h
 all_goals first
  | (cases h; exact Nat.le_refl _)
  | (cases h; exact nt _ rfl)
  | (cases h; done)
  | skip
 ·cases hq:Rl.whole Rl.rdC (li s) with
  | ok xs=>rw [hq] at h; cases h; exact nt _ rfl
  | error e'=>rw [hq] at h; cases h
 ·cases hq:Rl.whole Rl.rdA (li s) with
  | ok xs=>rw [hq] at h; cases h; exact nt _ rfl
  | error e'=>rw [hq] at h; cases h
 ·cases hq:Rl.whole Rl.rdP (li s) with
  | ok xs=>rw [hq] at h; cases h; exact nt _ rfl
  | error e'=>rw [hq] at h; cases h
theorem fold_size {f:Fld} (h:FSmall f):(S (foldL f.2)).size ≤ 140737488351232:=by
 rw [S_size]
 have h1:=Stz.fold_len f.2 h.len f.2.length (Nat.le_refl _)
 rw [List.take_of_length_le (Nat.le_refl _)] at h1
 have h2:(1048576 + 1) * f.2.length ≤ 1048577 * 100000:=Nat.mul_le_mul_left _ h.cnt
 omega
theorem rdV_good (nm s:ByteArray) (x:Vl) (hs:s.size ≤ 140737488351232) (h:rdV nm s = .ok x):GoodV x:=⟨(Va.back h).2.2,Nat.le_trans (rd_txt h) hs⟩
theorem rdE_good (nm s:ByteArray) (x:Vl) (hs:s.size ≤ 140737488351232) (h:rdE nm s = .ok x):GoodV x:=by
 unfold rdE at h
 split at h
 ·cases h
 ·exact ⟨(Va.back h).2.2,Nat.le_trans (rd_txt h) hs⟩
theorem rdf_good {rf:ByteArray → ByteArray → Except Int Vl} (hrf:∀ nm s x,s.size ≤ 140737488351232 → rf nm s = .ok x → GoodV x):∀ (fs:List Fld) (line:Int) (xs ys:Vls),(∀ f ∈ fs,FSmall f) → (∀ i,GoodV (xs i)) → rdF rf line xs fs = .ok ys → ∀ i,GoodV (ys i)
 | [],line,xs,ys,_,hx,h,i=>by
  have:xs = ys:=by simpa [rdF] using h
  rw [← this]; exact hx i
 | f :: r,line,xs,ys,hf,hx,h,i=>by
  rw [rdF_cons] at h
  cases hq:rf (S f.1) (S (foldL f.2)) with
  | error e=>rw [hq] at h; cases h
  | ok x =>
   rw [hq] at h
   refine rdf_good hrf r _ _ _ (fun g hg=>hf g (List.mem_cons_of_mem _ hg)) (fun j=>?_) h i
   unfold keep keepN
   split
   ·exact hrf _ _ _ (fold_size (hf f List.mem_cons_self)) hq
   ·exact hx j
theorem rds_good {rf:ByteArray → ByteArray → Except Int Vl} (hrf:∀ nm s x,s.size ≤ 140737488351232 → rf nm s = .ok x → GoodV x) (must:List Nat) (s:Sz) (ys:Vls) (hf:∀ f ∈ s.2,FSmall f) (h:rdS rf must s = .ok ys):∀ i,GoodV (ys i):=by
 unfold rdS at h
 cases hq:rdF rf s.1 no s.2 with
 | error e=>rw [hq] at h; cases h
 | ok xs =>
  rw [hq] at h
  simp only at h
  split at h
  ·cases h
  ·cases h
   exact rdf_good hrf _ _ _ _ hf (fun _=>good_none) hq
theorem pk_lim {xs:Vls} (h:∀ i,GoodV (xs i)):(pkOf xs).Lim:=by
 refine ⟨?_,?_,(h 3).1.1,(h 4).1.1,(h 5).1.1,(h 6).1.2.1,(h 7).1.2.1,(h 8).1.2.2.1⟩
 ·show (li (xs 0).txt).length ≤ _
  rw [li_len]; exact (h 0).2
 ·show (li (xs 1).txt).length ≤ _
  rw [li_len]; exact (h 1).2
theorem of_lim {s:Sz} {p:Pk} (hf:∀ f ∈ s.2,FSmall f) (h:ofS s = .ok p):p.Lim:=by
 unfold ofS at h
 cases hq:rdS rdV [0,1] s with
 | error e=>rw [hq] at h; cases h
 | ok xs =>
  rw [hq] at h
  cases h
  exact pk_lim (rds_good rdV_good _ _ _ hf hq)
theorem en_lim {s:Sz} {x:En} (hf:∀ f ∈ s.2,FSmall f) (h:enS s = .ok x):x.pk.Lim:=by
 unfold enS at h
 cases hq:rdS rdE [0,1,9] s with
 | error e=>rw [hq] at h; cases h
 | ok xs =>
  rw [hq] at h
  cases h
  exact pk_lim (rds_good rdE_good _ _ _ hf hq)
theorem each_cons {α β ε:Type} (f:α → Except ε β) (x:α) (r:List α):each f (x :: r) = (match f x with
  | .error e=>.error e
  | .ok y=>match each f r with
   | .error e=>.error e
   | .ok ys=>.ok (y :: ys)):=rfl
theorem each_snoc {α β ε:Type} {f:α → Except ε β}:∀ (l:List α) (ys:List β) (x:α) (y:β),each f l = .ok ys → f x = .ok y → each f (l ++ [x]) = .ok (ys ++ [y])
 | [],ys,x,y,h,hx=>by
  cases h
  show each f [x] = _
  rw [each_cons,hx]; rfl
 | a :: r,ys,x,y,h,hx=>by
  rw [each_cons] at h
  rw [List.cons_append,each_cons]
  cases ha:f a with
  | error e=>rw [ha] at h; cases h
  | ok b =>
   rw [ha] at h
   simp only at h ⊢
   cases hr:each f r with
   | error e=>rw [hr] at h; cases h
   | ok zs =>
    rw [hr] at h
    cases h
    rw [each_snoc r zs x y hr hx]
    rfl
theorem each_fail {α β ε:Type} {f:α → Except ε β}:∀ (l:List α) (ys:List β) (x:α) (r:List α) (e:ε),each f l = .ok ys → f x = .error e → each f (l ++ x :: r) = .error e
 | [],ys,x,r,e,h,hx=>by
  rw [List.nil_append,each_cons,hx]
 | a :: l,ys,x,r,e,h,hx=>by
  rw [each_cons] at h
  rw [List.cons_append,each_cons]
  cases ha:f a with
  | error e=>rw [ha] at h; cases h
  | ok b =>
   rw [ha] at h
   simp only at h ⊢
   cases hr:each f l with
   | error e=>rw [hr] at h; cases h
   | ok zs=>rw [each_fail l zs x r e hr hx]
end Rc
end Go.Proofs.YthmpepnikmdjpaaGreatDoor
namespace Go.Proofs.YthmpepnikmdjpaaGreatDoor
open Go.RowKit
set_option linter.unusedSimpArgs false
set_option linter.unusedVariables false
namespace Rc
open Rl (Slc)
open Va (Hi)
def In (b m:Nat) (w:World) (Q:World → Prop):Prop:=∀ u,Blk.Chg (fun k=>k < b ∨ m ≤ k) w u → Q u
theorem In.of {b:Nat} {w:World} {Q:World → Prop} (h:Hi b w Q):In b w.heap.size w Q:=fun u hu=>h u (hu.mono fun k hk hs=>by
 rcases hs with h1 | h1
 ·exact h1
 ·omega)
theorem In.on {b m:Nat} {w w':World} {Q:World → Prop} (h:In b m w Q) (hc:Blk.Chg (fun k=>k < b ∨ m ≤ k) w w'):In b m w' Q:=fun u hu=>h u (hc.trans hu)
theorem In.here {b m:Nat} {w:World} {Q:World → Prop} (h:In b m w Q):Q w:=h w (Blk.Chg.refl _ _)
theorem flat_row (m:Nat):∀ (l:List (List Value)) (i j:Nat) (x:List Value),(∀ r ∈ l,r.length = m) → l[i]? = some x → j < m → l.flatten[m * i + j]? = x[j]?
 | [],i,j,x,_,h,_=>by simp at h
 | y :: l,0,j,x,hf,h,hj=>by
  simp at h
  subst h
  rw [List.flatten_cons,Nat.mul_zero,Nat.zero_add,List.getElem?_append_left (by rw [hf _ List.mem_cons_self]; exact hj)]
 | y :: l,i + 1,j,x,hf,h,hj=>by
  simp at h
  have hy:=hf y List.mem_cons_self
  rw [List.flatten_cons,List.getElem?_append_right (by rw [hy,Nat.mul_add]; omega),hy,show m * (i + 1) + j - m = m * i + j by rw [Nat.mul_add]; omega]
  exact flat_row m l i j x (fun r hr=>hf r (List.mem_cons_of_mem _ hr)) h hj
structure It {β:Type} (C:World → List Value → β → Prop) (sz L:Nat) (w:World) (v:Value) (p:List Value × β):Prop where
 len:p.1.length = sz
 has:∃ b m,L ≤ b ∧ In b m w (fun u=>C u p.1 p.2) ∧ m ≤ w.heap.size ∧ ∀ g,v.ownBlock = some g → g < b ∨ m ≤ g
def Acc {β:Type} (C:World → List Value → β → Prop) (sz:Nat) (e:TypeId) (B L:Nat) (w:World) (v:Value) (xs:List β):Prop :=
 ∃ l:List (List Value × β),l.map (·.2) = xs ∧ w.ownsRow B e sz v xs.length (l.map (·.1)).flatten ∧ ∀ p ∈ l,It C sz L w v p
theorem Acc.nil {β:Type} (C:World → List Value → β → Prop) (sz:Nat) (e:TypeId) (B L:Nat) (w:World):Acc C sz e B L w (.slice none 0 0) [] :=
 ⟨[],rfl,World.ownsRow_nil w B e sz,fun p hp=>by cases hp⟩
theorem Acc.on {β:Type} {C:World → List Value → β → Prop} {sz:Nat} {e:TypeId} {B L:Nat} {w w':World} {v:Value} {xs:List β} (h:Acc C sz e B L w v xs) (hb:Below w.heap.size w w'):Acc C sz e B L w' v xs:=by
 obtain ⟨l,h1,h2,h3⟩:=h
 refine ⟨l,h1,Own.owns_below h2 hb,fun p hp=>⟨(h3 p hp).len,?_⟩⟩
 obtain ⟨b,m,hB,hi,hm,hg⟩:=(h3 p hp).has
 exact ⟨b,m,hB,hi.on (Blk.Chg.ofBelow' hb),Nat.le_trans hm hb.size,hg⟩
theorem Acc.low {β:Type} {C:World → List Value → β → Prop} {sz:Nat} {e:TypeId} {B L:Nat} {w w':World} {v:Value} {xs:List β} (h:Acc C sz e B L w v xs) (hLB:L ≤ B) (hc:Blk.Chg (fun j=>j < L) w w'):Acc C sz e B L w' v xs:=by
 obtain ⟨l,h1,h2,h3⟩:=h
 refine ⟨l,h1,hc.owns h2 fun g hg hs=>?_,fun p hp=>⟨(h3 p hp).len,?_⟩⟩
 ·have:=(Rl.own_lt h2 hg).1
  omega
 ·obtain ⟨b,m,hB,hi,hm,hg⟩:=(h3 p hp).has
  exact ⟨b,m,hB,hi.on (hc.mono fun k _ hk=>.inl (Nat.lt_of_lt_of_le hk hB)),Nat.le_trans hm hc.size,hg⟩
theorem Acc.own {β:Type} {C:World → List Value → β → Prop} {sz:Nat} {e:TypeId} {B L:Nat} {w:World} {v:Value} {xs:List β} (h:Acc C sz e B L w v xs):∃ cs,w.ownsRow B e sz v xs.length cs:=by
 obtain ⟨l,_,h2,_⟩:=h
 exact ⟨_,h2⟩
theorem Acc.shape {β:Type} {C:World → List Value → β → Prop} {sz:Nat} {e:TypeId} {B L:Nat} {w:World} {v:Value} {xs:List β} (h:Acc C sz e B L w v xs):∃ a cap,v = .slice a xs.length cap:=by
 obtain ⟨cs,h2⟩:=h.own
 obtain ⟨a,cap,e1,_⟩:=Rl.own_shape h2
 exact ⟨a,cap,e1⟩
theorem Acc.more {β:Type} {C:World → List Value → β → Prop} {sz:Nat} {e:TypeId} {B L:Nat} {w w':World} {v v':Value} {xs:List β} (h:Acc C sz e B L w v xs) {cs:List Value} {x:β} {b m:Nat} (hlen:cs.length = sz) (hx:In b m w (fun u=>C u cs x)) (hm:m ≤ w.heap.size) (hb:∀ g,v.ownBlock = some g → g < b ∨ m ≤ g) (hBb:L ≤ b)
  (hown:∀ ys,w.ownsRow B e sz v xs.length ys → w'.ownsRow B e sz v' (xs.length + 1) (ys ++ cs)) (hg:w.grownBy w' v.ownBlock) (hw:∀ k,v'.ownBlock = some k → v.ownBlock = some k ∨ w.heap.size ≤ k):Acc C sz e B L w' v' (xs ++ [x]):=by
 obtain ⟨l,h1,h2,h3⟩:=h
 refine ⟨l ++ [(cs,x)],by simp [h1],?_,fun p hp=>?_⟩
 ·have:=hown _ h2
  simpa using this
 ·have key:∀ (q:List Value × β) (b m:Nat),L ≤ b → In b m w (fun u=>C u q.1 q.2) → m ≤ w.heap.size → (∀ g,v.ownBlock = some g → g < b ∨ m ≤ g) → ∃ b m,L ≤ b ∧ In b m w' (fun u=>C u q.1 q.2) ∧ m ≤ w'.heap.size ∧ ∀ g,v'.ownBlock = some g → g < b ∨ m ≤ g:=fun q b m hB hi hm hb=>by
   refine ⟨b,m,hB,hi.on ((Blk.Chg.refl _ w).grown hg fun k hk _=>hb k hk),Nat.le_trans hm hg.size,fun g hgv=>?_⟩
   rcases hw g hgv with h4 | h4
   ·exact hb g h4
   ·exact .inr (by omega)
  rcases List.mem_append.1 hp with hp | hp
  ·obtain ⟨b,m,hB,hi,hm,hg'⟩:=(h3 p hp).has
   exact ⟨(h3 p hp).len,key p b m hB hi hm hg'⟩
  ·rw [List.mem_singleton.1 hp]
   exact ⟨hlen,key (cs,x) b m hBb hx hm hb⟩
theorem Acc.slc {β:Type} {C:World → List Value → β → Prop} {sz:Nat} {e:TypeId} {B L:Nat} {w:World} {v:Value} {xs:List β} (z:β) (h:Acc C sz e B L w v xs) (hn:xs.length ≤ 1152921504606846976):Slc sz z (CAt C) w v xs:=by
 obtain ⟨l,h1,h2,h3⟩:=h
 obtain ⟨a,cap,rfl,hc⟩:=Rl.own_shape h2
 refine ⟨hn,a,cap,rfl,hc,fun h0=>?_⟩
 obtain ⟨g,cap',e1,_⟩:=Rl.own_slice h2 h0
 simp only [Value.slice.injEq,true_and] at e1
 obtain ⟨rfl,rfl⟩:=e1
 refine ⟨g,0,rfl,fun i hi=>?_⟩
 have hl:l.length = xs.length:=by rw [← h1,List.length_map]
 have hil:i < l.length:=by omega
 obtain ⟨p,hp⟩:∃ p,l[i]? = some p:=⟨l[i],List.getElem?_eq_getElem hil⟩
 have hmem:p ∈ l:=List.mem_iff_getElem?.2 ⟨i,hp⟩
 have hx:xs.getD i z = p.2:=by
  rw [List.getD_eq_getElem?_getD,← h1,List.getElem?_map,hp]; rfl
 obtain ⟨b,m,_,hi',_,_⟩:=(h3 p hmem).has
 refine ⟨p.1,by rw [hx]; exact hi'.here,fun j u hj=>?_⟩
 have hlp:=(h3 p hmem).len
 have hjs:j < sz:=by rw [← hlp]; exact (List.getElem?_eq_some_iff.1 hj).1
 rw [Nat.zero_add]
 refine Rl.own_cell h2 ?_
 rw [flat_row sz (l.map (·.1)) i j p.1 (fun r hr=>by
  obtain ⟨q,hq,rfl⟩:=List.mem_map.1 hr
  exact (h3 q hq).len) (by rw [List.getElem?_map,hp]; rfl) hjs]
 exact hj
theorem append_at {tS e:TypeId} {z:Value} {sz bytes:Nat} (hu:Tryz.prog.underlying tS = some (.slice e)) (hi:(Tryz.prog.info? e).map (fun i=>(i.zero,i.size,i.bytes)) = some (some z,sz,bytes)) (hz:z.cells.size = sz) (hby:bytes ≤ 4000)
  {w:World} {ops:Array Oper} {rest:List Oper} {o:Oper} {a:Act} {Q:Exit → Act → World → Prop} (hgd:o.guard = none) (s x:Operand)
  (ho:o.op = .call { callee:=.builtin .append,args:=#[s,x],argTypes:=#[tS,tS] })
  (B:Nat) (v:Value) (n:Nat) (hv:a.eval s = v) (hown:∃ xs,w.ownsRow B e sz v n xs) (k:Nat) (c:Nat) (hx:a.eval x = .slice (some ⟨k,0,none⟩) 1 c) (news:List Value) (hnl:news.length = sz) (hc:∀ (j:Nat) u,news[j]? = some u → w.cell? ⟨k,j,none⟩ = some u)
  (ho1:∀ u ∈ news,u.oneCell' = true) (hn:n + 1 ≤ 70000) (hB:B ≤ w.heap.size)
  (h:∀ v' w',(∀ xs,w.ownsRow B e sz v n xs → w'.ownsRow B e sz v' (n + 1) (xs ++ news)) → w.grownBy w' v.ownBlock → (∀ k,v'.ownBlock = some k → v.ownBlock = some k ∨ w.heap.size ≤ k) → wpList Tryz.prog ops Q rest (a.put o.dst v') w'):wpList Tryz.prog ops Q (o :: rest) a w:=by
 obtain ⟨i0,hi,hz0,hz1,hz2⟩:=info_parts hi
 have hsrc:Src Tryz.prog sz tS (.slice (some ⟨k,0,none⟩) 1 c) 1 news w:=by
  refine Src.ofSlice w hu ⟨k,0,none⟩ 1 c news (by rw [hnl,Nat.one_mul]) (fun j u hj=>?_) ho1
  have:=hc j u hj
  have e:(⟨k,0,none⟩:Addr).add j = ⟨k,j,none⟩:=by cases j <;> simp [Addr.add]
  rw [e]; exact this
 have hmul:(n + 1) * bytes ≤ 70000 * 4000:=Nat.mul_le_mul hn hby
 obtain ⟨xs,hown⟩:=hown
 refine wpList_plain hgd fun K hK=>?_
 obtain ⟨v',w',hr,h2,h3,h4⟩:=Own.run_append_src (P:=Tryz.prog) tS tS o.type B e i0 z sz bytes hu hi hz0 hz1 hz2 hz v n xs hown _ 1 news hsrc (by simp only [maxLen]; omega) (by omega) hB
 unfold Oper.wp execOp
 simp only [ho,resolve,invoke,builtin,Sem.run_bind,Sem.run_pure,Result.andThen_ok,List.map_toArray,List.map_cons,List.map_nil,hv,hx,hr]
 refine hK _ _ (h v' w' (fun ys hys=>?_) h3 h4)
 have hxy:ys = xs:=by
  rcases hown.2 with ⟨e1,e2⟩ | ⟨g,cap,cur,e1,_,hh,_,_,_,ht⟩
  ·have h5:=hown.1
   have h6:=hys.1
   rw [e2,Nat.zero_mul] at h5 h6
   rw [List.eq_nil_of_length_eq_zero h5,List.eq_nil_of_length_eq_zero h6]
  ·subst e1
   rcases hys.2 with ⟨e3,_⟩ | ⟨g',cap',cur',e3,_,hh',_,_,_,ht'⟩
   ·cases e3
   ·simp only [Value.slice.injEq,Option.some.injEq,Addr.mk.injEq,and_true,true_and] at e3
    obtain ⟨rfl,rfl⟩:=e3
    rw [hh] at hh'
    cases hh'
    rw [← ht,← ht']
 rw [hxy]
 exact h2
theorem infoPk:(Tryz.prog.info? 31).map (fun i=>(i.zero,i.size,i.bytes)) = some (some (.agg #[.string ByteArray.empty,.string ByteArray.empty,.slice none 0 0,.slice none 0 0,.slice none 0 0,.slice none 0 0,.slice none 0 0,.slice none 0 0,.bool false]),9,184):=by kernel_rfl
theorem infoEn:(Tryz.prog.info? 68).map (fun i=>(i.zero,i.size,i.bytes)) = some (some (.agg #[.string ByteArray.empty,.string ByteArray.empty,.slice none 0 0,.slice none 0 0,.slice none 0 0,.slice none 0 0,.slice none 0 0,.slice none 0 0,.bool false,.bool false,.bool false]),11,192):=by kernel_rfl
end Rc
end Go.Proofs.YthmpepnikmdjpaaGreatDoor
namespace Go.Proofs.YthmpepnikmdjpaaGreatDoor
open Go.RowKit
set_option linter.unusedSimpArgs false
set_option linter.unusedVariables false
namespace Rc
open Ver (Bs li li_len S S_self S_size S_li)
open Rl (At Pv LimA LimP LimC Slc text atoms provs)
open Va (Hi Vl VAt wrT)
open Stz (Fld Sz Flds Szd Stzs FldAt)
def FldC (w:World) (cs:List Value) (f:Fld):Prop:=∃ u,cs = [.string (S f.1),u] ∧ Txt.Texts w u (f.2.map S)
def SzC (w:World) (cs:List Value) (s:Sz):Prop:=∃ u,cs = [.int .i64 s.1,u] ∧ Flds w u s.2
theorem flds_of {w:World} {v:Value} {fs:List Fld} (h:Slc 2 (([],[]):Fld) (CAt FldC) w v fs):Flds w v fs:=by
 obtain ⟨h0,a,cap,h1,h2,h3⟩:=h
 refine ⟨h0,a,cap,h1,h2,fun hl=>?_⟩
 obtain ⟨k,off,e,hat⟩:=h3 hl
 refine ⟨k,off,e,fun i hi=>?_⟩
 obtain ⟨cs,⟨u,rfl,ht⟩,hc⟩:=hat i hi
 exact ⟨hc 0 _ rfl,u,hc 1 _ rfl,ht⟩
theorem stzs_slc {w:World} {v:Value} {l:List Sz} (h:Slc 2 ((0,[]):Sz) (CAt SzC) w v l):Stzs w v l:=by
 obtain ⟨h0,a,cap,h1,h2,h3⟩:=h
 refine ⟨h0,a,cap,h1,h2,fun hl=>?_⟩
 obtain ⟨k,off,e,hat⟩:=h3 hl
 refine ⟨k,off,e,fun i hi=>?_⟩
 obtain ⟨cs,⟨u,rfl,ht⟩,hc⟩:=hat i hi
 exact ⟨hc 0 _ rfl,u,hc 1 _ rfl,ht⟩
theorem Acc.flds {B L:Nat} {w:World} {v:Value} {fs:List Fld} (h:Acc FldC 2 43 B L w v fs) (hLB:L ≤ B) (hn:fs.length ≤ 1152921504606846976):Hi L w fun u=>Flds u v fs :=
 fun _ hu=>flds_of (Acc.slc ([],[]) (h.low hLB hu) hn)
theorem Acc.stzs {B L:Nat} {w:World} {v:Value} {l:List Sz} (h:Acc SzC 2 40 B L w v l) (hLB:L ≤ B) (hn:l.length ≤ 1152921504606846976):Hi L w fun u=>Stzs u v l :=
 fun _ hu=>stzs_slc (Acc.slc (0,[]) (h.low hLB hu) hn)
theorem yes_size (b:Bool):(wrT (yesV b)).size ≤ 3:=by cases b <;> decide
theorem text_size (l:List (List At)):(wrT (.clauses l)).size ≤ 10000:=by
 show (S (text l)).size ≤ _
 rw [S_size]
 exact Nat.le_trans (Va.wrT_long l Rl.wCl_len) (by decide)
theorem atoms_size (l:List At):(wrT (.atoms l)).size ≤ 10000:=by
 show (S (atoms l)).size ≤ _
 rw [S_size]
 exact Nat.le_trans (Va.wrT_long l Rl.wAt_len) (by decide)
theorem provs_size (l:List Pv):(wrT (.provs l)).size ≤ 10000:=by
 show (S (provs l)).size ≤ _
 rw [S_size]
 exact Nat.le_trans (Va.wrT_long l fun p=>Rl.wAt_len (Rl.pvA p)) (by decide)
theorem valsP_size {p:Pk} (h:p.Lim) (i:Nat):(wrT (valsP p i)).size ≤ 140737488351232:=by
 match i with
 | 0=>show (S p.nm).size ≤ _; rw [S_size]; exact h.nm
 | 1=>show (S p.vs).size ≤ _; rw [S_size]; exact h.vs
 | 2=>exact Nat.le_trans (yes_size p.ess) (by decide)
 | 3=>exact Nat.le_trans (text_size p.pre) (by decide)
 | 4=>exact Nat.le_trans (text_size p.dep) (by decide)
 | 5=>exact Nat.le_trans (text_size p.rcm) (by decide)
 | 6=>exact Nat.le_trans (atoms_size p.con) (by decide)
 | 7=>exact Nat.le_trans (atoms_size p.brk) (by decide)
 | 8=>exact Nat.le_trans (provs_size p.prv) (by decide)
 | _ + 9=>exact Nat.zero_le _
theorem valsE_size {x:En} (h:x.pk.Lim) (i:Nat):(wrT (valsE x i)).size ≤ 140737488351232:=by
 match i with
 | 9=>show (if x.cfg = true then cfgT else unpT).size ≤ _; split <;> decide
 | 10=>exact Nat.le_trans (yes_size x.hld) (by decide)
 | 0=>exact valsP_size h 0
 | 1=>exact valsP_size h 1
 | 2=>exact valsP_size h 2
 | 3=>exact valsP_size h 3
 | 4=>exact valsP_size h 4
 | 5=>exact valsP_size h 5
 | 6=>exact valsP_size h 6
 | 7=>exact valsP_size h 7
 | 8=>exact valsP_size h 8
 | _ + 11=>exact Nat.zero_le _
theorem none_lim:Vl.Lim .none:=⟨Va.nil_lim.1,Va.nil_lim.2.1,Va.nil_lim.2.2,(by show (Lit.int .i64 0).wf = true; decide)⟩
theorem yes_lim (b:Bool):(yesV b).Lim:=by
 cases b <;> exact ⟨Va.nil_lim.1,Va.nil_lim.2.1,Va.nil_lim.2.2,(by show (Lit.int .i64 0).wf = true; decide)⟩
theorem txt_lim (s:ByteArray):Vl.Lim (.text s):=⟨Va.nil_lim.1,Va.nil_lim.2.1,Va.nil_lim.2.2,(by show (Lit.int .i64 0).wf = true; decide)⟩
theorem valsP_lim {p:Pk} (h:p.Lim) (i:Nat):(valsP p i).Lim:=by
 match i with
 | 0=>exact txt_lim _
 | 1=>exact txt_lim _
 | 2=>exact yes_lim _
 | 3=>exact ⟨h.pre,Va.nil_lim.2.1,Va.nil_lim.2.2,(by show (Lit.int .i64 0).wf = true; decide)⟩
 | 4=>exact ⟨h.dep,Va.nil_lim.2.1,Va.nil_lim.2.2,(by show (Lit.int .i64 0).wf = true; decide)⟩
 | 5=>exact ⟨h.rcm,Va.nil_lim.2.1,Va.nil_lim.2.2,(by show (Lit.int .i64 0).wf = true; decide)⟩
 | 6=>exact ⟨Va.nil_lim.1,h.con,Va.nil_lim.2.2,(by show (Lit.int .i64 0).wf = true; decide)⟩
 | 7=>exact ⟨Va.nil_lim.1,h.brk,Va.nil_lim.2.2,(by show (Lit.int .i64 0).wf = true; decide)⟩
 | 8=>exact ⟨Va.nil_lim.1,Va.nil_lim.2.1,h.prv,(by show (Lit.int .i64 0).wf = true; decide)⟩
 | _ + 9=>exact none_lim
theorem valsE_lim {x:En} (h:x.pk.Lim) (i:Nat):(valsE x i).Lim:=by
 match i with
 | 9=>exact txt_lim _
 | 10=>exact yes_lim _
 | 0=>exact valsP_lim h 0
 | 1=>exact valsP_lim h 1
 | 2=>exact valsP_lim h 2
 | 3=>exact valsP_lim h 3
 | 4=>exact valsP_lim h 4
 | 5=>exact valsP_lim h 5
 | 6=>exact valsP_lim h 6
 | 7=>exact valsP_lim h 7
 | 8=>exact valsP_lim h 8
 | _ + 11=>exact none_lim
structure Wr (xs:Vls):Prop where
 lim:∀ i,(xs i).Lim
 size:∀ i,(wrT (xs i)).size ≤ 140737488351232
theorem wrP {p:Pk} (h:p.Lim):Wr (valsP p):=⟨valsP_lim h,valsP_size h⟩
theorem wrE {x:En} (h:x.pk.Lim):Wr (valsE x):=⟨valsE_lim h,valsE_size h⟩
theorem fldAt_szd {xs:Vls} (h:Wr xs) {i:Nat} (hi:i < 11) {f:Fld} (hf:f ∈ fldAt xs i):Szd f:=by
 unfold fldAt at hf
 split at hf
 ·cases hf
 ·rw [List.mem_singleton.1 hf]
  refine ⟨Nat.le_trans (nm_short i hi) (by decide),fun x hx=>?_⟩
  rw [List.mem_singleton.1 hx,li_len]
  exact h.size i
theorem flds_szd {xs:Vls} (h:Wr xs):∀ f ∈ flds xs,Szd f:=fun f hf=>by
 obtain ⟨i,hi,h1⟩:=List.mem_flatMap.1 hf
 exact fldAt_szd h (List.mem_range.1 hi) h1
theorem fldN_succ (xs:Vls) (k:Nat):fldN xs (k + 1) = fldN xs k ++ fldAt xs k:=by
 unfold fldN
 rw [List.range_succ,List.flatMap_append]
 simp
theorem fldN_len (xs:Vls):∀ k,(fldN xs k).length ≤ k
 | 0=>Nat.le_refl _
 | k + 1=>by
  rw [fldN_succ,List.length_append]
  have:=fldN_len xs k
  have h2:(fldAt xs k).length ≤ 1:=by unfold fldAt; split <;> simp
  omega
end Rc
end Go.Proofs.YthmpepnikmdjpaaGreatDoor
namespace Go.Proofs.YthmpepnikmdjpaaGreatDoor
open Go.RowKit
set_option linter.unusedSimpArgs false
set_option linter.unusedVariables false
namespace Rc
open Ver (Bs li li_len S S_self S_size S_li)
open Rl (At Pv Ats Pvs Clss Slc LimA LimP LimC Vars nA nP mem_getD may nmB isV pvA aV pV)
theorem all_of {α:Type} {z:α} {l:List α} {p:α → Bool} (h:∀ j,j < l.length → p (l.getD j z) = true):l.all p = true:=by
 rw [List.all_eq_true]
 intro x hx
 obtain ⟨i,hi,rfl⟩:=List.mem_iff_getElem.1 hx
 have:=h i hi
 simpa [List.getD,List.getElem?_eq_getElem hi] using this
theorem all_not {α:Type} {z:α} {l:List α} {p:α → Bool} {j:Nat} (hj:j < l.length) (h:p (l.getD j z) = false):l.all p = false:=by
 cases hq:l.all p with
 | false=>rfl
 | true =>
  rw [List.all_eq_true] at hq
  rw [hq _ (mem_getD hj)] at h
  cases h
set_option maxRecDepth 100000 in
set_option maxHeartbeats 2000000 in
theorem mayItemsA_any (v:Value) (l:List At) (w:World) (h:Ats w v l) (hL:LimA l) (hv:Vars w) :
  Calls Tryz.prog 42 #[v,.func (.func 43) #[] #[]] w fun e w'=>e = .returned (.int .i64 (mayA l)) ∧ Below w.heap.size w w':=by
 obtain ⟨sa,cap,rfl⟩:=h.shape
 unfold mayA
 by_cases hmost:12 < l.length
 ·rw [if_pos hmost]
  have hm':(12:Int) < (l.length:Int):=by omega
  generalize l.length = n at *
  clear h hL hv
  go_enter Tryz.func42,Tryz.ntmps42
  go_wp2_with fail
  go_ret
  exact ⟨rfl,Below.refl _ _⟩
 ·rw [if_neg hmost]
  have hm':¬ (12:Int) < (l.length:Int):=by omega
  obtain ⟨G,hG⟩:∃ G:Int,(if l.all may = true then (0:Int) else 3) = G:=⟨_,rfl⟩
  have HG:=Lib.hid hG
  rw [hG]
  have H:=Lib.hid h
  have HL:=Lib.hid hL
  have HV:=Lib.hid hv
  clear hG h hL hv
  obtain ⟨n,hn⟩:∃ n,l.length = n:=⟨_,rfl⟩
  have HN:=Lib.hid hn
  rw [hn] at hmost hm' ⊢
  clear hn
  go_enter Tryz.func42,Tryz.ntmps42
  go_wp2_with fail
  go_loopg [12] n (fun gf s12 wx=>∃ k:Nat,s12 = .int .i64 k ∧ Below w.heap.size w wx ∧ Hid (∀ j,j < k → may (l.getD j nA) = true) ∧ k ≤ n ∧ n ≤ k + gf)
  case atStart=>exact ⟨0,rfl,Below.refl _ _,fun j hj=>absurd hj (by omega),by omega,by omega⟩
  case round =>
   obtain ⟨k,rfl,hbw,HE,hkn,hfu⟩:=hrel
   by_cases hlt:k < n
   ·obtain ⟨g',rfl⟩:∃ g',gk = g' + 1:=⟨gk - 1,by omega⟩
    have hlt':(k:Int) < (n:Int):=by omega
    have hk0:(0:Int) ≤ k:=by omega
    have hkl:k < l.length:=by rw [HN.out]; exact hlt
    obtain ⟨_,a',cap',e1,_,hcells⟩:=H.out.below hbw
    simp only [Value.slice.injEq,true_and] at e1
    obtain ⟨rfl,rfl⟩:=e1
    obtain ⟨kb,off,rfl,hcl2⟩:=hcells (by omega)
    obtain ⟨x0,x1,x2⟩:=hcl2 k hkl
    rw [Nat.mul_comm 3 k] at x0 x1 x2
    have hmem:=mem_getD (z:=nA) hkl
    have hlim:=HL.out _ hmem
    have hno:=fun h=>all_not (p:=may) (z:=nA) hkl h
    have HNO:=Lib.hid hno
    have HBW:=Lib.hid hbw
    have ca:=fun w hv=>Rl.mayAtom_any (l.getD k nA) w (by omega) (by omega) hv
    unfold aV at ca
    generalize hx:l.getD k nA = x at *
    have HX:=Lib.hid hx
    clear hcl2 hcells hbw hmem hlim hno hx
    have hb2:=(Below.refl wr.heap.size wr).alloc (Nat.le_refl _) (.cells #[.string (S x.1),.int .i64 x.2.1,.string (S x.2.2)] 78)
    have HB2:=Lib.hid (HBW.out.trans (hb2.mono HBW.out.size))
    clear hb2 HBW
    cases hw:may x with
    | false =>
     have hG:G = 3:=by rw [← HG.out,if_neg (by rw [HNO.out hw]; simp)]
     rw [hw] at ca
     subst hG
     clear HG HNO hw HL HX HE
     go_wp2_with fail
     generalize wr.alloc (.cells #[.string (S x.1),.int .i64 x.2.1,.string (S x.2.2)] 78) = W at *
     refine (ca _ (HV.out.on HB2.out)).mono ?_
     rintro e w1 ⟨rfl,k1⟩
     have hb1:=HB2.out.trans (k1.mono HB2.out.size)
     go_wp2_with fail
     go_ret
     exact ⟨rfl,hb1⟩
    | true =>
     rw [hw] at ca
     have hE2:∀ j,j < k + 1 → may (l.getD j nA) = true:=fun j hj=>by
      by_cases e:j = k
      ·rw [e,HX.out,hw]
      ·exact HE.out j (by omega)
     have HE2:=Lib.hid hE2
     clear HNO hw HL HX HE hE2
     go_wp2_with fail
     generalize wr.alloc (.cells #[.string (S x.1),.int .i64 x.2.1,.string (S x.2.2)] 78) = W at *
     refine (ca _ (HV.out.on HB2.out)).mono ?_
     rintro e w1 ⟨rfl,k1⟩
     have hb1:=HB2.out.trans (k1.mono HB2.out.size)
     clear k1 HB2 ca
     go_wp2_with fail
     go_roundg g'
     case measure=>omega
     case rel=>exact ⟨k + 1,by go_num,hb1,HE2.out,by omega,by omega⟩
   ·have hge:¬ (k:Int) < (n:Int):=by omega
    obtain rfl:k = n:=by omega
    have hG:G = 0:=by rw [← HG.out,if_pos (all_of (z:=nA) (p:=may) fun j hj=>HE.out j (by rw [← HN.out]; exact hj))]
    subst hG
    clear HG HE HL
    go_wp2_with fail
    go_ret
    exact ⟨rfl,hbw⟩
set_option maxRecDepth 100000 in
theorem isProvide_any (p:Pv) (w:World) (h1:p.1.length ≤ 4611686018427387904) (h2:p.2.length ≤ 4611686018427387904) (hv:Vars w) :
  Calls Tryz.prog 45 #[pV p] w fun e w'=>e = .returned (.bool (mayPv p)) ∧ Below w.heap.size w w':=by
 obtain ⟨n,v⟩:=p
 have ca:=fun w hv=>Rl.mayAtom_any (pvA (n,v)) w h1 h2 hv
 unfold pvA aV at ca
 unfold pV mayPv pvA
 simp only at ca h1 h2 ⊢
 have hb2:=((Below.refl w.heap.size w).alloc (Nat.le_refl _) (.cells #[.string (S n),.string (S v)] 82))
 have hc:=Blk.Is.new w 82 #[.string (S n),.string (S v)]
 have hq:(S v).toList.isEmpty = decide (v = []):=by
  rw [Rl.isEmpty_S]
  cases v <;> rfl
 obtain ⟨W,hW⟩:∃ W,w.alloc (.cells #[.string (S n),.string (S v)] 82) = W:=⟨_,rfl⟩
 rw [hW] at hb2 hc
 have c0:=hc.at (i:=0) rfl
 have c1:=hc.at (i:=1) rfl
 have hb3:=hb2.alloc hb2.size (.cells #[.string (S n),.int .i64 0,.string (S v)] 78)
 have hs3:=hb2.size
 have hc3:=Blk.Is.new W 78 #[.string (S n),.int .i64 0,.string (S v)]
 have c1':=(hc.alloc (.cells #[.string (S n),.int .i64 0,.string (S v)] 78)).at (i:=1) rfl
 obtain ⟨X,hX⟩:∃ X,W.alloc (.cells #[.string (S n),.int .i64 0,.string (S v)] 78) = X:=⟨_,rfl⟩
 rw [hX] at hb3 hc3 c1'
 have e0:=hc3.at (i:=0) rfl
 have e1:=hc3.at (i:=1) rfl
 have e2:=hc3.at (i:=2) rfl
 by_cases hz:v = []
 ·rw [if_pos hz] at ca ⊢
  rw [decide_eq_true hz] at hq
  have HV:=Lib.hid hv
  have HB:=Lib.hid hb3
  clear hz hv hb3 hb2 hc hc3
  generalize S n = N at *
  generalize S v = V at *
  go_enter Tryz.func45,Tryz.ntmps45
  go_wp2_with fail
  refine (ca _ (HV.out.on HB.out)).mono ?_
  rintro e w1 ⟨rfl,k1⟩
  have hb1:=HB.out.trans (k1.mono HB.out.size)
  go_wp2_with fail
  go_ret
  exact ⟨rfl,hb1⟩
 ·rw [if_neg hz] at ca ⊢
  rw [decide_eq_false hz] at hq
  have HV:=Lib.hid hv
  have hb4:=hb3.setCell (p:=⟨W.heap.size,1,none⟩) hs3 (.int .i64 3)
  have hc4:=hc3.set 1 (.int .i64 3)
  have f4:=hc3.free 1
  have g0:=hc4.at (i:=0) (v:=.string (S n)) rfl
  have g1:=hc4.at (i:=1) (v:=.int .i64 3) rfl
  have g2:=hc4.at (i:=2) (v:=.string (S v)) rfl
  have HB:=Lib.hid hb4
  clear hz hv hb4 hb3 hb2 hc hc3 hc4
  generalize S n = N at *
  generalize S v = V at *
  go_enter Tryz.func45,Tryz.ntmps45
  go_wp2_with fail
  refine (ca _ (HV.out.on HB.out)).mono ?_
  rintro e w1 ⟨rfl,k1⟩
  have hb1:=HB.out.trans (k1.mono HB.out.size)
  go_wp2_with fail
  go_ret
  exact ⟨rfl,hb1⟩
set_option maxRecDepth 100000 in
set_option maxHeartbeats 2000000 in
theorem mayItemsP_any (v:Value) (l:List Pv) (w:World) (h:Pvs w v l) (hL:LimP l) (hv:Vars w) :
  Calls Tryz.prog 44 #[v,.func (.func 45) #[] #[]] w fun e w'=>e = .returned (.int .i64 (mayP l)) ∧ Below w.heap.size w w':=by
 obtain ⟨sa,cap,rfl⟩:=h.shape
 unfold mayP
 by_cases hmost:12 < l.length
 ·rw [if_pos hmost]
  have hm':(12:Int) < (l.length:Int):=by omega
  generalize l.length = n at *
  clear h hL hv
  go_enter Tryz.func44,Tryz.ntmps44
  go_wp2_with fail
  go_ret
  exact ⟨rfl,Below.refl _ _⟩
 ·rw [if_neg hmost]
  have hm':¬ (12:Int) < (l.length:Int):=by omega
  obtain ⟨G,hG⟩:∃ G:Int,(if l.all mayPv = true then (0:Int) else 3) = G:=⟨_,rfl⟩
  have HG:=Lib.hid hG
  rw [hG]
  have H:=Lib.hid h
  have HL:=Lib.hid hL
  have HV:=Lib.hid hv
  clear hG h hL hv
  obtain ⟨n,hn⟩:∃ n,l.length = n:=⟨_,rfl⟩
  have HN:=Lib.hid hn
  rw [hn] at hmost hm' ⊢
  clear hn
  go_enter Tryz.func44,Tryz.ntmps44
  go_wp2_with fail
  go_loopg [12] n (fun gf s12 wx=>∃ k:Nat,s12 = .int .i64 k ∧ Below w.heap.size w wx ∧ Hid (∀ j,j < k → mayPv (l.getD j nP) = true) ∧ k ≤ n ∧ n ≤ k + gf)
  case atStart=>exact ⟨0,rfl,Below.refl _ _,fun j hj=>absurd hj (by omega),by omega,by omega⟩
  case round =>
   obtain ⟨k,rfl,hbw,HE,hkn,hfu⟩:=hrel
   by_cases hlt:k < n
   ·obtain ⟨g',rfl⟩:∃ g',gk = g' + 1:=⟨gk - 1,by omega⟩
    have hlt':(k:Int) < (n:Int):=by omega
    have hk0:(0:Int) ≤ k:=by omega
    have hkl:k < l.length:=by rw [HN.out]; exact hlt
    obtain ⟨_,a',cap',e1,_,hcells⟩:=H.out.below hbw
    simp only [Value.slice.injEq,true_and] at e1
    obtain ⟨rfl,rfl⟩:=e1
    obtain ⟨kb,off,rfl,hcl2⟩:=hcells (by omega)
    obtain ⟨x0,x1⟩:=hcl2 k hkl
    rw [Nat.mul_comm 2 k] at x0 x1
    have hmem:=mem_getD (z:=nP) hkl
    have hlim:=HL.out _ hmem
    have hno:=fun h=>all_not (p:=mayPv) (z:=nP) hkl h
    have HNO:=Lib.hid hno
    have HBW:=Lib.hid hbw
    have ca:=fun w hv=>isProvide_any (l.getD k nP) w (by omega) (by omega) hv
    unfold pV at ca
    generalize hx:l.getD k nP = x at *
    have HX:=Lib.hid hx
    clear hcl2 hcells hbw hmem hlim hno hx
    have hb2:=(Below.refl wr.heap.size wr).alloc (Nat.le_refl _) (.cells #[.string (S x.1),.string (S x.2)] 82)
    have HB2:=Lib.hid (HBW.out.trans (hb2.mono HBW.out.size))
    clear hb2 HBW
    cases hw:mayPv x with
    | false =>
     have hG:G = 3:=by rw [← HG.out,if_neg (by rw [HNO.out hw]; simp)]
     rw [hw] at ca
     subst hG
     clear HG HNO hw HL HX HE
     go_wp2_with fail
     generalize wr.alloc (.cells #[.string (S x.1),.string (S x.2)] 82) = W at *
     refine (ca _ (HV.out.on HB2.out)).mono ?_
     rintro e w1 ⟨rfl,k1⟩
     have hb1:=HB2.out.trans (k1.mono HB2.out.size)
     go_wp2_with fail
     go_ret
     exact ⟨rfl,hb1⟩
    | true =>
     rw [hw] at ca
     have hE2:∀ j,j < k + 1 → mayPv (l.getD j nP) = true:=fun j hj=>by
      by_cases e:j = k
      ·rw [e,HX.out,hw]
      ·exact HE.out j (by omega)
     have HE2:=Lib.hid hE2
     clear HNO hw HL HX HE hE2
     go_wp2_with fail
     generalize wr.alloc (.cells #[.string (S x.1),.string (S x.2)] 82) = W at *
     refine (ca _ (HV.out.on HB2.out)).mono ?_
     rintro e w1 ⟨rfl,k1⟩
     have hb1:=HB2.out.trans (k1.mono HB2.out.size)
     clear k1 HB2 ca
     go_wp2_with fail
     go_roundg g'
     case measure=>omega
     case rel=>exact ⟨k + 1,by go_num,hb1,HE2.out,by omega,by omega⟩
   ·have hge:¬ (k:Int) < (n:Int):=by omega
    obtain rfl:k = n:=by omega
    have hG:G = 0:=by rw [← HG.out,if_pos (all_of (z:=nP) (p:=mayPv) fun j hj=>HE.out j (by rw [← HN.out]; exact hj))]
    subst hG
    clear HG HE HL
    go_wp2_with fail
    go_ret
    exact ⟨rfl,hbw⟩
end Rc
end Go.Proofs.YthmpepnikmdjpaaGreatDoor

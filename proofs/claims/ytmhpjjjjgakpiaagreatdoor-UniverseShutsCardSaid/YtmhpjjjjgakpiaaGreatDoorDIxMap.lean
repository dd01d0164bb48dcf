/-
A row of the call's own of things whose lists lie in memory of their own: what appends leave of it. The mathematics of an index: who meets an atom, which clash, in which order packages stand, where they stand by their names. Two maps from names to places, of the call's own: what they have for a name; add puts a place to a name.
-/
import Derived.Test.YtmhpjjjjgakpiaaGreatDoorDTextTexts
import Derived.Test.YtmhpjjjjgakpiaaGreatDoorDRecMay
import Derived.Test.YtmhpjjjjgakpiaaGreatDoorDVerRefParse
import Derived.Deep.WholeRow
import Derived.Deep.RegionHeld3
import Derived.BigFrame
import Derived.Test.YtmhpjjjjgakpiaaGreatDoorDVerParse2
import Derived.Laws.Concat
import Derived.StillTailTactics
import Derived.Lib.SlBytesConst
import Derived.Deep.CutRange
import Derived.Test.YtmhpjjjjgakpiaaGreatDoorDRecAll2
import Derived.Maps.Own
import Derived.Maps.OwnOps
import Derived.Maps.Views
import Derived.Laws.OwnMore
namespace Go.Proofs.YtmhpjjjjgakpiaaGreatDoor
open Go.RowKit
set_option linter.unusedSimpArgs false
set_option linter.unusedVariables false
namespace Rc
open Rl (Slc)
def In (b m:Nat) (w:World) (Q:World → Prop):Prop:=∀ u,Blk.Chg (fun k=>k < b ∨ m ≤ k) w u → Q u
theorem In.on {b m:Nat} {w w':World} {Q:World → Prop} (h:In b m w Q) (hc:Blk.Chg (fun k=>k < b ∨ m ≤ k) w w'):In b m w' Q:=fun u hu=>h u (hc.trans hu)
theorem In.here {b m:Nat} {w:World} {Q:World → Prop} (h:In b m w Q):Q w:=h w (Blk.Chg.refl _ _)
theorem flat_row (m:Nat):∀ (l:List (List Value)) (i j:Nat) (x:List Value),(∀ r ∈ l,r.length = m) → l[i]? = some x → j < m → l.flatten[m * i + j]? = x[j]?
 | [],i,j,x,_,h,_=>by simp at h
 | y :: l,0,j,x,hf,h,hj=>by
  simp at h
  subst h
  rw [List.flatten_cons,Nat.mul_zero,Nat.zero_add,List.getElem?_append_left (by rw [hf _ List.mem_cons_self]; exact hj)]
 | y :: l,i + 1,j,x,hf,h,hj=>by
  simp at h
  have hy:=hf y List.mem_cons_self
  rw [List.flatten_cons,List.getElem?_append_right (by rw [hy,Nat.mul_add]; omega),hy,show m * (i + 1) + j - m = m * i + j by rw [Nat.mul_add]; omega]
  exact flat_row m l i j x (fun r hr=>hf r (List.mem_cons_of_mem _ hr)) h hj
structure It {β:Type} (C:World → List Value → β → Prop) (sz L:Nat) (w:World) (v:Value) (p:List Value × β):Prop where
 len:p.1.length = sz
 has:∃ b m,L ≤ b ∧ In b m w (fun u=>C u p.1 p.2) ∧ m ≤ w.heap.size ∧ ∀ g,v.ownBlock = some g → g < b ∨ m ≤ g
def Acc {β:Type} (C:World → List Value → β → Prop) (sz:Nat) (e:TypeId) (B L:Nat) (w:World) (v:Value) (xs:List β):Prop :=
 ∃ l:List (List Value × β),l.map (·.2) = xs ∧ w.ownsRow B e sz v xs.length (l.map (·.1)).flatten ∧ ∀ p ∈ l,It C sz L w v p
theorem Acc.nil {β:Type} (C:World → List Value → β → Prop) (sz:Nat) (e:TypeId) (B L:Nat) (w:World):Acc C sz e B L w (.slice none 0 0) [] :=
 ⟨[],rfl,World.ownsRow_nil w B e sz,fun p hp=>by cases hp⟩
theorem Acc.on {β:Type} {C:World → List Value → β → Prop} {sz:Nat} {e:TypeId} {B L:Nat} {w w':World} {v:Value} {xs:List β} (h:Acc C sz e B L w v xs) (hb:Below w.heap.size w w'):Acc C sz e B L w' v xs:=by
 obtain ⟨l,h1,h2,h3⟩:=h
 refine ⟨l,h1,Own.owns_below h2 hb,fun p hp=>⟨(h3 p hp).len,?_⟩⟩
 obtain ⟨b,m,hB,hi,hm,hg⟩:=(h3 p hp).has
 exact ⟨b,m,hB,hi.on (Blk.Chg.ofBelow' hb),Nat.le_trans hm hb.size,hg⟩
theorem Acc.own {β:Type} {C:World → List Value → β → Prop} {sz:Nat} {e:TypeId} {B L:Nat} {w:World} {v:Value} {xs:List β} (h:Acc C sz e B L w v xs):∃ cs,w.ownsRow B e sz v xs.length cs:=by
 obtain ⟨l,_,h2,_⟩:=h
 exact ⟨_,h2⟩
theorem Acc.shape {β:Type} {C:World → List Value → β → Prop} {sz:Nat} {e:TypeId} {B L:Nat} {w:World} {v:Value} {xs:List β} (h:Acc C sz e B L w v xs):∃ a cap,v = .slice a xs.length cap:=by
 obtain ⟨cs,h2⟩:=h.own
 obtain ⟨a,cap,e1,_⟩:=Rl.own_shape h2
 exact ⟨a,cap,e1⟩
theorem Acc.more {β:Type} {C:World → List Value → β → Prop} {sz:Nat} {e:TypeId} {B L:Nat} {w w':World} {v v':Value} {xs:List β} (h:Acc C sz e B L w v xs) {cs:List Value} {x:β} {b m:Nat} (hlen:cs.length = sz) (hx:In b m w (fun u=>C u cs x)) (hm:m ≤ w.heap.size) (hb:∀ g,v.ownBlock = some g → g < b ∨ m ≤ g) (hBb:L ≤ b)
  (hown:∀ ys,w.ownsRow B e sz v xs.length ys → w'.ownsRow B e sz v' (xs.length + 1) (ys ++ cs)) (hg:w.grownBy w' v.ownBlock) (hw:∀ k,v'.ownBlock = some k → v.ownBlock = some k ∨ w.heap.size ≤ k):Acc C sz e B L w' v' (xs ++ [x]):=by
 obtain ⟨l,h1,h2,h3⟩:=h
 refine ⟨l ++ [(cs,x)],by simp [h1],?_,fun p hp=>?_⟩
 ·have:=hown _ h2
  simpa using this
 ·have key:∀ (q:List Value × β) (b m:Nat),L ≤ b → In b m w (fun u=>C u q.1 q.2) → m ≤ w.heap.size → (∀ g,v.ownBlock = some g → g < b ∨ m ≤ g) → ∃ b m,L ≤ b ∧ In b m w' (fun u=>C u q.1 q.2) ∧ m ≤ w'.heap.size ∧ ∀ g,v'.ownBlock = some g → g < b ∨ m ≤ g:=fun q b m hB hi hm hb=>by
   refine ⟨b,m,hB,hi.on ((Blk.Chg.refl _ w).grown hg fun k hk _=>hb k hk),Nat.le_trans hm hg.size,fun g hgv=>?_⟩
   rcases hw g hgv with h4 | h4
   ·exact hb g h4
   ·exact .inr (by omega)
  rcases List.mem_append.1 hp with hp | hp
  ·obtain ⟨b,m,hB,hi,hm,hg'⟩:=(h3 p hp).has
   exact ⟨(h3 p hp).len,key p b m hB hi hm hg'⟩
  ·rw [List.mem_singleton.1 hp]
   exact ⟨hlen,key (cs,x) b m hBb hx hm hb⟩
theorem Acc.slc {β:Type} {C:World → List Value → β → Prop} {sz:Nat} {e:TypeId} {B L:Nat} {w:World} {v:Value} {xs:List β} (z:β) (h:Acc C sz e B L w v xs) (hn:xs.length ≤ 1152921504606846976):Slc sz z (CAt C) w v xs:=by
 obtain ⟨l,h1,h2,h3⟩:=h
 obtain ⟨a,cap,rfl,hc⟩:=Rl.own_shape h2
 refine ⟨hn,a,cap,rfl,hc,fun h0=>?_⟩
 obtain ⟨g,cap',e1,_⟩:=Rl.own_slice h2 h0
 simp only [Value.slice.injEq,true_and] at e1
 obtain ⟨rfl,rfl⟩:=e1
 refine ⟨g,0,rfl,fun i hi=>?_⟩
 have hl:l.length = xs.length:=by rw [← h1,List.length_map]
 have hil:i < l.length:=by omega
 obtain ⟨p,hp⟩:∃ p,l[i]? = some p:=⟨l[i],List.getElem?_eq_getElem hil⟩
 have hmem:p ∈ l:=List.mem_iff_getElem?.2 ⟨i,hp⟩
 have hx:xs.getD i z = p.2:=by
  rw [List.getD_eq_getElem?_getD,← h1,List.getElem?_map,hp]; rfl
 obtain ⟨b,m,_,hi',_,_⟩:=(h3 p hmem).has
 refine ⟨p.1,by rw [hx]; exact hi'.here,fun j u hj=>?_⟩
 have hlp:=(h3 p hmem).len
 have hjs:j < sz:=by rw [← hlp]; exact (List.getElem?_eq_some_iff.1 hj).1
 rw [Nat.zero_add]
 refine Rl.own_cell h2 ?_
 rw [flat_row sz (l.map (·.1)) i j p.1 (fun r hr=>by
  obtain ⟨q,hq,rfl⟩:=List.mem_map.1 hr
  exact (h3 q hq).len) (by rw [List.getElem?_map,hp]; rfl) hjs]
 exact hj
theorem infoPk:(Tryz.prog.info? 40).map (fun i=>(i.zero,i.size,i.bytes)) = some (some (.agg #[.string ByteArray.empty,.string ByteArray.empty,.slice none 0 0,.slice none 0 0,.slice none 0 0,.slice none 0 0,.slice none 0 0,.slice none 0 0,.bool false]),9,184):=by kernel_rfl
end Rc
end Go.Proofs.YtmhpjjjjgakpiaaGreatDoor
namespace Go.Proofs.YtmhpjjjjgakpiaaGreatDoor
open Go.RowKit
set_option linter.unusedSimpArgs false
set_option linter.unusedVariables false
namespace Ix
open Ver (cmpV holdsV orr)
open Rl (At Pv may)
open Rc (Pk)
def pmeets (a:At) (v:Pv):Bool:=decide (v.1 = a.1) && (decide (a.2.1 = 0) || holdsV a.2.1 v.2 a.2.2)
def sat (p:Pk) (a:At):Bool:=may a && ((decide (p.nm = a.1) && holdsV a.2.1 p.vs a.2.2) || p.prv.any (pmeets a))
def against (p q:Pk):Bool:=p.con.any (sat q) || p.brk.any (sat q)
def clash (p q:Pk):Bool:=!decide (p.nm = q.nm) && (against p q || against q p)
def LimAt (a:At):Prop:=a.1.length ≤ 140737488351232 ∧ a.2.2.length ≤ 140737488351232
def LimPv (v:Pv):Prop:=v.1.length ≤ 140737488351232 ∧ v.2.length ≤ 140737488351232
def cmpP (p q:Pk):Int:=orr (Lib.compareBytes p.nm q.nm) (cmpV q.vs p.vs)
end Ix
end Go.Proofs.YtmhpjjjjgakpiaaGreatDoor
namespace Go.Proofs.YtmhpjjjjgakpiaaGreatDoor
open Go.RowKit
set_option linter.unusedSimpArgs false
set_option linter.unusedVariables false
namespace Ix
open Ver (Bs S S_size)
open Go.Maps (Keyed)
def RV (v:Value):Option (DataW Value × List MemPlace):=some (.held v,[])
theorem law:Keyed Tryz.prog 9:=Maps.string_keyed Tryz.underlying9
theorem zeroE (w:World):(zeroValue 77).run Tryz.prog w = .ok (.slice none 0 0) w:=by kernel_rfl
theorem infoI:(Tryz.prog.info? 3).map (fun i=>(i.zero,i.size,i.bytes)) = some (some (.int .i64 0),1,8):=by kernel_rfl
def LimS (nm:Bs):Prop:=nm.length ≤ 140737488351232
theorem key_of {nm:Bs} (h:LimS nm):keyOf Tryz.prog 9 (.string (S nm)) = some (.string nm):=by
 have:=WideMaps.keyOf_string_mk (P:=Tryz.prog) Tryz.underlying9 (s:=S nm) (by rw [S_size]; unfold LimS at h; unfold maxLen; omega)
 rw [this]
 congr 2
theorem is_map {w:World} {b n:Nat} {D:DataW Value} (h:w.ownsMap Tryz.prog 9 RV b n D):Maps.IsMap D:=by
 obtain ⟨es,clock,_,_,_,e⟩:=h
 exact ⟨_,e⟩
def Hdr (w:World) (b n:Nat) (hd:Bs → Value) (ks:Bs → Bool):Prop :=
 ∃ D:DataW Value,w.ownsMap Tryz.prog 9 RV b n D ∧ (∀ nm,D.atKey (.string nm) (.held (.slice none 0 0)) = .held (hd nm)) ∧ (∀ nm,Maps.has D (.string nm) = ks nm)
theorem Hdr.chg {w w':World} {b n:Nat} {hd:Bs → Value} {ks:Bs → Bool} {Q:Nat → Prop} (h:Hdr w b n hd ks) (hc:Blk.Chg Q w w') (hn:¬ Q b):Hdr w' b n hd ks:=by
 obtain ⟨D,⟨es,clock,h1,h2,h3,h4⟩,r⟩:=h
 exact ⟨D,⟨es,clock,(hc.block b (Array.getElem?_eq_some_iff.1 h1).1 hn).trans h1,h2,h3,h4⟩,r⟩
theorem Hdr.below {w w':World} {b n:Nat} {hd:Bs → Value} {ks:Bs → Bool} (h:Hdr w b n hd ks) (hb:Below w.heap.size w w'):Hdr w' b n hd ks:=h.chg (Blk.Chg.ofBelow' (S:=fun _=>False) hb) fun h=>h
theorem Hdr.lt {w:World} {b n:Nat} {hd:Bs → Value} {ks:Bs → Bool} (h:Hdr w b n hd ks):b < w.heap.size:=by
 obtain ⟨D,h1,_⟩:=h
 exact h1.lt
theorem Hdr.mono {w:World} {b n n':Nat} {hd:Bs → Value} {ks:Bs → Bool} (h:Hdr w b n hd ks) (hn:n ≤ n'):Hdr w b n' hd ks:=by
 obtain ⟨D,h1,r⟩:=h
 exact ⟨D,h1.mono hn,r⟩
theorem Hdr.made (w:World):Hdr (w.alloc (.map #[] 0)) w.heap.size 0 (fun _=>.slice none 0 0) (fun _=>false) :=
 ⟨.map [],World.ownsMap_made w _ _ _,fun nm=>rfl,fun nm=>rfl⟩
theorem Hdr.look {w:World} {b n:Nat} {hd:Bs → Value} {ks:Bs → Bool} (h:Hdr w b n hd ks) {nm:Bs} (hs:LimS nm):(Instr.lookup 86 (.map (some b)) (.string (S nm)) false).run Tryz.prog w = .ok (hd nm) w:=by
 obtain ⟨D,h1,h2,_⟩:=h
 obtain ⟨v,ps,hr,hv⟩:=h1.lookup law Tryz.underlying86 (zeroE w) (zd:=.held (.slice none 0 0)) (zp:=[]) rfl (key_of hs)
 rw [h2 nm] at hv
 unfold RV at hv
 simp only [Option.some.injEq,Prod.mk.injEq,DataW.held.injEq] at hv
 rw [hr,hv.1]
theorem Hdr.update {w:World} {b n:Nat} {hd:Bs → Value} {ks:Bs → Bool} (h:Hdr w b n hd ks) {nm:Bs} (hs:LimS nm) (hn:n ≤ 100000) (v:Value) :
  ∃ w',(Instr.mapUpdate 86 (.map (some b)) (.string (S nm)) v).run Tryz.prog w = .ok () w' ∧ Hdr w' b (n + 1) (fun x=>if x = nm then v else hd x) (fun x=>if x = nm then true else ks x) ∧ w.grownBy w' (some b):=by
 obtain ⟨D,h1,h2,h3⟩:=h
 obtain ⟨w',hr,ho,hg⟩:=h1.update law Tryz.underlying86 (by unfold maxLen; omega) (key_of hs) (val:=v) (d:=.held v) (ps:=[]) rfl
 refine ⟨w',hr,⟨_,ho,fun x=>?_,fun x=>?_⟩,hg⟩
 ·show _ = DataW.held (if x = nm then v else hd x)
  by_cases e:x = nm
  ·subst e
   rw [if_pos rfl,Maps.atKey_put_same (is_map h1) (law.key (key_of hs))]
  ·rw [if_neg e,Maps.atKey_put_other (fun hh=>e (by injection hh)),h2 x]
 ·show _ = (if x = nm then true else ks x)
  by_cases e:x = nm
  ·subst e
   rw [if_pos rfl,Maps.has_put_same (is_map h1) (law.key (key_of hs))]
  ·rw [if_neg e,Maps.has_put_other (fun hh=>e (by injection hh)),h3 x]
/-! ### two maps -/
def addTo (l:List Nat) (k:Nat):List Nat:=if l.getLast? = some k then l else l ++ [k]
def upd (g:Bool → Bs → List Nat) (m:Bool) (nm:Bs) (k:Nat):Bool → Bs → List Nat:=fun m' x=>if m' = m ∧ x = nm then addTo (g m nm) k else g m' x
def ints (l:List Nat):List Value:=l.map fun (k:Nat)=>Value.int .i64 (k:Int)
theorem ints_app (l:List Nat) (k:Nat):ints (l ++ [k]) = ints l ++ [.int .i64 (k:Int)]:=by unfold ints; rw [List.map_append]; rfl
theorem ints_len (l:List Nat):(ints l).length = l.length:=by unfold ints; rw [List.length_map]
def Gs (w:World) (M:Nat) (bm:Bool → Nat) (g:Bool → Bs → List Nat) (n:Nat):Prop :=
 (∀ m,bm m < M) ∧ bm true ≠ bm false ∧ M ≤ w.heap.size ∧ (∀ m nm,(g m nm).length ≤ n) ∧ ∃ hd:Bool → Bs → Value,(∀ m,Hdr w (bm m) n (hd m) (fun nm=>decide (g m nm ≠ [])))
  ∧ (∀ m nm,w.ownsRow M 3 1 (hd m nm) (g m nm).length (ints (g m nm)))
  ∧ (∀ m nm m' nm',(m,nm) ≠ (m',nm') → (hd m nm).ownBlock = none ∨ (hd m nm).ownBlock ≠ (hd m' nm').ownBlock)
theorem Gs.below {w w':World} {M:Nat} {bm:Bool → Nat} {g:Bool → Bs → List Nat} {n:Nat} (h:Gs w M bm g n) (hb:Below w.heap.size w w'):Gs w' M bm g n:=by
 obtain ⟨h1,h2,h3,h3',hd,h4,h5,h6⟩:=h
 exact ⟨h1,h2,Nat.le_trans h3 hb.size,h3',hd,fun m=>(h4 m).below hb,fun m nm=>Own.owns_below (h5 m nm) hb,h6⟩
theorem Gs.mono {w:World} {M:Nat} {bm:Bool → Nat} {g:Bool → Bs → List Nat} {n n':Nat} (h:Gs w M bm g n) (hn:n ≤ n'):Gs w M bm g n':=by
 obtain ⟨h1,h2,h3,h3',hd,h4,h5,h6⟩:=h
 exact ⟨h1,h2,h3,fun m nm=>Nat.le_trans (h3' m nm) hn,hd,fun m=>(h4 m).mono hn,h5,h6⟩
theorem Gs.eq {w:World} {M:Nat} {bm:Bool → Nat} {g g':Bool → Bs → List Nat} {n:Nat} (h:Gs w M bm g n) (e:∀ m nm,g' m nm = g m nm):Gs w M bm g' n:=by
 have:g' = g:=funext fun m=>funext fun nm=>e m nm
 rw [this]; exact h
theorem Gs.put {w w4 w5:World} {M:Nat} {bm:Bool → Nat} {g:Bool → Bs → List Nat} {n:Nat} {hd:Bool → Bs → Value} (h1:∀ m,bm m < M) (h2:bm true ≠ bm false) (h3:M ≤ w.heap.size) (h3':∀ m nm,(g m nm).length ≤ n)
  (h4:∀ m,Hdr w (bm m) n (hd m) (fun nm=>decide (g m nm ≠ []))) (h5:∀ m nm,w.ownsRow M 3 1 (hd m nm) (g m nm).length (ints (g m nm)))
  (h6:∀ m nm m' nm',(m,nm) ≠ (m',nm') → (hd m nm).ownBlock = none ∨ (hd m nm).ownBlock ≠ (hd m' nm').ownBlock)
  {m:Bool} {nm:Bs} {v':Value} {k:Nat} (hl:(g m nm).getLast? ≠ some k) (hg4:w.grownBy w4 (hd m nm).ownBlock) (ho:w4.ownsRow M 3 1 v' ((g m nm).length + 1) (ints (g m nm) ++ [.int .i64 (k:Int)]))
  (hloc:∀ j,v'.ownBlock = some j → (hd m nm).ownBlock = some j ∨ w.heap.size ≤ j) (hg5:w4.grownBy w5 (some (bm m)))
  (hu:Hdr w5 (bm m) (n + 1) (fun x=>if x = nm then v' else hd m x) (fun x=>if x = nm then true else decide (g m x ≠ []))) :
  Gs w5 M bm (upd g m nm k) (n + 1) ∧ Blk.Chg (fun j=>j = bm m ∨ (M ≤ j ∧ ∃ cs,Blk.Is w j 3 cs)) w w5:=by
 have hadd:addTo (g m nm) k = g m nm ++ [k]:=by unfold addTo; rw [if_neg hl]
 have hc4:Blk.Chg (fun j=>some j = (hd m nm).ownBlock) w w4:=(Blk.Chg.refl _ w).grown hg4 fun j hj _=>hj.symm
 have hc5:Blk.Chg (fun j=>j = bm m) w4 w5:=(Blk.Chg.refl _ w4).grown hg5 fun j hj _=>(Option.some.inj hj).symm
 have hM:∀ j,(hd m nm).ownBlock = some j → M ≤ j:=fun j hj=>(Rl.own_lt (h5 m nm) hj).1
 have rowlt:∀ m' x j,(hd m' x).ownBlock = some j → M ≤ j ∧ j < w.heap.size:=fun m' x j hj=>Rl.own_lt (h5 m' x) hj
 refine ⟨⟨h1,h2,Nat.le_trans h3 (Nat.le_trans hg4.size hg5.size),fun m' x=>?_,fun m' x=>if m' = m ∧ x = nm then v' else hd m' x,fun m'=>?_,fun m' x=>?_,fun m1 x1 m2 x2 hne=>?_⟩,?_⟩
 ·unfold upd
  split
  ·rw [hadd,List.length_append]; have:=h3' m nm; simp; omega
  ·have:=h3' m' x; omega
 ·by_cases e:m' = m
  ·subst e
   obtain ⟨D,r1,r2,r3⟩:=hu
   refine ⟨D,r1,fun x=>?_,fun x=>?_⟩
   ·rw [r2 x]; simp
   ·rw [r3 x]
    show (if x = nm then true else decide (g m' x ≠ [])) = decide ((if m' = m' ∧ x = nm then addTo (g m' nm) k else g m' x) ≠ [])
    by_cases ex:x = nm
    ·subst ex
     rw [if_pos rfl,if_pos ⟨rfl,rfl⟩,hadd]; simp
    ·rw [if_neg ex,if_neg (fun h=>ex h.2)]
  ·have hneb:bm m' ≠ bm m:=by
    intro hh
    cases m' <;> cases m <;> first | exact absurd rfl e | exact h2 hh | exact h2 hh.symm
   have e2:(fun x=>if m' = m ∧ x = nm then v' else hd m' x) = hd m':=funext fun x=>if_neg fun h=>e h.1
   have e3:(fun x=>decide (upd g m nm k m' x ≠ [])) = fun x=>decide (g m' x ≠ []):=funext fun x=>by unfold upd; rw [if_neg fun h=>e h.1]
   show Hdr w5 (bm m') (n + 1) (fun x=>if m' = m ∧ x = nm then v' else hd m' x) (fun x=>decide (upd g m nm k m' x ≠ []))
   rw [e2,e3]
   refine (((h4 m').chg hc4 fun hs=>?_).chg hc5 hneb).mono (Nat.le_succ n)
   have:=hM _ hs.symm
   have:=h1 m'
   omega
 ·show w5.ownsRow M 3 1 (if m' = m ∧ x = nm then v' else hd m' x) (upd g m nm k m' x).length (ints (upd g m nm k m' x))
  unfold upd
  by_cases e:m' = m ∧ x = nm
  ·obtain ⟨rfl,rfl⟩:=e
   rw [if_pos ⟨rfl,rfl⟩,if_pos ⟨rfl,rfl⟩,hadd,ints_app,List.length_append]
   refine hc5.owns ho fun j hj hs=>?_
   have:=(Rl.own_lt ho hj).1
   have:=h1 m'
   omega
  ·rw [if_neg e,if_neg e]
   refine hc5.owns (hc4.owns (h5 m' x) fun j hj hs=>?_) fun j hj hs=>?_
   ·rcases h6 m' x m nm (fun h=>e ⟨(Prod.mk.inj h).1,(Prod.mk.inj h).2⟩) with h | h
    ·rw [h] at hj; cases hj
    ·exact h (hj.trans hs)
   ·have:=(rowlt m' x j hj).1
    have:=h1 m
    omega
 ·show (if m1 = m ∧ x1 = nm then v' else hd m1 x1).ownBlock = none ∨ (if m1 = m ∧ x1 = nm then v' else hd m1 x1).ownBlock ≠ (if m2 = m ∧ x2 = nm then v' else hd m2 x2).ownBlock
  by_cases e1:m1 = m ∧ x1 = nm
  ·have e2:¬ (m2 = m ∧ x2 = nm):=fun h=>hne (by rw [e1.1,e1.2,h.1,h.2])
   rw [if_pos e1,if_neg e2]
   cases hv:v'.ownBlock with
   | none=>exact .inl rfl
   | some j =>
    refine .inr fun hh=>?_
    rcases hloc j hv with h | h
    ·rcases h6 m2 x2 m nm (fun h=>e2 ⟨(Prod.mk.inj h).1,(Prod.mk.inj h).2⟩) with h' | h'
     ·rw [h'] at hh; cases hh
     ·exact h' (hh.symm.trans h.symm)
    ·have:=(rowlt m2 x2 j hh.symm).2
     omega
  ·rw [if_neg e1]
   by_cases e2:m2 = m ∧ x2 = nm
   ·rw [if_pos e2]
    cases hv:(hd m1 x1).ownBlock with
    | none=>exact .inl rfl
    | some j =>
     refine .inr fun hh=>?_
     rcases hloc j hh.symm with h | h
     ·rcases h6 m1 x1 m nm (fun h=>e1 ⟨(Prod.mk.inj h).1,(Prod.mk.inj h).2⟩) with h' | h'
      ·rw [h'] at hv; cases hv
      ·exact h' (hv.trans h.symm)
     ·have:=(rowlt m1 x1 j hv).2
      omega
   ·rw [if_neg e2]
    exact h6 m1 x1 m2 x2 hne
 ·refine (hc4.mono fun j _ hs=>.inr ⟨hM j hs.symm,Rl.own_is (h5 m nm) hs.symm⟩).trans (hc5.mono fun j _ hs=>.inl hs)
theorem append_int {w:World} {ops:Array Oper} {rest:List Oper} {o:Oper} {a:Act} {Q:Exit → Act → World → Prop} (hgd:o.guard = none) (s x:Operand)
  (ho:o.op = .call { callee:=.builtin .append,args:=#[s,x],argTypes:=#[77,77] })
  (B:Nat) (v:Value) (n:Nat) (xs:List Value) (hv:a.eval s = v) (hown:w.ownsRow B 3 1 v n xs) (b c:Nat) (hx:a.eval x = .slice (some ⟨b,0,none⟩) 1 c) (u:Value) (hc:w.cell? ⟨b,0,none⟩ = some u) (ho1:u.oneCell' = true) (hn:n + 1 ≤ 70000) (hB:B ≤ w.heap.size)
  (h:∀ v' w',w'.ownsRow B 3 1 v' (n + 1) (xs ++ [u]) → w.grownBy w' v.ownBlock → (∀ k,v'.ownBlock = some k → v.ownBlock = some k ∨ w.heap.size ≤ k) → wpList Tryz.prog ops Q rest (a.put o.dst v') w'):wpList Tryz.prog ops Q (o :: rest) a w:=by
 obtain ⟨i0,hi,hz0,hz1,hz2⟩:=info_parts infoI
 have hsrc:Src Tryz.prog 1 77 (.slice (some ⟨b,0,none⟩) 1 c) 1 [u] w:=by
  refine Src.ofSlice w Tryz.underlying77 ⟨b,0,none⟩ 1 c [u] rfl (fun j y hj=>?_) (fun y hy=>by simp only [List.mem_singleton] at hy; rw [hy]; exact ho1)
  cases j with
  | zero=>simp at hj; subst hj; simpa [Addr.add] using hc
  | succ j=>simp at hj
 refine wpList_plain hgd fun K hK=>?_
 obtain ⟨v',w',hr,h2,h3,h4⟩:=Own.run_append_src (P:=Tryz.prog) 77 77 o.type B 3 i0 (.int .i64 0) 1 8 Tryz.underlying77 hi hz0 hz1 hz2 rfl v n xs hown _ 1 [u] hsrc (by simp only [maxLen]; omega) (by omega) hB
 unfold Oper.wp execOp
 simp only [ho,resolve,invoke,builtin,Sem.run_bind,Sem.run_pure,Result.andThen_ok,List.map_toArray,List.map_cons,List.map_nil,hv,hx,hr]
 exact hK _ _ (h v' w' h2 h3 h4)
set_option maxRecDepth 100000 in
set_option maxHeartbeats 8000000 in
theorem add_any (m:Bool) (nm:Bs) (k:Nat) (w:World) {M:Nat} {bm:Bool → Nat} {g:Bool → Bs → List Nat} {n:Nat} (h:Gs w M bm g n) (hn:n ≤ 60000) (hs:LimS nm) (hk:k ≤ 60000) :
  Calls Tryz.prog 69 #[.map (some (bm m)),.string (S nm),.int .i64 (k:Int)] w fun e w'=>e = .returned (.tuple #[]) ∧ Gs w' M bm (upd g m nm k) (n + 1) ∧ Blk.Chg (fun j=>j = bm m ∨ (M ≤ j ∧ ∃ cs,Blk.Is w j 3 cs)) w w':=by
 have hG:=h
 obtain ⟨h1,h2,h3,h3',hd,h4,h5,h6⟩:=h
 have hrun:=(h4 m).look hs
 have hrow:=h5 m nm
 have hlen:=h3' m nm
 obtain ⟨va,vc,hva,hcap⟩:=Rl.own_shape hrow
 by_cases hl:(g m nm).getLast? = some k
 ·-- it is there already
  obtain ⟨l',hl'⟩:∃ l',g m nm = l' ++ [k]:=by
   have hne:g m nm ≠ []:=fun e=>by rw [e] at hl; cases hl
   refine ⟨(g m nm).dropLast,?_⟩
   have:=List.dropLast_concat_getLast hne
   rw [List.getLast?_eq_some_getLast hne] at hl
   rw [Option.some.inj hl] at this
   exact this.symm
  have hlen2:(g m nm).length = l'.length + 1:=by rw [hl',List.length_append]; rfl
  obtain ⟨b,c2,e2,_⟩:=Rl.own_slice hrow (by omega)
  have hcell:=Rl.own_cell (e2 ▸ hrow) (i:=l'.length) (u:=.int .i64 (k:Int)) (by rw [hl',ints_app,← ints_len l',List.getElem?_concat_length])
  have hres:Gs w M bm (upd g m nm k) (n + 1):=(hG.eq fun m' x=>by
   unfold upd
   split
   ·rename_i e
    obtain ⟨rfl,rfl⟩:=e
    unfold addTo; rw [if_pos hl]
   ·rfl).mono (Nat.le_succ n)
  rw [e2,hlen2] at hrun
  have hpos:(0:Int) < (l'.length:Int) + 1:=by omega
  have HR:=Lib.hid hres
  have hbound:l'.length ≤ 60000:=by omega
  generalize l'.length = N at *
  clear hres hG h1 h2 h3 h3' h4 h5 h6 hrow hva hl hl' hlen2 e2 hs hcap
  go_enter Tryz.func69,Tryz.ntmps69
  go_wp2_with fail
  refine bodyPost_ret (results_none rfl _ _ _) rfl ?_
  exact ⟨rfl,HR.out,Blk.Chg.refl _ _⟩
 ·-- it is put behind them
  have hb1:Below w.heap.size w (w.alloc (.cells #[.int .i64 (k:Int)] 3)):=(Below.refl _ _).alloc (Nat.le_refl _) _
  have i1:=Blk.Is.new w 3 #[.int .i64 (k:Int)]
  obtain ⟨W1,hW1⟩:∃ W1,w.alloc (.cells #[.int .i64 (k:Int)] 3) = W1:=⟨_,rfl⟩
  rw [hW1] at hb1 i1
  have H4:=Lib.hid (fun m'=>(h4 m').below hb1)
  have H5:=Lib.hid (fun m' x=>Own.owns_below (h5 m' x) hb1)
  have H1:=Lib.hid h1
  have H2:=Lib.hid h2
  have H3':=Lib.hid h3'
  have H6:=Lib.hid h6
  have HM:=Lib.hid (Nat.le_trans h3 hb1.size)
  have HC0:=Lib.hid (i1.at (i:=0) rfl)
  have HW1:=Lib.hid hW1
  have HB1:=Lib.hid hb1
  have HL:=Lib.hid hl
  have HROW:=Lib.hid (Own.owns_below hrow hb1)
  have HV:=Lib.hid hva
  have HS:=Lib.hid hs
  have hN:(g m nm).length + 1 ≤ 70000:=by omega
  have fin:∀ (v':Value) (w4:World),w4.ownsRow M 3 1 v' ((g m nm).length + 1) (ints (g m nm) ++ [.int .i64 (k:Int)]) → W1.grownBy w4 (hd m nm).ownBlock → (∀ j,v'.ownBlock = some j → (hd m nm).ownBlock = some j ∨ W1.heap.size ≤ j) →
    ∃ w5,(Instr.mapUpdate 86 (.map (some (bm m))) (.string (S nm)) v').run Tryz.prog w4 = .ok () w5 ∧ Gs w5 M bm (upd g m nm k) (n + 1) ∧ Blk.Chg (fun j=>j = bm m ∨ (M ≤ j ∧ ∃ cs,Blk.Is w j 3 cs)) w w5:=by
   intro v' w4 o4 g4 l4
   have hc4:Blk.Chg (fun j=>some j = (hd m nm).ownBlock) W1 w4:=(Blk.Chg.refl _ W1).grown g4 fun j hj _=>hj.symm
   have hh:=(H4.out m).chg hc4 fun e=>by have:=(Rl.own_lt HROW.out e.symm).1; have:=H1.out m; omega
   obtain ⟨w5,hr,hu,hg5⟩:=hh.update HS.out (by omega) v'
   obtain ⟨r1,r2⟩:=Gs.put H1.out H2.out HM.out H3'.out H4.out H5.out H6.out HL.out g4 o4 l4 hg5 hu
   refine ⟨w5,hr,r1,r2.os.trans HB1.out.os,r2.tape.trans HB1.out.tape,r2.output.trans HB1.out.output,Nat.le_trans HB1.out.size r2.size,fun j hj hn=>?_⟩
   rw [r2.block j (Nat.lt_of_lt_of_le hj HB1.out.size) (fun hs=>hn ?_),HB1.out.block j hj]
   rcases hs with hs | ⟨hs1,cs,hs2⟩
   ·exact .inl hs
   ·exact .inr ⟨hs1,cs,(HB1.out.block j hj).symm.trans hs2⟩
  have FIN:=Lib.hid fin
  obtain ⟨N,hNl⟩:∃ N,(g m nm).length = N:=⟨_,rfl⟩
  obtain ⟨XS,hXS⟩:∃ XS,ints (g m nm) = XS:=⟨_,rfl⟩
  rw [hNl,hXS] at HROW FIN
  rw [hNl] at HV hN hva hlen hcap
  rw [hva] at hrun HROW FIN
  rcases Nat.eq_zero_or_pos N with h0 | h0
  ·subst h0
   clear hb1 i1 h1 h2 h3 h3' h4 h5 h6 hrow hl hva hs fin hG hNl hXS H4 H5 H1 H2 H3' H6 HL HV HS
   go_enter Tryz.func69,Tryz.ntmps69
   go_wp2_with (at_builtin; refine append_int rfl (.tmp 25) (.tmp 27) rfl M (.slice va 0 vc) 0 XS rfl HROW.out w.heap.size 1 rfl (.int .i64 (k:Int)) HC0.out rfl hN HM.out ?_; intro v' w4 o4 g4 l4; obtain ⟨w5,hr5,hgs,hch⟩:=FIN.out v' w4 o4 g4 l4; have HGS:=Lib.hid hgs; have HCH:=Lib.hid hch; clear hgs hch o4 g4 l4)
   go_end0
   exact ⟨rfl,HGS.out,HCH.out⟩
  ·obtain ⟨N',rfl⟩:∃ N',N = N' + 1:=⟨N - 1,by omega⟩
   obtain ⟨b,c2,e2,_⟩:=Rl.own_slice HROW.out (by omega)
   simp only [Value.slice.injEq,true_and] at e2
   obtain ⟨rfl,rfl⟩:=e2
   obtain ⟨L,hL⟩:∃ L,(g m nm)[N']? = some L:=⟨(g m nm)[N']'(by omega),List.getElem?_eq_getElem _⟩
   have hLk:L ≠ k:=fun e=>hl (by rw [List.getLast?_eq_getElem?,hNl,Nat.add_sub_cancel,hL,e])
   have hrow2:=hrow
   rw [hva,hNl,hXS] at hrow2
   have hcell:=Rl.own_cell hrow2 (i:=N') (u:=.int .i64 (L:Int)) (by rw [← hXS]; unfold ints; rw [List.getElem?_map,hL]; rfl)
   have hne:((L:Int) == (k:Int)) = false:=by rw [beq_eq_false_iff_ne]; omega
   have hpos:(0:Int) < (N':Int) + 1:=by omega
   clear hb1 i1 h1 h2 h3 h3' h4 h5 h6 hrow hl hva hs fin hG hNl hXS H4 H5 H1 H2 H3' H6 HL HV HS hL hLk hrow2
   go_enter Tryz.func69,Tryz.ntmps69
   go_wp2_with (at_builtin; refine append_int rfl (.tmp 25) (.tmp 27) rfl M (.slice (some ⟨b,0,none⟩) (N' + 1) vc) (N' + 1) XS rfl HROW.out w.heap.size 1 rfl (.int .i64 (k:Int)) HC0.out rfl hN HM.out ?_; intro v' w4 o4 g4 l4; obtain ⟨w5,hr5,hgs,hch⟩:=FIN.out v' w4 o4 g4 l4; have HGS:=Lib.hid hgs; have HCH:=Lib.hid hch; clear hgs hch o4 g4 l4)
   go_end0
   exact ⟨rfl,HGS.out,HCH.out⟩
end Ix
end Go.Proofs.YtmhpjjjjgakpiaaGreatDoor

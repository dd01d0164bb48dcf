/-
Stanzas while they are read: a further text, a further field, a further stanza.
-/
import Derived.Test.YthmpepnikmdjpaaGreatDoorCStzMem
namespace Go.Proofs.YthmpepnikmdjpaaGreatDoor
open Go.RowKit
set_option linter.unusedSimpArgs false
set_option linter.unusedVariables false
namespace Stz
theorem getD_snoc_lt {α:Type} (l:List α) (x d:α) {i:Nat} (h:i < l.length):(l ++ [x]).getD i d = l.getD i d:=by
 simp [List.getD,List.getElem?_append_left h]
theorem getD_snoc_eq {α:Type} (l:List α) (x d:α):(l ++ [x]).getD l.length d = x:=by
 simp [List.getD]
theorem texts_ne_fields:(9:TypeId) ≠ 43:=by decide
theorem fields_ne_stanzas:(43:TypeId) ≠ 40:=by decide
theorem texts_ne_stanzas:(9:TypeId) ≠ 40:=by decide
theorem Mem.shut {w:World} {B:Nat} {sv:Value} {done:List Sz} {n:Int} {fs:List Fld} {f:Fld} (h:Mem w B sv done (some (n,fs,some f))):Mem w B sv done (some (n,fs ++ [f],none)):=by
 obtain ⟨M,N,xs,h0,h1,h2,h3,h4,k1,v,ys,k2,k3,k4,j1,u,j2,j3⟩:=h
 refine ⟨M,w.heap.size,xs,h0,h1,Nat.le_refl _,h3,h4.mono (Nat.le_refl _) h2,k1,v,ys,k2,?_,fun i hi=>?_,trivial⟩
 ·have e:(fs ++ [f]).length + cnt (none:Option Fld) = fs.length + cnt (some f):=by simp [cnt]
  rw [e]; exact k3
 ·by_cases hlt:i < fs.length
  ·rw [getD_snoc_lt _ _ _ hlt]
   exact k4.mono h2 i hlt
  ·obtain rfl:i = fs.length:=by simp at hi; omega
   rw [getD_snoc_eq]
   exact ⟨j1,u,j2,own_mono j3 (Nat.le_max_left _ _),fun k hk=>(own_lt j3 hk).2⟩
theorem Mem.close {w:World} {B:Nat} {sv:Value} {done:List Sz} {n:Int} {fs:List Fld} (h:Mem w B sv done (some (n,fs,none))):Mem w B sv (done ++ [(n,fs)]) none:=by
 obtain ⟨M,N,xs,h0,h1,h2,h3,h4,k1,v,ys,k2,k3,k4,_⟩:=h
 refine ⟨w.heap.size,N,xs,h0,Nat.le_refl _,h2,?_,fun i hi=>?_,trivial⟩
 ·have e:(done ++ [(n,fs)]).length + cnt (none:Option (Int × List Fld × Option Fld)) = done.length + cnt (some (n,fs,(none:Option Fld))):=by simp [cnt]
  rw [e]; exact h3
 ·by_cases hlt:i < done.length
  ·rw [getD_snoc_lt _ _ _ hlt]
   exact h4.mono h1 (Nat.le_refl _) i hlt
  ·obtain rfl:i = done.length:=by simp at hi; omega
   rw [getD_snoc_eq]
   refine ⟨k1,v,k2,ys,own_mono (by simpa [cnt] using k3) (Nat.le_max_left _ _),fun k hk=>(own_lt k3 hk).2,k4⟩
def curM (z:Zip):Option (Int × List Fld × Option Fld):=z.cur.map fun p=>(p.1,p.2.1,some p.2.2)
def MemZ (w:World) (B:Nat) (sv:Value) (z:Zip):Prop:=Mem w B sv z.done (curM z)
theorem MemZ.close {w:World} {B:Nat} {sv:Value} {z:Zip} (h:MemZ w B sv z):MemZ w B sv z.close:=by
 obtain ⟨d,q⟩:=z
 cases q with
 | none=>exact h
 | some p =>
  obtain ⟨n,fs,f⟩:=p
  exact Mem.close (Mem.shut h)
theorem TextsIn.read {w:World} {B N:Nat} {u:Value} {ls:List Bs} (h:TextsIn w B N u ls) (hl:ls.length ≤ 4611686018427387904):Txt.Texts w u (ls.map S):=by
 have:=Txt.Texts.owned (w:=w) (B:=B) (v:=u) (ls:=ls.map S) (by rw [List.length_map]; exact h.1) (by rw [List.length_map]; exact hl)
 exact this
def Bnd (m:Nat) (l:List Sz):Prop:=l.length ≤ m ∧ ∀ s ∈ l,s.2.length ≤ m ∧ ∀ f ∈ s.2,f.2.length ≤ m
theorem FldsIn.read {w:World} {B M N:Nat} {v:Value} {fs:List Fld} (h:FldsIn w B M N v fs) {m:Nat} (hm:m ≤ 1152921504606846976) (hl:fs.length ≤ m) (hf:∀ f ∈ fs,f.2.length ≤ m):Flds w v fs:=by
 obtain ⟨ys,h1,h2,h3⟩:=h
 obtain ⟨a,cap,rfl,hc⟩:=own_shape h1
 refine ⟨by omega,a,cap,rfl,hc,fun h0=>?_⟩
 obtain ⟨g,cap',e,_⟩:=own_slice h1 h0
 simp only [Value.slice.injEq,true_and] at e
 obtain ⟨rfl,rfl⟩:=e
 refine ⟨g,0,rfl,fun i hi=>?_⟩
 obtain ⟨k1,u,k2,k3⟩:=h3 i hi
 rw [Nat.zero_add]
 refine ⟨own_cell h1 k1,u,own_cell h1 k2,k3.read ?_⟩
 have hmem:fs.getD i ([],[]) ∈ fs:=by simp [List.getD,List.getElem?_eq_getElem hi]
 have:=hf _ hmem
 omega
theorem Mem.read {w:World} {B:Nat} {sv:Value} {done:List Sz} (h:Mem w B sv done none) {m:Nat} (hm:m ≤ 1152921504606846976) (hb:Bnd m done):Stzs w sv done:=by
 obtain ⟨M,N,xs,h0,h1,h2,h3,h4,_⟩:=h
 obtain ⟨a,cap,rfl,hc⟩:=own_shape h3
 have hc':done.length ≤ cap:=hc
 refine ⟨by have:=hb.1; omega,a,cap,rfl,hc',fun hl=>?_⟩
 obtain ⟨g,cap',e,_⟩:=own_slice h3 (by exact hl)
 simp only [Value.slice.injEq,true_and] at e
 obtain ⟨rfl,rfl⟩:=e
 refine ⟨g,0,rfl,fun i hi=>?_⟩
 obtain ⟨k1,u,k2,k3⟩:=h4 i hi
 rw [Nat.zero_add]
 have hmem:done.getD i (0,[]) ∈ done:=by simp [List.getD,List.getElem?_eq_getElem hi]
 have:=hb.2 _ hmem
 exact ⟨own_cell h3 k1,u,own_cell h3 k2,k3.read hm this.1 this.2⟩
structure Left (B:Nat) (w w':World):Prop where
 below:Below B w w'
 kinds:∀ p T cs,T ≠ 9 → T ≠ 43 → T ≠ 40 → Blk.Is w p T cs → Blk.Is w' p T cs
theorem Left.of_chg {S':Nat → Prop} {B:Nat} {w w':World} (hc:Blk.Chg S' w w') (hB:B ≤ w.heap.size) (hS:∀ k,S' k → B ≤ k ∧ ∃ T cs,(T = 9 ∨ T = 43 ∨ T = 40) ∧ Blk.Is w k T cs):Left B w w':=by
 refine ⟨hc.below (fun k hk=>(hS k hk).1) hB,fun p T cs h1 h2 h3 h=>hc.is h fun hp=>?_⟩
 obtain ⟨_,T',cs',hT,hi⟩:=hS p hp
 obtain ⟨e,_⟩:=h.inj hi
 rcases hT with rfl | rfl | rfl
 ·exact h1 e
 ·exact h2 e
 ·exact h3 e
theorem own_is {w:World} {B:Nat} {e:TypeId} {sz:Nat} {v:Value} {n:Nat} {xs:List Value} (h:w.ownsRow B e sz v n xs) {k:Nat} (hk:v.ownBlock = some k):∃ cs,Blk.Is w k e cs:=by
 rcases h.2 with ⟨rfl,_⟩ | ⟨g,cap,cur,rfl,hg,hh,_⟩
 ·cases hk
 ·simp only [Value.ownBlock,Option.some.injEq] at hk
  subst hk
  exact ⟨cur,hh⟩
theorem Mem.more {w:World} {B:Nat} {sv:Value} {done:List Sz} (h:Mem w B sv done none) (n:Int):∃ xs,w.ownsRow B 40 2 sv done.length xs ∧
  ∀ w' sv',w'.ownsRow B 40 2 sv' (done.length + 1) (xs ++ [.int .i64 n,.slice none 0 0]) → w.grownBy w' sv.ownBlock → Mem w' B sv' done (some (n,[],none)) ∧ Left B w w':=by
 obtain ⟨M,N,xs,h0,h1,h2,h3,h4,_⟩:=h
 have h3':w.ownsRow B 40 2 sv done.length xs:=h3
 refine ⟨xs,h3',fun w' sv' k1 k2=>?_⟩
 have hc:Blk.Chg (fun k=>sv.ownBlock = some k) w w':=Blk.Chg.grown (Blk.Chg.refl _ w) k2 fun k hk _=>hk
 have hs:=hc.size
 have hxl:xs.length = 2 * done.length:=by have:=h3'.1; omega
 have hM:w.heap.size ≤ w'.heap.size:=hs
 refine ⟨⟨w.heap.size,N,_,by omega,hM,by omega,by simpa [cnt] using k1,?_,?_⟩,?_⟩
 ·have h5:=(h4.mono h1 (Nat.le_refl N)).chg hc (fun u m zs hu k hk _ hk'=>own_ne hu h3' texts_ne_stanzas k hk hk') (fun u m zs hu k hk _ hk'=>own_ne hu h3' fields_ne_stanzas k hk hk')
  intro i hi
  obtain ⟨j1,v,j2,j3⟩:=h5 i hi
  refine ⟨?_,v,?_,j3⟩
  ·rw [List.getElem?_append_left (by omega)]; exact j1
  ·rw [List.getElem?_append_left (by omega)]; exact j2
 ·refine ⟨?_,.slice none 0 0,[],?_,World.ownsRow_nil w' _ _ 2,fun i hi=>absurd hi (by simp),trivial⟩
  ·rw [← hxl]; simp
  ·rw [← hxl]; simp
 ·exact Left.of_chg hc h0 fun k hk=>⟨(own_lt h3' hk).1,_,_,.inr (.inr rfl),(own_is h3' hk).choose_spec⟩
theorem set_get_ne {xs:List Value} {i j:Nat} {u:Value} (h:j ≠ i):(xs.set i u)[j]? = xs[j]?:=by
 rw [List.getElem?_set]
 rw [if_neg (fun e=>h e.symm)]
theorem set_get_eq {xs:List Value} {i:Nat} {u:Value} (h:i < xs.length):(xs.set i u)[i]? = some u:=by
 rw [List.getElem?_set,if_pos rfl,if_pos h]
theorem chg_cell {S':Nat → Prop} {w w':World} (h:Blk.Chg S' w w') (g i:Nat) (u:Value):Blk.Chg (fun k=>S' k ∨ k = g) w (w'.setCell ⟨g,i,none⟩ u) :=
 (h.mono (S':=fun k=>S' k ∨ k = g) fun k _ hk=>Or.inl hk).setAt (b:=g) (Or.inr rfl)
theorem Mem.put {wE w:World} {B:Nat} {sv:Value} {done:List Sz} {n:Int} {fs:List Fld} (h:Mem wE B sv done (some (n,fs,none))) (hb:Below wE.heap.size wE w) :
  ∃ g cap v C ys,sv = .slice (some ⟨g,0,none⟩) (done.length + 1) cap ∧ g < wE.heap.size ∧ wE.cell? ⟨g,2 * done.length + 1,none⟩ = some v ∧ B ≤ C ∧ C ≤ wE.heap.size ∧ w.ownsRow C 43 2 v fs.length ys ∧
   ∀ w':World,w.grownBy w' v.ownBlock → (w'.cell? ⟨g,2 * done.length + 1,none⟩ = some v ∧ w'.frozen? ⟨g,2 * done.length + 1,none⟩ = false) ∧
    ∀ (nm x:Bs) (lv v':Value),w.ownsRow wE.heap.size 9 1 lv 1 [.string (S x)] → w'.ownsRow C 43 2 v' (fs.length + 1) (ys ++ [.string (S nm),lv]) →
     Mem (w'.setCell ⟨g,2 * done.length + 1,none⟩ v') B sv done (some (n,fs,some (nm,[x]))) ∧ Left B w (w'.setCell ⟨g,2 * done.length + 1,none⟩ v'):=by
 obtain ⟨M,N,xs,h0,h1,h2,h3,h4,k1,v,ys,k2,k3,k4,_⟩:=h
 have hsz:=hb.size
 have cE:Blk.Chg (fun k=>wE.heap.size ≤ k) wE w:=Blk.Chg.ofBelow hb fun k _ hk=>hk
 have h3w:w.ownsRow B 40 2 sv (done.length + 1) xs:=Own.owns_below h3 hb
 have k3w:w.ownsRow (max B M) 43 2 v fs.length ys:=by
  have:=Own.owns_below k3 hb
  simpa [cnt] using this
 have h4w:SzCells w B M N done xs:=h4.chg cE (fun u m zs hu k hk _ hk'=>by have:=own_lt hu hk; omega) (fun u m zs hu k hk _ hk'=>by have:=own_lt hu hk; omega)
 have k4w:FldCells w B N fs ys:=k4.chg cE (fun u m zs hu k hk _ hk'=>by have:=own_lt hu hk; omega)
 obtain ⟨g,cap,rfl,hcap⟩:=own_slice h3w (by omega)
 have hxl:xs.length = 2 * (done.length + 1):=by have:=h3w.1; omega
 have hg:=own_lt h3 (k:=g) rfl
 have hyl:ys.length = 2 * fs.length:=by have:=k3w.1; omega
 refine ⟨g,cap,v,max B M,ys,rfl,hg.2,own_cell (h3:wE.ownsRow B 40 2 (.slice (some ⟨g,0,none⟩) (done.length + 1) cap) (done.length + 1) xs) k2,Nat.le_max_left _ _,by omega,k3w,fun w' hgr=>?_⟩
 have hc:Blk.Chg (fun k=>v.ownBlock = some k) w w':=Blk.Chg.grown (Blk.Chg.refl _ w) hgr fun k hk _=>hk
 have h3':w'.ownsRow B 40 2 (.slice (some ⟨g,0,none⟩) (done.length + 1) cap) (done.length + 1) xs:=hc.owns h3w fun k hk hk'=>own_ne k3w h3w fields_ne_stanzas k hk' hk
 refine ⟨⟨own_cell h3' k2,own_free h3' _⟩,fun nm x lv v' hlv hv'=>?_⟩
 have hc2:=chg_cell hc g (2 * done.length + 1) v'
 have hs2:=hc2.size
 have hgf:∀ k,v.ownBlock = some k → k ≠ g:=fun k hk e=>own_ne k3w h3w fields_ne_stanzas k hk (by rw [e]; rfl)
 have hst:=own_set h3' (i:=2 * done.length + 1) (by omega) v'
 have hcg:Blk.Chg (fun k=>k = g) w' (w'.setCell ⟨g,2 * done.length + 1,none⟩ v'):=Blk.Chg.setAt (S:=fun k=>k = g) (b:=g) (Blk.Chg.refl _ w') rfl
 have hv2:(w'.setCell ⟨g,2 * done.length + 1,none⟩ v').ownsRow (max B M) 43 2 v' (fs.length + 1) (ys ++ [.string (S nm),lv]):=hcg.owns hv' fun k hk hk'=>own_ne hv' h3' fields_ne_stanzas k hk (by rw [hk']; rfl)
 have hlv2:(w'.setCell ⟨g,2 * done.length + 1,none⟩ v').ownsRow wE.heap.size 9 1 lv 1 [.string (S x)]:=hc2.owns hlv fun k hk hk'=>by
  rcases hk' with hk' | hk'
  ·exact own_ne hlv k3w texts_ne_fields k hk hk'
  ·exact own_ne hlv h3w texts_ne_stanzas k hk (by rw [hk']; rfl)
 have ht:∀ (u:Value) (m:Nat) (zs:List Value),w.ownsRow B 9 1 u m zs → ∀ k,u.ownBlock = some k → k < N → ¬ (v.ownBlock = some k ∨ k = g):=fun u m zs hu k hk _ hk'=>by
  rcases hk' with hk' | hk'
  ·exact own_ne hu k3w texts_ne_fields k hk hk'
  ·exact own_ne hu h3w texts_ne_stanzas k hk (by rw [hk']; rfl)
 refine ⟨⟨M,N,xs.set (2 * done.length + 1) v',by omega,by omega,by omega,by simpa [cnt] using hst,?_,?_⟩,?_⟩
 ·have h5:=h4w.chg hc2 ht (fun u m zs hu k hk hkM hk'=>by
   rcases hk' with hk' | hk'
   ·have:=own_lt k3w hk'; omega
   ·exact own_ne hu h3w fields_ne_stanzas k hk (by rw [hk']; rfl))
  intro i hi
  obtain ⟨j1,u,j2,j3⟩:=h5 i hi
  exact ⟨by rw [set_get_ne (by omega)]; exact j1,u,by rw [set_get_ne (by omega)]; exact j2,j3⟩
 ·refine ⟨by rw [set_get_ne (by omega)]; exact k1,v',ys ++ [.string (S nm),lv],set_get_eq (by omega),hv2,?_,?_⟩
  ·have h5:=k4w.chg hc2 ht
   intro i hi
   obtain ⟨j1,u,j2,j3⟩:=h5 i hi
   exact ⟨by rw [List.getElem?_append_left (by omega)]; exact j1,u,by rw [List.getElem?_append_left (by omega)]; exact j2,j3⟩
  ·refine ⟨by rw [← hyl]; simp,lv,by rw [← hyl]; simp,own_mono hlv2 (by omega)⟩
 ·refine Left.of_chg hc2 (by omega) fun k hk=>?_
  rcases hk with hk | hk
  ·obtain ⟨cs,hcs⟩:=own_is k3w hk
   exact ⟨by have:=own_lt k3w hk; omega,_,cs,.inr (.inl rfl),hcs⟩
  ·obtain ⟨cs,hcs⟩:=own_is h3w (k:=k) (by rw [hk]; rfl)
   exact ⟨by omega,_,cs,.inr (.inr rfl),hcs⟩
theorem Mem.goOn {wE:World} {B:Nat} {sv:Value} {done:List Sz} {n:Int} {fs:List Fld} {nm:Bs} {ls:List Bs} (h:Mem wE B sv done (some (n,fs,some (nm,ls)))) :
  ∃ g cap gf capf C u,sv = .slice (some ⟨g,0,none⟩) (done.length + 1) cap ∧ wE.cell? ⟨g,2 * done.length + 1,none⟩ = some (.slice (some ⟨gf,0,none⟩) (fs.length + 1) capf) ∧ wE.cell? ⟨gf,2 * fs.length + 1,none⟩ = some u ∧
   B ≤ C ∧ C ≤ wE.heap.size ∧ wE.ownsRow C 9 1 u ls.length ((ls.map S).map Value.string) ∧
   ∀ w:World,Below wE.heap.size wE w → ∀ w':World,w.grownBy w' u.ownBlock → (w'.cell? ⟨gf,2 * fs.length + 1,none⟩ = some u ∧ w'.frozen? ⟨gf,2 * fs.length + 1,none⟩ = false) ∧
    ∀ (x:Bs) (u':Value),w'.ownsRow C 9 1 u' (ls.length + 1) ((ls.map S).map Value.string ++ [.string (S x)]) →
     Mem (w'.setCell ⟨gf,2 * fs.length + 1,none⟩ u') B sv done (some (n,fs,some (nm,ls ++ [x]))) ∧ Left B w (w'.setCell ⟨gf,2 * fs.length + 1,none⟩ u'):=by
 obtain ⟨M,N,xs,h0,h1,h2,h3,h4,k1,v,ys,k2,k3,k4,j1,u,j2,j3⟩:=h
 have h3E:wE.ownsRow B 40 2 sv (done.length + 1) xs:=h3
 have k3E:wE.ownsRow (max B M) 43 2 v (fs.length + 1) ys:=k3
 have hxl:xs.length = 2 * (done.length + 1):=by have:=h3E.1; omega
 have hyl:ys.length = 2 * (fs.length + 1):=by have:=k3E.1; omega
 obtain ⟨g,cap,rfl,hcap⟩:=own_slice h3E (by omega)
 obtain ⟨gf,capf,rfl,hcapf⟩:=own_slice k3E (by omega)
 have j3E:wE.ownsRow (max B N) 9 1 u ls.length ((ls.map S).map Value.string):=j3
 refine ⟨g,cap,gf,capf,max B N,u,rfl,own_cell h3E k2,own_cell k3E j2,Nat.le_max_left _ _,by omega,j3E,fun w hb w' hgr=>?_⟩
 have hsz:=hb.size
 have cE:Blk.Chg (fun k=>wE.heap.size ≤ k) wE w:=Blk.Chg.ofBelow hb fun k _ hk=>hk
 have h3w:w.ownsRow B 40 2 (.slice (some ⟨g,0,none⟩) (done.length + 1) cap) (done.length + 1) xs:=Own.owns_below h3E hb
 have k3w:w.ownsRow (max B M) 43 2 (.slice (some ⟨gf,0,none⟩) (fs.length + 1) capf) (fs.length + 1) ys:=Own.owns_below k3E hb
 have j3w:w.ownsRow (max B N) 9 1 u ls.length ((ls.map S).map Value.string):=Own.owns_below j3E hb
 have h4w:SzCells w B M N done xs:=h4.chg cE (fun u m zs hu k hk _ hk'=>by have:=own_lt hu hk; omega) (fun u m zs hu k hk _ hk'=>by have:=own_lt hu hk; omega)
 have k4w:FldCells w B N fs ys:=k4.chg cE (fun u m zs hu k hk _ hk'=>by have:=own_lt hu hk; omega)
 have hc:Blk.Chg (fun k=>u.ownBlock = some k) w w':=Blk.Chg.grown (Blk.Chg.refl _ w) hgr fun k hk _=>hk
 have k3':w'.ownsRow (max B M) 43 2 (.slice (some ⟨gf,0,none⟩) (fs.length + 1) capf) (fs.length + 1) ys:=hc.owns k3w fun k hk hk'=>own_ne j3w k3w texts_ne_fields k hk' hk
 refine ⟨⟨own_cell k3' j2,own_free k3' _⟩,fun x u' hu'=>?_⟩
 have hc2:=chg_cell hc gf (2 * fs.length + 1) u'
 have hs2:=hc2.size
 have hst:=own_set k3' (i:=2 * fs.length + 1) (by omega) u'
 have hcg:Blk.Chg (fun k=>k = gf) w' (w'.setCell ⟨gf,2 * fs.length + 1,none⟩ u'):=Blk.Chg.setAt (S:=fun k=>k = gf) (b:=gf) (Blk.Chg.refl _ w') rfl
 have hu2:(w'.setCell ⟨gf,2 * fs.length + 1,none⟩ u').ownsRow (max B N) 9 1 u' (ls.length + 1) ((ls.map S).map Value.string ++ [.string (S x)]):=hcg.owns hu' fun k hk hk'=>own_ne hu' k3' texts_ne_fields k hk (by rw [hk']; rfl)
 have h3':(w'.setCell ⟨gf,2 * fs.length + 1,none⟩ u').ownsRow B 40 2 (.slice (some ⟨g,0,none⟩) (done.length + 1) cap) (done.length + 1) xs:=hc2.owns h3w fun k hk hk'=>by
  rcases hk' with hk' | hk'
  ·exact own_ne j3w h3w texts_ne_stanzas k hk' hk
  ·exact own_ne k3w h3w fields_ne_stanzas k (by rw [hk']; rfl) hk
 have ht:∀ (y:Value) (m:Nat) (zs:List Value),w.ownsRow B 9 1 y m zs → ∀ k,y.ownBlock = some k → k < N → ¬ (u.ownBlock = some k ∨ k = gf):=fun y m zs hu k hk hkN hk'=>by
  rcases hk' with hk' | hk'
  ·have:=own_lt j3w hk'; omega
  ·exact own_ne hu k3w texts_ne_fields k hk (by rw [hk']; rfl)
 refine ⟨⟨M,N,xs,by omega,by omega,by omega,h3',h4w.chg hc2 ht (fun y m zs hu k hk hkM hk'=>?_),?_⟩,?_⟩
 ·rcases hk' with hk' | hk'
  ·exact own_ne j3w hu texts_ne_fields k hk' hk
  ·have:=own_lt k3w (k:=k) (by rw [hk']; rfl); omega
 ·refine ⟨k1,_,ys.set (2 * fs.length + 1) u',k2,hst,?_,?_⟩
  ·have h5:=k4w.chg hc2 ht
   intro i hi
   obtain ⟨l1,y,l2,l3⟩:=h5 i hi
   exact ⟨by rw [set_get_ne (by omega)]; exact l1,y,by rw [set_get_ne (by omega)]; exact l2,l3⟩
  ·refine ⟨by rw [set_get_ne (by omega)]; exact j1,u',set_get_eq (by omega),?_⟩
   have e:((ls ++ [x]).map S).map Value.string = (ls.map S).map Value.string ++ [.string (S x)]:=by simp
   show World.ownsRow _ _ _ _ _ (ls ++ [x]).length (((ls ++ [x]).map S).map Value.string)
   rw [e,List.length_append]
   exact hu2
 ·refine Left.of_chg hc2 (by omega) fun k hk=>?_
  rcases hk with hk | hk
  ·obtain ⟨cs,hcs⟩:=own_is j3w hk
   exact ⟨by have:=own_lt j3w hk; omega,_,cs,.inl rfl,hcs⟩
  ·obtain ⟨cs,hcs⟩:=own_is k3w (k:=k) (by rw [hk]; rfl)
   have:=own_lt k3w (k:=k) (by rw [hk]; rfl)
   exact ⟨by omega,_,cs,.inr (.inl rfl),hcs⟩
end Stz
end Go.Proofs.YthmpepnikmdjpaaGreatDoor

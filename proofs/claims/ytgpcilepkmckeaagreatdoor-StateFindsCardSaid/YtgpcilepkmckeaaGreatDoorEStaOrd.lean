/-
slices.SortStableFunc of no entries. state.Sorted: entries in order, of one name as they stood. Entries in order: inserting one after the other, by name, each behind those of its name, gives what the stable sort gives.
-/
import Derived.Test.YtgpcilepkmckeaaGreatDoorEValBase
import Derived.Test.YtgpcilepkmckeaaGreatDoorEStaOwn2
namespace Go.Proofs.YtgpcilepkmckeaaGreatDoor
open Go.RowKit
set_option linter.unusedSimpArgs false
set_option linter.unusedVariables false
namespace Sa
set_option maxRecDepth 100000 in
set_option maxHeartbeats 4000000 in
theorem ins_none (a:Option Addr) (cap:Nat) (fv:Value) (w:World) :
  Calls Tryz.prog 74 #[.slice a 0 cap,.int .i64 0,.int .i64 0,fv] w fun e w'=>e = .returned (.tuple #[]) ∧ w' = w:=by
 go_enter Tryz.func74,Tryz.ntmps74
 go_wp2_with fail
 go_loopg [8] 1 (fun g vi wr=>vi = .int .i64 1 ∧ wr = w)
 case atStart=>exact ⟨rfl,rfl⟩
 case round =>
  obtain ⟨rfl,rfl⟩:=hrel
  go_wp2_with fail
  go_end0
  exact ⟨rfl,rfl⟩
set_option maxRecDepth 100000 in
set_option maxHeartbeats 4000000 in
theorem stable_none (a:Option Addr) (cap:Nat) (fv:Value) (w:World) :
  Calls Tryz.prog 51 #[.slice a 0 cap,.int .i64 0,fv] w fun e w'=>e = .returned (.tuple #[]) ∧ w' = w:=by
 have hc:=ins_none a cap fv w
 go_enter Tryz.func51,Tryz.ntmps51
 go_wp2_with fail
 go_loopg [7,8] 1 (fun g va vb wr=>va = .int .i64 0 ∧ vb = .int .i64 20 ∧ wr = w)
 case atStart=>exact ⟨rfl,rfl,rfl⟩
 case round =>
  obtain ⟨rfl,rfl,rfl⟩:=hrel
  go_wp2_with fail
  refine hc.mono ?_
  rintro e w1 ⟨rfl,rfl⟩
  clear hc
  go_wp2_with fail
  go_loopg [6] 1 (fun g vs wx=>vs = .int .i64 20 ∧ wx = w1)
  case atStart=>exact ⟨rfl,rfl⟩
  case round =>
   obtain ⟨rfl,rfl⟩:=hrel
   go_wp2_with fail
   go_end0
   exact ⟨rfl,rfl⟩
set_option maxRecDepth 100000 in
set_option maxHeartbeats 4000000 in
theorem sortStable_none (a:Option Addr) (cap:Nat) (fv:Value) (w:World) :
  Calls Tryz.prog 28 #[.slice a 0 cap,fv] w fun e w'=>e = .returned (.tuple #[]) ∧ w' = w:=by
 have hc:=stable_none a cap fv w
 go_enter Tryz.func28,Tryz.ntmps28
 go_wp2_with fail
 refine hc.mono ?_
 rintro e w1 ⟨rfl,rfl⟩
 go_wp2_with fail
 go_end0
 exact ⟨rfl,rfl⟩
end Sa
end Go.Proofs.YtgpcilepkmckeaaGreatDoor
namespace Go.Proofs.YtgpcilepkmckeaaGreatDoor
open Go.RowKit
set_option linter.unusedSimpArgs false
set_option linter.unusedVariables false
namespace Sa
open Ver (Bs S)
open Rc (Pk En nEn Ens)
open Go.Sort (HoldsK flatK putRowK)
theorem holds_rowE {w:World} {R:Nat} {d:List Et} (h:RowE w R d):HoldsK Et.enc 11 w R 0 d.toArray:=by
 intro t ht
 rw [Sort.size_flatK] at ht
 rw [Sort.get_flatK _ _ _ _ ht,Nat.zero_add]
 have hsz:d.toArray.size = d.length:=by simp
 rw [hsz] at ht
 have hi:t / 11 < d.length:=Nat.div_lt_of_lt_mul (by omega)
 have hj:t % 11 < 11:=Nat.mod_lt _ (by omega)
 have hx:d[t / 11]? = some d[t / 11]:=List.getElem?_eq_getElem hi
 obtain ⟨x,ex⟩:∃ x,d[t / 11] = x:=⟨_,rfl⟩
 have e1:d.toArray[t / 11]! = x:=by rw [← ex]; simp [hi]
 rw [ex] at hx
 rw [e1]
 obtain ⟨v,hv⟩:∃ v,x.enc[t % 11]? = some v:=⟨_,List.getElem?_eq_getElem (l:=x.enc) hj⟩
 have e2:x.enc[t % 11]! = v:=by
  rw [getElem!_pos x.enc (t % 11) hj]
  exact (List.getElem?_eq_some_iff.1 hv).2
 show w.cell? _ = some (x.enc[t % 11]!) ∧ _
 rw [e2]
 have:=h (t / 11) x hx (t % 11) v hv
 rwa [Nat.div_add_mod] at this
theorem row_holdsE {w:World} {R:Nat} {a:Array Et} (h:HoldsK Et.enc 11 w R 0 a):RowE w R a.toList:=by
 intro i x hx j v hv
 have hi:i < a.size:=by have:=(List.getElem?_eq_some_iff.1 hx).1; simpa using this
 have hj:j < 11:=(List.getElem?_eq_some_iff.1 hv).1
 have e1:a[i]! = x:=by
  rw [getElem!_pos a i hi]
  have:=(List.getElem?_eq_some_iff.1 hx).2
  simpa using this
 have:=h.cell hi hj
 rw [e1,Nat.zero_add] at this
 have e2:x.enc[j]! = v:=by
  rw [getElem!_pos x.enc j hj]
  exact (List.getElem?_eq_some_iff.1 hv).2
 rw [e2,Nat.mul_comm i 11] at this
 exact this
theorem sort_chgE (w:World) (R n:Nat) (a:Array Et) (os:Array Obj):Blk.Chg (fun k=>k = R) w (sortWorldK Et.enc 11 w R 0 n a os):=by
 unfold sortWorldK putRowK Sort.putRow
 refine ⟨rfl,rfl,rfl,?_,fun k hk hn=>?_⟩
 ·rw [Sort.size_grow]
  simp [Sort.mapBlock,Sort.ahead]
 ·rw [Sort.heap_grow_old _ _ (by simpa [Sort.mapBlock,Sort.ahead] using hk)]
  simp only [Sort.mapBlock,Sort.ahead,Array.getElem?_modify]
  rw [if_neg (fun e=>hn e.symm)]

def InOrd (l:List En) (d:List Et):Prop:=d.Pairwise (Bef (ltOf cfE) Et.tg) ∧ ∃ d0:List Et,d0.map Et.en = l ∧ (∀ (i:Nat) (x:Et),d0[i]? = some x → x.tg = i) ∧ d.Perm d0
set_option maxHeartbeats 2000000 in
theorem sortRow_any (v:Value) (l:List En) (d:List Et) (w:World) {B:Nat} (h:PRowE w B v d) (hd:d.map Et.en = l) (ht:∀ (i:Nat) (x:Et),d[i]? = some x → x.tg = i) (hl:d.length < 40) :
  Calls Tryz.prog 28 #[v,.func (.func 29) #[] #[]] w fun e w'=>e = .returned (.tuple #[]) ∧ ∃ d':List Et,InOrd l d' ∧ PRowE w' B v d' ∧ Blk.Chg (fun k=>0 < d.length ∧ v.ownBlock = some k) w w':=by
 obtain ⟨a,cap,rfl,hc,hr⟩:=h
 rcases Nat.eq_zero_or_pos d.length with h0 | h0
 ·have hdn:d = []:=List.eq_nil_of_length_eq_zero h0
  subst hdn
  refine (sortStable_none a cap (.func (.func 29) #[] #[]) w).mono ?_
  rintro e w' ⟨rfl,rfl⟩
  exact ⟨rfl,[],⟨List.Pairwise.nil,[],hd,ht,List.Perm.refl _⟩,⟨a,cap,rfl,hc,fun h=>absurd h (by simp)⟩,Blk.Chg.refl _ _⟩
 ·obtain ⟨R,rfl,hB,hR,hrow,hok⟩:=hr h0
  have hH:=holds_rowE hrow
  have hsz:d.toArray.size = d.length:=by simp
  have hg:∀ k,k < d.length → d[k]? = some (d.toArray[k]!):=fun k hk=>by
   rw [getElem!_pos d.toArray k (by simpa using hk),List.getElem?_eq_getElem hk]; simp
  refine (sortStable_any R 0 cap d.length d.toArray w hH hR hsz hl (fun k m hkm hm=>by rw [ht k _ (hg k (by omega)),ht m _ (hg m hm)]; exact hkm)).mono ?_
  rintro e w' ⟨rfl,a',⟨n,os,rfl⟩,hp,hs⟩
  obtain ⟨p1,_,p2⟩:=hp
  rw [hsz] at p1
  have hperm:a'.toList.Perm d:=by
   have e1:(a'.extract 0 d.length).toList = a'.toList:=by rw [← p1]; simp
   have e2:(d.toArray.extract 0 d.length).toList = d:=by simp
   rw [e1,e2] at p2
   exact p2
  have hlen:a'.toList.length = d.length:=by simpa using p1
  have hch:=sort_chgE w R n a' os
  have hpw:a'.toList.Pairwise (Bef (ltOf cfE) Et.tg):=by
   rw [List.pairwise_iff_getElem]
   intro i j hi hj hij
   have hi':i < a'.size:=by simpa using hi
   have hj':j < a'.size:=by simpa using hj
   have:=hs i j (Nat.zero_le _) hij (by omega)
   rw [getElem!_pos a' i hi',getElem!_pos a' j hj'] at this
   simpa using this
  refine ⟨rfl,a'.toList,⟨hpw,d,hd,ht,hperm⟩,⟨_,_,by rw [hlen],by rw [hlen]; exact hc,fun _=>⟨R,rfl,hB,Nat.lt_of_lt_of_le hR hch.size,?_,fun x hx=>(hok x (hperm.mem_iff.1 hx)).on hch⟩⟩,hch.mono fun k _ hk=>⟨h0,by rw [hk]; rfl⟩⟩
  exact row_holdsE (holdsK_sortWorldK_c Et.enc 11 w R 0 d.toArray a' n os hH hR (by rw [p1]; simp))
set_option maxRecDepth 100000 in
set_option maxHeartbeats 4000000 in
theorem sorted_any (v:Value) (l:List En) (w:World) (h:Ens w v l) (hF:∀ x ∈ l,Ix.Few x.pk) (hl:l.length < 40) :
  Calls Tryz.prog 14 #[v] w fun e w'=>∃ v' d,e = .returned v' ∧ InOrd l d ∧ PRowE w' w.heap.size v' d ∧ Below w.heap.size w w':=by
 have c0:=ownEntries_any v l w h hF (by omega)
 obtain ⟨sa,scap,rfl⟩:=h.shape
 have HL:=Lib.hid hl
 clear h hF hl
 go_enter Tryz.func14,Tryz.ntmps14
 go_wp2_with fail
 refine c0.mono ?_
 rintro e w0 ⟨v0,d,rfl,hd,ht,hp,k0⟩
 clear c0
 have hdl:d.length = l.length:=by rw [← hd,List.length_map]
 have c1:=sortRow_any v0 l d w0 hp hd ht (by have:=HL.out; omega)
 have K0:=Lib.hid k0
 have HP:=Lib.hid hp
 obtain ⟨a,cap,rfl,hc,hr⟩:=hp
 have HR:=Lib.hid hr
 have HDL:=Lib.hid hdl
 clear k0 hd ht hr hdl hc
 go_wp2_with fail
 refine c1.mono ?_
 rintro e w1 ⟨rfl,d1,h1,h2,h3⟩
 clear c1
 have hb:Below w.heap.size w w1:=K0.out.trans (h3.below (B:=w.heap.size) (fun k hk=>by
  obtain ⟨q1,q2⟩:=hk
  obtain ⟨R,rfl,r1,r2,_⟩:=HR.out q1
  have:R = k:=by simpa [Value.ownBlock] using q2
  omega) (by have:=K0.out.size; omega))
 have H1:=Lib.hid h1
 have H2:=Lib.hid h2
 have HB:=Lib.hid hb
 clear h1 h2 h3 hb
 go_wp2_with fail
 go_ret
 exact ⟨_,d1,rfl,H1.out,H2.out,HB.out⟩
end Sa
end Go.Proofs.YtgpcilepkmckeaaGreatDoor
namespace Go.Proofs.YtgpcilepkmckeaaGreatDoor
open Go.RowKit
set_option linter.unusedSimpArgs false
set_option linter.unusedVariables false
namespace Sa
open Ver (Bs S orr sgn)
open Rc (Pk En nEn)
def aheadE (p x:En):Bool:=decide (Lib.compareBytes x.pk.nm p.pk.nm ≤ 0)
def slotE (p:En) (l:List En):Nat:=(l.takeWhile (aheadE p)).length
def insE (p:En) (l:List En):List En:=l.take (slotE p l) ++ [p] ++ l.drop (slotE p l)
def insAllE:List En → List En → List En
 | [],out=>out
 | p :: r,out=>insAllE r (insE p out)
theorem insAllE_snoc:∀ (l:List En) (p:En) (out:List En),insAllE (l ++ [p]) out = insE p (insAllE l out)
 | [],p,out=>rfl
 | q :: r,p,out=>insAllE_snoc r p (insE q out)
theorem take_twE {p:En} (l:List En):l.take (slotE p l) = l.takeWhile (aheadE p):=(List.prefix_iff_eq_take.1 (List.takeWhile_prefix _)).symm
theorem drop_twE {p:En} (l:List En):l.drop (slotE p l) = l.dropWhile (aheadE p):=by
 have h:=List.takeWhile_append_dropWhile (p:=aheadE p) (l:=l)
 have e:(l.takeWhile (aheadE p) ++ l.dropWhile (aheadE p)).drop (slotE p l) = l.dropWhile (aheadE p):=by
  unfold slotE
  exact List.drop_left
 rw [h] at e
 exact e
theorem insE_tw (p:En) (l:List En):insE p l = l.takeWhile (aheadE p) ++ [p] ++ l.dropWhile (aheadE p):=by unfold insE; rw [take_twE,drop_twE]
def insT (x:Et) (l:List Et):List Et:=l.takeWhile (fun y=>aheadE x.en y.en) ++ [x] ++ l.dropWhile (fun y=>aheadE x.en y.en)
def insAllT:List Et → List Et → List Et
 | [],out=>out
 | p :: r,out=>insAllT r (insT p out)
theorem insT_map (x:Et) (l:List Et):(insT x l).map Et.en = insE x.en (l.map Et.en):=by
 rw [insE_tw]
 unfold insT
 rw [List.map_append,List.map_append,List.takeWhile_map,List.dropWhile_map]
 rfl
theorem insAllT_map:∀ (r out:List Et),(insAllT r out).map Et.en = insAllE (r.map Et.en) (out.map Et.en)
 | [],out=>rfl
 | x :: r,out=>by
  show (insAllT r (insT x out)).map Et.en = insAllE (r.map Et.en) (insE x.en (out.map Et.en))
  rw [insAllT_map r,insT_map]
theorem insT_perm (x:Et) (l:List Et):(insT x l).Perm (x :: l):=by
 unfold insT
 have h:=List.takeWhile_append_dropWhile (p:=fun y:Et=>aheadE x.en y.en) (l:=l)
 rw [List.append_assoc,List.singleton_append]
 refine List.perm_middle.trans ?_
 rw [h]
theorem insAllT_perm:∀ (r out:List Et),(insAllT r out).Perm (r ++ out)
 | [],out=>List.Perm.refl _
 | x :: r,out=>by
  show (insAllT r (insT x out)).Perm _
  refine (insAllT_perm r _).trans ?_
  refine ((insT_perm x out).append_left r).trans ?_
  exact List.perm_middle
theorem dw_head {α:Type} {p:α → Bool}:∀ {l:List α} {y:α} {r:List α},l.dropWhile p = y :: r → p y = false
 | [],y,r,h=>by simp at h
 | x :: l,y,r,h=>by
  rw [List.dropWhile_cons] at h
  split at h
  ·exact dw_head h
  ·rename_i hx
   cases h
   simpa using hx
theorem insT_ord (x:Et) {l:List Et} (h:l.Pairwise (Bef (ltOf cfE) Et.tg)) (ht:∀ y ∈ l,y.tg < x.tg):(insT x l).Pairwise (Bef (ltOf cfE) Et.tg):=by
 have hs:=List.takeWhile_append_dropWhile (p:=fun y:Et=>aheadE x.en y.en) (l:=l)
 have hlow:∀ y ∈ l.takeWhile (fun y:Et=>aheadE x.en y.en),Bef (ltOf cfE) Et.tg y x:=fun y hy=>by
  have h1:=List.all_eq_true.1 (List.all_takeWhile (p:=fun y:Et=>aheadE x.en y.en) (l:=l)) y hy
  have hm:y ∈ l:=by rw [← hs]; exact List.mem_append_left _ hy
  refine bef_low (ltOf cfE) Et.tg swoE (ht y hm) ?_
  unfold aheadE at h1
  rw [decide_eq_true_eq] at h1
  have h1':Lib.compareBytes y.pk.nm x.pk.nm ≤ 0:=h1
  unfold ltOf cfE
  rw [decide_eq_false_iff_not,cb_turn y.pk.nm x.pk.nm]
  omega
 have hhigh:∀ y ∈ l.dropWhile (fun y:Et=>aheadE x.en y.en),Bef (ltOf cfE) Et.tg x y:=by
  cases hd:l.dropWhile (fun y:Et=>aheadE x.en y.en) with
  | nil=>intro y hy; cases hy
  | cons z r =>
   have hz:=dw_head hd
   have b0:Bef (ltOf cfE) Et.tg x z:=by
    refine Or.inl ?_
    unfold aheadE at hz
    rw [decide_eq_false_iff_not] at hz
    have hz':¬ Lib.compareBytes z.pk.nm x.pk.nm ≤ 0:=hz
    unfold ltOf cfE
    rw [decide_eq_true_eq,cb_turn z.pk.nm x.pk.nm]
    omega
   intro y hy
   rcases List.mem_cons.1 hy with rfl | hy
   ·exact b0
   ·have hp:(z :: r).Pairwise (Bef (ltOf cfE) Et.tg):=by
     rw [← hd]
     exact h.sublist (List.dropWhile_sublist _)
    exact bef_trans (ltOf cfE) Et.tg swoE _ _ _ b0 ((List.pairwise_cons.1 hp).1 y hy)
 rw [← hs] at h
 obtain ⟨p1,p2,p3⟩:=List.pairwise_append.1 h
 unfold insT
 refine List.pairwise_append.2 ⟨List.pairwise_append.2 ⟨p1,List.pairwise_singleton _ _,fun a ha b hb=>?_⟩,p2,fun a ha b hb=>?_⟩
 ·rw [List.mem_singleton.1 hb]; exact hlow a ha
 ·rcases List.mem_append.1 ha with ha | ha
  ·exact p3 a ha b hb
  ·rw [List.mem_singleton.1 ha]; exact hhigh b hb
theorem insAllT_ord:∀ (r out:List Et),out.Pairwise (Bef (ltOf cfE) Et.tg) → (∀ y ∈ out,∀ x ∈ r,y.tg < x.tg) → r.Pairwise (fun a b=>a.tg < b.tg) → (insAllT r out).Pairwise (Bef (ltOf cfE) Et.tg)
 | [],out,h,_,_=>h
 | x :: r,out,h,ht,hr=>by
  obtain ⟨r1,r2⟩:=List.pairwise_cons.1 hr
  refine insAllT_ord r (insT x out) (insT_ord x h fun y hy=>ht y hy x (by simp)) (fun y hy z hz=>?_) r2
  rcases List.mem_cons.1 ((insT_perm x out).mem_iff.1 hy) with rfl | hy
  ·exact r1 z hz
  ·exact ht y hy z (by simp [hz])
theorem InOrd.map {l:List En} {d:List Et} (h:InOrd l d):d.map Et.en = insAllE l []:=by
 obtain ⟨h1,d0,h2,h3,h4⟩:=h
 have ht:d0.Pairwise (fun a b=>a.tg < b.tg):=by
  rw [List.pairwise_iff_getElem]
  intro i j hi hj hij
  rw [h3 i _ (List.getElem?_eq_getElem hi),h3 j _ (List.getElem?_eq_getElem hj)]
  exact hij
 have ho:=insAllT_ord d0 [] List.Pairwise.nil (fun y hy=>by cases hy) ht
 have hp:(insAllT d0 []).Perm d0:=by simpa using insAllT_perm d0 []
 have e:d = insAllT d0 []:=List.Perm.eq_of_pairwise (fun x y _ _ a b=>(bef_not (ltOf cfE) Et.tg swoE x y a b).elim) h1 ho (h4.trans hp.symm)
 rw [e,insAllT_map,h2]
 rfl
end Sa
end Go.Proofs.YtgpcilepkmckeaaGreatDoor

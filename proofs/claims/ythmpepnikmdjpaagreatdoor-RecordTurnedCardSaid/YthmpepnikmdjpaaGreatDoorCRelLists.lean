/-
readList of atoms. The reader of package relation: a clause, what is provided. readList of what is provided. readList of clauses. Atoms, clauses, provides in memory, read alone.
-/
import Derived.Test.YthmpepnikmdjpaaGreatDoorCRelOwn
import Derived.Test.YthmpepnikmdjpaaGreatDoorCRelDef
namespace Go.Proofs.YthmpepnikmdjpaaGreatDoor
open Go.RowKit
set_option linter.unusedSimpArgs false
set_option linter.unusedVariables false
namespace Rl
open Ver (Bs li li_len li_drop S S_self S_of S_size S_li below_drewN empty_is empty_no MaxLen Signs)
def acell (a:At):List Value:=[.string (S a.1),.int .i64 a.2.1,.string (S a.2.2)]
def acells (l:List At):List Value:=l.flatMap acell
theorem acells_app (l:List At) (a:At):acells (l ++ [a]) = acells l ++ acell a:=by unfold acells; simp
def pre {α:Type} (ds:List α):Except Int (List α × Bs) → Except Int (List α × Bs)
 | .error e=>.error e
 | .ok (xs,r)=>.ok (ds ++ xs,r)
theorem pre_nil {α:Type} (o:Except Int (List α × Bs)):pre [] o = o:=by cases o with
 | error e=>rfl
 | ok q=>rfl
theorem items_full {α:Type} {rd:Bs → Except Int (α × Bs)} {c:UInt8} {most:Nat} {l l':Bs} {ds:List α} (h:items rd c most l = pre ds (items rd c (most - ds.length) l')) (hd:ds.length = most):items rd c most l = .error 12:=by
 rw [h,hd,Nat.sub_self]; rfl
theorem items_err {α:Type} {rd:Bs → Except Int (α × Bs)} {c:UInt8} {most:Nat} {l l':Bs} {ds:List α} {e:Int} (h:items rd c most l = pre ds (items rd c (most - ds.length) l')) (hd:ds.length < most) (he:rd l' = .error e):items rd c most l = .error e:=by
 obtain ⟨k,hk⟩:∃ k,most - ds.length = k + 1:=⟨most - ds.length - 1,by omega⟩
 rw [h,hk]
 unfold items
 rw [he]; rfl
theorem items_last {α:Type} {rd:Bs → Except Int (α × Bs)} {c:UInt8} {most:Nat} {l l' r:Bs} {ds:List α} {x:α} (h:items rd c most l = pre ds (items rd c (most - ds.length) l')) (hd:ds.length < most) (he:rd l' = .ok (x,r)) (ht:tk c r = none):items rd c most l = .ok (ds ++ [x],r):=by
 obtain ⟨k,hk⟩:∃ k,most - ds.length = k + 1:=⟨most - ds.length - 1,by omega⟩
 rw [h,hk]
 unfold items
 rw [he]
 simp only
 rw [ht]; rfl
theorem items_next {α:Type} {rd:Bs → Except Int (α × Bs)} {c:UInt8} {most:Nat} {l l' r r2:Bs} {ds:List α} {x:α} (h:items rd c most l = pre ds (items rd c (most - ds.length) l')) (hd:ds.length < most) (he:rd l' = .ok (x,r)) (ht:tk c r = some r2) :
  items rd c most l = pre (ds ++ [x]) (items rd c (most - (ds ++ [x]).length) r2):=by
 obtain ⟨k,hk⟩:∃ k,most - ds.length = k + 1:=⟨most - ds.length - 1,by omega⟩
 have hk2:most - (ds ++ [x]).length = k:=by rw [List.length_append]; simp; omega
 rw [h,hk,hk2]
 conv=>lhs; unfold items
 rw [he]
 simp only
 rw [ht]
 simp only
 cases items rd c k r2 with
 | error e=>rfl
 | ok q =>
  obtain ⟨xs,r3⟩:=q
  show Except.ok (ds ++ x :: xs,r3) = Except.ok ((ds ++ [x]) ++ xs,r3)
  simp
def PostA (w:World) (p:Nat) (o:Except Int (List At × Bs)) (e:Ending) (w':World):Prop :=
 Blk.Chg (fun k=>k = p) w w' ∧ match o with
  | .error er=>e = .returned (.tuple #[.slice none 0 0,.int .i64 er]) ∧ ∃ l,Rd w' p l
  | .ok (xs,r)=>Rd w' p r ∧ ∃ v,e = .returned (.tuple #[v,.int .i64 0]) ∧ w'.ownsRow w.heap.size 78 3 v xs.length (acells xs)
theorem chg_grown {w u u':World} {p:Nat} {v:Value} {n:Nat} {T:TypeId} {sz:Nat} {xs:List Value} (hc:Blk.Chg (fun k=>k = p) w u) (hown:u.ownsRow w.heap.size T sz v n xs) (hg:u.grownBy u' v.ownBlock):Blk.Chg (fun k=>k = p) w u' :=
 hc.grown hg fun k hk hlt=>by have:=own_lt hown hk; omega
theorem rd_grown {u u':World} {p B:Nat} {l:Bs} {v:Value} {n:Nat} {T:TypeId} {sz:Nat} {xs:List Value} (hr:Rd u p l) (hp:p < B) (hown:u.ownsRow B T sz v n xs) (hg:u.grownBy u' v.ownBlock):Rd u' p l :=
 hr.chg (Q:=fun k=>v.ownBlock = some k) (Blk.Chg.grown (Blk.Chg.refl _ u) hg fun k hk _=>hk) fun h=>by have:=own_lt hown h; omega
theorem vars_grown {u u':World} {B:Nat} {v:Value} {n:Nat} {T:TypeId} {sz:Nat} {xs:List Value} (hv:Vars u) (hB:∀ b,B ≤ b → Off b) (hown:u.ownsRow B T sz v n xs) (hg:u.grownBy u' v.ownBlock):Vars u' :=
 hv.chg (Q:=fun k=>v.ownBlock = some k) (Blk.Chg.grown (Blk.Chg.refl _ u) hg fun k hk _=>hk) (fun h=>(hB _ (own_lt hown h).1).1 rfl) fun h=>(hB _ (own_lt hown h).1).2 rfl
theorem grow_all {w u u':World} {p:Nat} {r:Bs} {v:Value} {n:Nat} {T:TypeId} {sz:Nat} {xs:List Value} (hp:p < w.heap.size) (hob:∀ b,w.heap.size ≤ b → Off b) (hr:Rd u p r) (hv:Vars u) (hc:Blk.Chg (fun k=>k = p) w u)
  (hown:u.ownsRow w.heap.size T sz v n xs) (hg:u.grownBy u' v.ownBlock):Rd u' p r ∧ Vars u' ∧ Blk.Chg (fun k=>k = p) w u' :=
 ⟨rd_grown hr hp hown hg,vars_grown hv hob hown hg,chg_grown hc hown hg⟩
theorem two_new (w:World) (T:TypeId) (C:Array Value):Below w.heap.size w ((w.alloc (.cells C T)).alloc (.cells C T)) ∧ ∀ (j:Nat) u,C[j]? = some u → ((w.alloc (.cells C T)).alloc (.cells C T)).cell? ⟨w.heap.size + 1,j,none⟩ = some u:=by
 have hs:(w.alloc (.cells C T)).heap.size = w.heap.size + 1:=by simp
 refine ⟨((Below.refl _ _).alloc (Nat.le_refl _) _).alloc (by omega) _,fun j u hj=>?_⟩
 have h:=Blk.Is.new (w.alloc (.cells C T)) T C
 rw [hs] at h
 exact h.at hj
set_option maxRecDepth 100000 in
set_option maxHeartbeats 4000000 in
theorem listA_any (p:Nat) (l:Bs) (most:Nat) (c:UInt8) (w:World) (h:Rd w p l) (hv:Vars w) (hp:Off p) (hm:most ≤ 12) :
  Calls Tryz.prog 244 #[.pointer (some ⟨p,0,none⟩),.int .i64 most,.string ⟨#[c]⟩,.func (.func 208) #[] #[]] w fun e w'=>PostA w p (items rdA c most l) e w':=by
 have hpl:=h.sizes.1
 have hob:=fun b=>hv.off (b:=b)
 have HOB:=Lib.hid hob
 have H:=Lib.hid h
 have HV:=Lib.hid hv
 clear h hv hob
 obtain ⟨G,hG⟩:∃ G,items rdA c most l = G:=⟨_,rfl⟩
 have HG:=Lib.hid hG
 rw [hG]
 clear hG
 go_enter Tryz.func244,Tryz.ntmps244
 go_wp2_with fail
 go_loopg [10] most (fun gf s10 wx=>∃ (ds:List At) (l':Bs) (sa:Option Addr) (cap:Nat),s10 = .slice sa ds.length cap ∧ wx.ownsRow w.heap.size 78 3 (.slice sa ds.length cap) ds.length (acells ds) ∧ Rd wx p l' ∧ Vars wx ∧ Blk.Chg (fun k=>k = p) w wx ∧ Hid (items rdA c most l = pre ds (items rdA c (most - ds.length) l')) ∧ ds.length ≤ most ∧ most ≤ ds.length + gf)
 case atStart=>exact ⟨[],l,none,0,rfl,World.ownsRow_nil w _ _ 3,H.out,HV.out,Blk.Chg.refl _ _,(pre_nil _).symm,by simp,by simp⟩
 case round =>
  obtain ⟨ds,l',sa,cap,rfl,hown,hrd,hvx,hchg,HN,hle,hfu⟩:=hrel
  have hsz:=hchg.size
  by_cases hfull:ds.length = most
  ·have hres:=items_full HN.out hfull
   have hlm:((ds.length:Int) == (most:Int)) = true:=by simp [hfull]
   obtain rfl:=HG.out.symm.trans hres
   clear HG
   have HC:=Lib.hid hchg
   have HR:=Lib.hid hrd
   clear hown hvx hchg HN hres hrd hle hfu hfull
   generalize ds.length = n at *
   go_wp2_with fail
   go_ret2
   exact ⟨HC.out,rfl,_,HR.out⟩
  ·obtain ⟨g',rfl⟩:∃ g',gk = g' + 1:=⟨gk - 1,by omega⟩
   have hlt:ds.length < most:=by omega
   have hlm:((ds.length:Int) == (most:Int)) = false:=by simp; omega
   have hdl:ds.length + 1 ≤ 70000:=by omega
   cases hat:atom l' with
   | none =>
    have hres:=items_err HN.out hlt (show rdA l' = .error 3 by unfold rdA; rw [hat])
    obtain rfl:=HG.out.symm.trans hres
    clear HG
    have cr:=readAtom_any p l' wr hrd hvx hp
    rw [hat] at cr
    simp only [toldA,zA,nextA] at cr
    have HC:=Lib.hid hchg
    clear hown hvx hchg HN hres hrd hle hfu hfull hat
    generalize ds.length = n at *
    go_wp2_with fail
    refine cr.mono ?_
    rintro e w1 ⟨rfl,⟨l1,k1⟩,k2⟩
    have hb:=(Below.refl w1.heap.size w1).alloc (Nat.le_refl _) (.cells #[.string ⟨#[]⟩,.int .i64 0,.string ⟨#[]⟩] 78)
    have HR1:=Lib.hid (k1.below hb)
    have HC1:=Lib.hid ((HC.out.trans k2).trans (Blk.Chg.ofBelow' hb))
    clear k1 k2 hb
    go_wp2_with fail
    go_ret2
    exact ⟨HC1.out,rfl,_,HR1.out⟩
   | some q =>
    obtain ⟨x,r⟩:=q
    have cr:=readAtom_any p l' wr hrd hvx hp
    have hrA:rdA l' = .ok (x,r):=by unfold rdA; rw [hat]
    rw [hat] at cr
    simp only [toldA,aV,nextA] at cr
    have HOWN:=Lib.hid hown
    have HVX:=Lib.hid hvx
    have HC:=Lib.hid hchg
    have hdo:=fun u (h:Rd u p r)=>take_any p r c u h
    have hres1:=fun h=>items_last HN.out hlt hrA h
    have hres2:=fun r2 h=>items_next (r2:=r2) HN.out hlt hrA h
    have HR1:=Lib.hid hres1
    have HR2:=Lib.hid hres2
    have hacc:=acells_app ds x
    have HACC:=Lib.hid hacc
    clear hown hvx hchg HN hrd hfull hat hres1 hres2 hrA hacc
    generalize hn:ds.length = n at *
    have HDN:=Lib.hid hn
    clear hn
    go_wp2_with fail
    refine cr.mono ?_
    rintro e w1 ⟨rfl,k1,k2⟩
    obtain ⟨hb3,hc3⟩:=two_new w1 78 #[.string (S x.1),.int .i64 x.2.1,.string (S x.2.2)]
    have hv1:=HVX.out.one k2 hp
    have hown1:=k2.owns HOWN.out fun b hb e=>by have:=own_lt HOWN.out hb; omega
    obtain ⟨W3,hW3⟩:∃ W3,(w1.alloc (.cells #[.string (S x.1),.int .i64 x.2.1,.string (S x.2.2)] 78)).alloc (.cells #[.string (S x.1),.int .i64 x.2.1,.string (S x.2.2)] 78) = W3:=⟨_,rfl⟩
    rw [hW3] at hb3 hc3
    have HW3:=Lib.hid hW3
    have HC3:=Lib.hid hc3
    have HOWN3:=Lib.hid (Own.owns_below hown1 hb3)
    have HR3:=Lib.hid (k1.below hb3)
    have HV3:=Lib.hid (hv1.on hb3)
    have HCH3:=Lib.hid ((HC.out.trans k2).trans (Blk.Chg.ofBelow' hb3))
    have HSZ:=Lib.hid HCH3.out.size
    clear hW3 hc3 hb3 hv1 hown1 k1 k2 HOWN HVX HC H HV cr
    go_wp2_with (at_builtin; rw [HW3.out]; refine append_el Tryz.underlying28 infoA rfl (by decide) rfl (.tmp 26) (.tmp 28) rfl w.heap.size (.slice sa n cap) n (acells ds) rfl HOWN3.out (w1.heap.size + 1) 1 rfl (acell x) rfl (fun j u hj=>HC3.out j u (by simpa [acell] using hj)) (fun u hu=>by simp only [acell,List.mem_cons,List.not_mem_nil,or_false] at hu; rcases hu with rfl | rfl | rfl <;> rfl) hdl HSZ.out ?_; intro v' w4 h4 h5; obtain ⟨g1,g2,g3⟩:=grow_all hpl HOB.out HR3.out HV3.out HCH3.out HOWN3.out h5; obtain ⟨a4,c4,rfl,_⟩:=own_shape h4; have H4:=Lib.hid h4; have G1:=Lib.hid g1; have G2:=Lib.hid g2; have G3:=Lib.hid g3; clear h4 h5 g1 g2 g3 HW3 HC3 HOWN3 HR3 HV3 HCH3)
    cases ht:tk c r with
    | none =>
     have hd1:=hdo w4 G1.out
     rw [ht] at hd1
     simp only [Option.getD_none,Option.isSome_none] at hd1
     obtain rfl:=HG.out.symm.trans (HR1.out ht)
     clear HG HR1 HR2 hdo ht
     refine hd1.mono ?_
     rintro e w5 ⟨rfl,k1,k2⟩
     have own5:=k2.owns H4.out fun b hb e=>by have:=own_lt H4.out hb; omega
     have ch5:=G3.out.trans k2
     rw [← HACC.out] at own5
     have hlen:(ds ++ [x]).length = n + 1:=by rw [List.length_append,HDN.out]; rfl
     rw [← hlen] at own5
     have K1:=Lib.hid k1
     have OWN5:=Lib.hid own5
     have CH5:=Lib.hid ch5
     have HLEN:=Lib.hid hlen
     clear own5 ch5 k1 k2 hlen
     go_wp2_with fail
     go_ret2
     refine ⟨CH5.out,K1.out,_,rfl,?_⟩
     have:=OWN5.out
     rw [HLEN.out] at this ⊢
     exact this
    | some r2 =>
     have hd1:=hdo w4 G1.out
     rw [ht] at hd1
     simp only [Option.getD_some,Option.isSome_some] at hd1
     have hres:=HR2.out r2 ht
     have HRES:=Lib.hid hres
     clear HR1 HR2 hdo ht hres
     refine hd1.mono ?_
     rintro e w5 ⟨rfl,k1,k2⟩
     have own5:=k2.owns H4.out fun b hb e=>by have:=own_lt H4.out hb; omega
     have ch5:=G3.out.trans k2
     have v5:=G2.out.one k2 hp
     rw [← HACC.out] at own5
     have hlen:(ds ++ [x]).length = n + 1:=by rw [List.length_append,HDN.out]; rfl
     have K1:=Lib.hid k1
     have OWN5:=Lib.hid own5
     have CH5:=Lib.hid ch5
     have V5:=Lib.hid v5
     have HLEN:=Lib.hid hlen
     clear own5 ch5 k1 k2 hlen v5
     go_wp2_with fail
     go_roundg g'
     case measure=>omega
     case rel =>
      refine ⟨ds ++ [x],r2,a4,c4,by rw [HLEN.out],?_,K1.out,V5.out,CH5.out,HRES.out,by rw [HLEN.out]; omega,by rw [HLEN.out]; omega⟩
      rw [HLEN.out]
      exact OWN5.out
end Rl
end Go.Proofs.YthmpepnikmdjpaaGreatDoor
namespace Go.Proofs.YthmpepnikmdjpaaGreatDoor
open Go.RowKit
set_option linter.unusedSimpArgs false
set_option linter.unusedVariables false
namespace Rl
open Ver (Bs li li_len li_drop S S_self S_of S_size S_li below_drewN empty_is empty_no MaxLen Signs)
theorem readClause_any (p:Nat) (l:Bs) (w:World) (h:Rd w p l) (hv:Vars w) (hp:Off p) :
  Calls Tryz.prog 206 #[.pointer (some ⟨p,0,none⟩)] w fun e w'=>PostA w p (rdC l) e w':=by
 have c:=listA_any p l 6 124 w h hv hp (by omega)
 rw [show items rdA 124 6 l = rdC l from rfl] at c
 clear h hv
 cases hq:rdC l with
 | error er =>
  rw [hq] at c
  unfold PostA at c ⊢
  simp only at c ⊢
  clear hq
  go_enter Tryz.func206,Tryz.ntmps206
  go_wp2_with fail
  refine c.mono ?_
  rintro e w1 ⟨k1,rfl,k2⟩
  go_wp2_with fail
  go_ret2
  exact ⟨k1,rfl,k2⟩
 | ok q =>
  obtain ⟨xs,r⟩:=q
  rw [hq] at c
  unfold PostA at c ⊢
  simp only at c ⊢
  clear hq
  go_enter Tryz.func206,Tryz.ntmps206
  go_wp2_with fail
  refine c.mono ?_
  rintro e w1 ⟨k1,k2,v,rfl,k3⟩
  go_wp2_with fail
  go_ret2
  exact ⟨k1,k2,_,rfl,k3⟩
def pV (a:Pv):Value:=.agg #[.string (S a.1),.string (S a.2)]
def zP:Value:=.agg #[.string ⟨#[]⟩,.string ⟨#[]⟩]
def PostP1 (w:World) (p:Nat) (o:Except Int (Pv × Bs)) (e:Ending) (w':World):Prop :=
 Blk.Chg (fun k=>k = p) w w' ∧ match o with
  | .error er=>e = .returned (.tuple #[zP,.int .i64 er]) ∧ ∃ l,Rd w' p l
  | .ok (x,r)=>Rd w' p r ∧ e = .returned (.tuple #[pV x,.int .i64 0])
structure St2 (w u:World) (p:Nat) (l:Bs):Prop where
 np:p < w.heap.size
 rd:Rd u p l
 res:Blk.Is u w.heap.size 82 #[.string ⟨#[]⟩,.string ⟨#[]⟩]
 chg:Blk.Chg (fun k=>k = p) w u
theorem St2.below {w u u':World} {p:Nat} {l:Bs} (h:St2 w u p l) (hb:Below u.heap.size u u'):St2 w u' p l :=
 ⟨h.np,h.rd.below hb,is_on h.res hb,h.chg.trans (Blk.Chg.ofBelow' hb)⟩
theorem St2.rcells {w u:World} {p:Nat} {l:Bs} (h:St2 w u p l):u.cell? ⟨w.heap.size,0,none⟩ = some (.string ⟨#[]⟩) ∧ u.cell? ⟨w.heap.size,1,none⟩ = some (.string ⟨#[]⟩) ∧ u.frozen? ⟨w.heap.size,0,none⟩ = false ∧ u.frozen? ⟨w.heap.size,1,none⟩ = false :=
 ⟨h.res.at rfl,h.res.at rfl,h.res.free _,h.res.free _⟩
theorem St2.fin {w u:World} {p:Nat} {l:Bs} (h:St2 w u p l) (x' y':Value) :
  ((u.setCell ⟨w.heap.size,0,none⟩ x').setCell ⟨w.heap.size,1,none⟩ y').cell? ⟨w.heap.size,0,none⟩ = some x' ∧
  ((u.setCell ⟨w.heap.size,0,none⟩ x').setCell ⟨w.heap.size,1,none⟩ y').cell? ⟨w.heap.size,1,none⟩ = some y' ∧
  Rd ((u.setCell ⟨w.heap.size,0,none⟩ x').setCell ⟨w.heap.size,1,none⟩ y') p l ∧
  Blk.Chg (fun k=>k = p) w ((u.setCell ⟨w.heap.size,0,none⟩ x').setCell ⟨w.heap.size,1,none⟩ y'):=by
 have h3:=(h.res.set 0 x').set 1 y'
 have hc:Blk.Chg (fun k=>k = w.heap.size) u ((u.setCell ⟨w.heap.size,0,none⟩ x').setCell ⟨w.heap.size,1,none⟩ y'):=((Blk.Chg.refl (fun k=>k = w.heap.size) u).setAt rfl).setAt rfl
 have h1:=h.np
 refine ⟨h3.at rfl,h3.at rfl,h.rd.chg hc (by omega),?_⟩
 exact (h.chg.setCell' (p:=⟨w.heap.size,0,none⟩) (Nat.le_refl _) x').setCell' (p:=⟨w.heap.size,1,none⟩) (Nat.le_refl _) y'
set_option maxRecDepth 100000 in
set_option maxHeartbeats 4000000 in
theorem readProvide_any (p:Nat) (l:Bs) (w:World) (h:Rd w p l) (hv:Vars w) (hp:Off p) :
  Calls Tryz.prog 210 #[.pointer (some ⟨p,0,none⟩)] w fun e w'=>PostP1 w p (rdP l) e w':=by
 have hpl:=h.sizes.1
 have hob:=fun b=>hv.off (b:=b)
 have hB0:Below w.heap.size w (w.alloc (.cells #[.string ⟨#[]⟩,.string ⟨#[]⟩] 82)):=(Below.refl _ _).alloc (Nat.le_refl _) _
 have hI0:=Blk.Is.new w 82 #[.string ⟨#[]⟩,.string ⟨#[]⟩]
 have c:=fun w h hv=>readAtom_any p l w h hv hp
 unfold rdP rdA
 have H:=Lib.hid (h.below hB0)
 have HV:=Lib.hid (hv.on hB0)
 have hst:∀ u l',Rd u p l' → Blk.Chg (fun k=>k = p) (w.alloc (.cells #[.string ⟨#[]⟩,.string ⟨#[]⟩] 82)) u → St2 w u p l':=fun u l' h1 h2 =>
  ⟨hpl,h1,h2.is hI0 (by omega),(Blk.Chg.ofBelow' hB0).trans h2⟩
 have HST:=Lib.hid hst
 clear hst hB0 hI0 hob h hv
 cases hat:atom l with
 | none =>
  rw [hat] at c
  simp only [toldA,zA,nextA] at c
  unfold PostP1 prv
  simp only [zP]
  clear hat
  go_enter Tryz.func210,Tryz.ntmps210
  go_wp2_with fail
  generalize w.alloc (.cells #[.string ⟨#[]⟩,.string ⟨#[]⟩] 82) = W at *
  refine (c _ H.out HV.out).mono ?_
  rintro e w1 ⟨rfl,k1,k2⟩
  obtain ⟨l1,k1⟩:=k1
  have st:=HST.out _ _ k1 k2
  have b2:=(Below.refl w1.heap.size w1).alloc (Nat.le_refl _) (.cells #[.string ⟨#[]⟩,.int .i64 0,.string ⟨#[]⟩] 78)
  have hi2:=Blk.Is.new w1 78 #[.string ⟨#[]⟩,.int .i64 0,.string ⟨#[]⟩]
  obtain ⟨i0,i1,i2⟩:=cells3 hi2
  have S1:=st.below b2
  obtain ⟨r0,r1,g0,g1⟩:=S1.rcells
  have E:=S1.fin (.string ⟨#[]⟩) (.string ⟨#[]⟩)
  clear k1 k2 st S1 b2 hi2 HST H HV
  go_wp2_with fail
  generalize (((w1.alloc (.cells #[.string ⟨#[]⟩,.int .i64 0,.string ⟨#[]⟩] 78)).setCell ⟨w.heap.size,0,none⟩ (.string ⟨#[]⟩)).setCell ⟨w.heap.size,1,none⟩ (.string ⟨#[]⟩)) = V at *
  obtain ⟨j0,j1,hrd,hch⟩:=E
  clear r0 r1 g0 g1 i0 i1 i2
  refine bodyPost_ret (by simp [results,Tryz.results210,go_sem,j0,j1]; try rfl) rfl ?_
  exact ⟨hch,rfl,_,hrd⟩
 | some q =>
  obtain ⟨⟨n,r,v⟩,l1⟩:=q
  rw [hat] at c
  simp only [toldA,aV,nextA] at c
  unfold PostP1 prv
  simp only [zP,pV]
  clear hat
  by_cases h0:r = 0
  ·subst h0
   rw [if_pos (.inl rfl)]
   simp only
   go_enter Tryz.func210,Tryz.ntmps210
   go_wp2_with fail
   generalize w.alloc (.cells #[.string ⟨#[]⟩,.string ⟨#[]⟩] 82) = W at *
   refine (c _ H.out HV.out).mono ?_
   rintro e w1 ⟨rfl,k1,k2⟩
   have st:=HST.out _ _ k1 k2
   have b2:=(Below.refl w1.heap.size w1).alloc (Nat.le_refl _) (.cells #[.string (S n),.int .i64 0,.string (S v)] 78)
   have hi2:=Blk.Is.new w1 78 #[.string (S n),.int .i64 0,.string (S v)]
   obtain ⟨i0,i1,i2⟩:=cells3 hi2
   have S1:=st.below b2
   obtain ⟨r0,r1,g0,g1⟩:=S1.rcells
   have E:=S1.fin (.string (S n)) (.string (S v))
   clear k1 k2 st S1 b2 hi2 HST H HV
   go_wp2_with fail
   generalize (((w1.alloc (.cells #[.string (S n),.int .i64 0,.string (S v)] 78)).setCell ⟨w.heap.size,0,none⟩ (.string (S n))).setCell ⟨w.heap.size,1,none⟩ (.string (S v))) = V at *
   obtain ⟨j0,j1,hrd,hch⟩:=E
   clear r0 r1 g0 g1 i0 i1 i2
   refine bodyPost_ret (by simp [results,Tryz.results210,go_sem,j0,j1]; try rfl) rfl ?_
   exact ⟨hch,hrd,rfl⟩
  ·by_cases h3:r = 3
   ·subst h3
    rw [if_pos (.inr rfl)]
    simp only
    go_enter Tryz.func210,Tryz.ntmps210
    go_wp2_with fail
    generalize w.alloc (.cells #[.string ⟨#[]⟩,.string ⟨#[]⟩] 82) = W at *
    refine (c _ H.out HV.out).mono ?_
    rintro e w1 ⟨rfl,k1,k2⟩
    have st:=HST.out _ _ k1 k2
    have b2:=(Below.refl w1.heap.size w1).alloc (Nat.le_refl _) (.cells #[.string (S n),.int .i64 3,.string (S v)] 78)
    have hi2:=Blk.Is.new w1 78 #[.string (S n),.int .i64 3,.string (S v)]
    obtain ⟨i0,i1,i2⟩:=cells3 hi2
    have S1:=st.below b2
    obtain ⟨r0,r1,g0,g1⟩:=S1.rcells
    have E:=S1.fin (.string (S n)) (.string (S v))
    clear k1 k2 st S1 b2 hi2 HST H HV
    go_wp2_with fail
    generalize (((w1.alloc (.cells #[.string (S n),.int .i64 3,.string (S v)] 78)).setCell ⟨w.heap.size,0,none⟩ (.string (S n))).setCell ⟨w.heap.size,1,none⟩ (.string (S v))) = V at *
    obtain ⟨j0,j1,hrd,hch⟩:=E
    clear r0 r1 g0 g1 i0 i1 i2
    refine bodyPost_ret (by simp [results,Tryz.results210,go_sem,j0,j1]; try rfl) rfl ?_
    exact ⟨hch,hrd,rfl⟩
   ·have h01:(r != 0) = true:=by simpa using h0
    have h31:(r != 3) = true:=by simpa using h3
    rw [if_neg (by omega)]
    simp only
    clear h0 h3
    go_enter Tryz.func210,Tryz.ntmps210
    go_wp2_with fail
    generalize w.alloc (.cells #[.string ⟨#[]⟩,.string ⟨#[]⟩] 82) = W at *
    refine (c _ H.out HV.out).mono ?_
    rintro e w1 ⟨rfl,k1,k2⟩
    have st:=HST.out _ _ k1 k2
    have b2:=(Below.refl w1.heap.size w1).alloc (Nat.le_refl _) (.cells #[.string (S n),.int .i64 r,.string (S v)] 78)
    have hi2:=Blk.Is.new w1 78 #[.string (S n),.int .i64 r,.string (S v)]
    obtain ⟨i0,i1,i2⟩:=cells3 hi2
    have S1:=st.below b2
    obtain ⟨r0,r1,g0,g1⟩:=S1.rcells
    have E:=S1.fin (.string ⟨#[]⟩) (.string ⟨#[]⟩)
    clear k1 k2 st S1 b2 hi2 HST H HV
    go_wp2_with fail
    generalize (((w1.alloc (.cells #[.string (S n),.int .i64 r,.string (S v)] 78)).setCell ⟨w.heap.size,0,none⟩ (.string ⟨#[]⟩)).setCell ⟨w.heap.size,1,none⟩ (.string ⟨#[]⟩)) = V at *
    obtain ⟨j0,j1,hrd,hch⟩:=E
    clear r0 r1 g0 g1 i0 i1 i2
    refine bodyPost_ret (by simp [results,Tryz.results210,go_sem,j0,j1]; try rfl) rfl ?_
    exact ⟨hch,rfl,_,hrd⟩
end Rl
end Go.Proofs.YthmpepnikmdjpaaGreatDoor
namespace Go.Proofs.YthmpepnikmdjpaaGreatDoor
open Go.RowKit
set_option linter.unusedSimpArgs false
set_option linter.unusedVariables false
namespace Rl
open Ver (Bs li li_len li_drop S S_self S_of S_size S_li below_drewN empty_is empty_no MaxLen Signs)
def pcell (a:Pv):List Value:=[.string (S a.1),.string (S a.2)]
def pcells (l:List Pv):List Value:=l.flatMap pcell
theorem pcells_app (l:List Pv) (a:Pv):pcells (l ++ [a]) = pcells l ++ pcell a:=by unfold pcells; simp
theorem rdP_err {l:Bs} {e:Int} (h:rdP l = .error e):e = 3:=by
 unfold rdP prv at h
 cases hq:rdA l with
 | error er=>rw [hq] at h; cases h; rfl
 | ok q =>
  obtain ⟨a,r⟩:=q
  rw [hq] at h
  simp only at h
  split at h
  ·cases h
  ·cases h; rfl
def PostP (w:World) (p:Nat) (o:Except Int (List Pv × Bs)) (e:Ending) (w':World):Prop :=
 Blk.Chg (fun k=>k = p) w w' ∧ match o with
  | .error er=>e = .returned (.tuple #[.slice none 0 0,.int .i64 er]) ∧ ∃ l,Rd w' p l
  | .ok (xs,r)=>Rd w' p r ∧ ∃ v,e = .returned (.tuple #[v,.int .i64 0]) ∧ w'.ownsRow w.heap.size 82 2 v xs.length (pcells xs)
set_option maxRecDepth 100000 in
set_option maxHeartbeats 4000000 in
theorem listP_any (p:Nat) (l:Bs) (most:Nat) (c:UInt8) (w:World) (h:Rd w p l) (hv:Vars w) (hp:Off p) (hm:most ≤ 12) :
  Calls Tryz.prog 250 #[.pointer (some ⟨p,0,none⟩),.int .i64 most,.string ⟨#[c]⟩,.func (.func 210) #[] #[]] w fun e w'=>PostP w p (items rdP c most l) e w':=by
 have hpl:=h.sizes.1
 have hob:=fun b=>hv.off (b:=b)
 have HOB:=Lib.hid hob
 have H:=Lib.hid h
 have HV:=Lib.hid hv
 clear h hv hob
 obtain ⟨G,hG⟩:∃ G,items rdP c most l = G:=⟨_,rfl⟩
 have HG:=Lib.hid hG
 rw [hG]
 clear hG
 go_enter Tryz.func250,Tryz.ntmps250
 go_wp2_with fail
 go_loopg [10] most (fun gf s10 wx=>∃ (ds:List Pv) (l':Bs) (sa:Option Addr) (cap:Nat),s10 = .slice sa ds.length cap ∧ wx.ownsRow w.heap.size 82 2 (.slice sa ds.length cap) ds.length (pcells ds) ∧ Rd wx p l' ∧ Vars wx ∧ Blk.Chg (fun k=>k = p) w wx ∧ Hid (items rdP c most l = pre ds (items rdP c (most - ds.length) l')) ∧ ds.length ≤ most ∧ most ≤ ds.length + gf)
 case atStart=>exact ⟨[],l,none,0,rfl,World.ownsRow_nil w _ _ 2,H.out,HV.out,Blk.Chg.refl _ _,(pre_nil _).symm,by simp,by simp⟩
 case round =>
  obtain ⟨ds,l',sa,cap,rfl,hown,hrd,hvx,hchg,HN,hle,hfu⟩:=hrel
  have hsz:=hchg.size
  by_cases hfull:ds.length = most
  ·have hres:=items_full HN.out hfull
   have hlm:((ds.length:Int) == (most:Int)) = true:=by simp [hfull]
   obtain rfl:=HG.out.symm.trans hres
   clear HG
   have HC:=Lib.hid hchg
   have HR:=Lib.hid hrd
   clear hown hvx hchg HN hres hrd hle hfu hfull
   generalize ds.length = n at *
   go_wp2_with fail
   go_ret2
   exact ⟨HC.out,rfl,_,HR.out⟩
  ·obtain ⟨g',rfl⟩:∃ g',gk = g' + 1:=⟨gk - 1,by omega⟩
   have hlt:ds.length < most:=by omega
   have hlm:((ds.length:Int) == (most:Int)) = false:=by simp; omega
   have hdl:ds.length + 1 ≤ 70000:=by omega
   cases hat:rdP l' with
   | error er =>
    have her:=rdP_err hat
    subst her
    have hres:=items_err HN.out hlt hat
    obtain rfl:=HG.out.symm.trans hres
    clear HG
    have cr:=readProvide_any p l' wr hrd hvx hp
    rw [hat] at cr
    unfold PostP1 at cr
    simp only [zP] at cr
    have HC:=Lib.hid hchg
    clear hown hvx hchg HN hres hrd hle hfu hfull hat
    generalize ds.length = n at *
    go_wp2_with fail
    refine cr.mono ?_
    rintro e w1 ⟨k2,rfl,l1,k1⟩
    have hb:=(Below.refl w1.heap.size w1).alloc (Nat.le_refl _) (.cells #[.string ⟨#[]⟩,.string ⟨#[]⟩] 82)
    have HR1:=Lib.hid (k1.below hb)
    have HC1:=Lib.hid ((HC.out.trans k2).trans (Blk.Chg.ofBelow' hb))
    clear k1 k2 hb
    go_wp2_with fail
    go_ret2
    exact ⟨HC1.out,rfl,_,HR1.out⟩
   | ok q =>
    obtain ⟨x,r⟩:=q
    have cr:=readProvide_any p l' wr hrd hvx hp
    have hrA:rdP l' = .ok (x,r):=hat
    rw [hat] at cr
    unfold PostP1 at cr
    simp only [pV] at cr
    have HOWN:=Lib.hid hown
    have HVX:=Lib.hid hvx
    have HC:=Lib.hid hchg
    have hdo:=fun u (h:Rd u p r)=>take_any p r c u h
    have hres1:=fun h=>items_last HN.out hlt hrA h
    have hres2:=fun r2 h=>items_next (r2:=r2) HN.out hlt hrA h
    have HR1:=Lib.hid hres1
    have HR2:=Lib.hid hres2
    have hacc:=pcells_app ds x
    have HACC:=Lib.hid hacc
    clear hown hvx hchg HN hrd hfull hat hres1 hres2 hrA hacc
    generalize hn:ds.length = n at *
    have HDN:=Lib.hid hn
    clear hn
    go_wp2_with fail
    refine cr.mono ?_
    rintro e w1 ⟨k2,k1,rfl⟩
    obtain ⟨hb3,hc3⟩:=two_new w1 82 #[.string (S x.1),.string (S x.2)]
    have hv1:=HVX.out.one k2 hp
    have hown1:=k2.owns HOWN.out fun b hb e=>by have:=own_lt HOWN.out hb; omega
    obtain ⟨W3,hW3⟩:∃ W3,(w1.alloc (.cells #[.string (S x.1),.string (S x.2)] 82)).alloc (.cells #[.string (S x.1),.string (S x.2)] 82) = W3:=⟨_,rfl⟩
    rw [hW3] at hb3 hc3
    have HW3:=Lib.hid hW3
    have HC3:=Lib.hid hc3
    have HOWN3:=Lib.hid (Own.owns_below hown1 hb3)
    have HR3:=Lib.hid (k1.below hb3)
    have HV3:=Lib.hid (hv1.on hb3)
    have HCH3:=Lib.hid ((HC.out.trans k2).trans (Blk.Chg.ofBelow' hb3))
    have HSZ:=Lib.hid HCH3.out.size
    clear hW3 hc3 hb3 hv1 hown1 k1 k2 HOWN HVX HC H HV cr
    go_wp2_with (at_builtin; rw [HW3.out]; refine append_el Tryz.underlying29 infoP rfl (by decide) rfl (.tmp 26) (.tmp 28) rfl w.heap.size (.slice sa n cap) n (pcells ds) rfl HOWN3.out (w1.heap.size + 1) 1 rfl (pcell x) rfl (fun j u hj=>HC3.out j u (by simpa [pcell] using hj)) (fun u hu=>by simp only [pcell,List.mem_cons,List.not_mem_nil,or_false] at hu; rcases hu with rfl | rfl <;> rfl) hdl HSZ.out ?_; intro v' w4 h4 h5; obtain ⟨g1,g2,g3⟩:=grow_all hpl HOB.out HR3.out HV3.out HCH3.out HOWN3.out h5; obtain ⟨a4,c4,rfl,_⟩:=own_shape h4; have H4:=Lib.hid h4; have G1:=Lib.hid g1; have G2:=Lib.hid g2; have G3:=Lib.hid g3; clear h4 h5 g1 g2 g3 HW3 HC3 HOWN3 HR3 HV3 HCH3)
    cases ht:tk c r with
    | none =>
     have hd1:=hdo w4 G1.out
     rw [ht] at hd1
     simp only [Option.getD_none,Option.isSome_none] at hd1
     obtain rfl:=HG.out.symm.trans (HR1.out ht)
     clear HG HR1 HR2 hdo ht
     refine hd1.mono ?_
     rintro e w5 ⟨rfl,k1,k2⟩
     have own5:=k2.owns H4.out fun b hb e=>by have:=own_lt H4.out hb; omega
     have ch5:=G3.out.trans k2
     rw [← HACC.out] at own5
     have hlen:(ds ++ [x]).length = n + 1:=by rw [List.length_append,HDN.out]; rfl
     rw [← hlen] at own5
     have K1:=Lib.hid k1
     have OWN5:=Lib.hid own5
     have CH5:=Lib.hid ch5
     have HLEN:=Lib.hid hlen
     clear own5 ch5 k1 k2 hlen
     go_wp2_with fail
     go_ret2
     refine ⟨CH5.out,K1.out,_,rfl,?_⟩
     have:=OWN5.out
     rw [HLEN.out] at this ⊢
     exact this
    | some r2 =>
     have hd1:=hdo w4 G1.out
     rw [ht] at hd1
     simp only [Option.getD_some,Option.isSome_some] at hd1
     have hres:=HR2.out r2 ht
     have HRES:=Lib.hid hres
     clear HR1 HR2 hdo ht hres
     refine hd1.mono ?_
     rintro e w5 ⟨rfl,k1,k2⟩
     have own5:=k2.owns H4.out fun b hb e=>by have:=own_lt H4.out hb; omega
     have ch5:=G3.out.trans k2
     have v5:=G2.out.one k2 hp
     rw [← HACC.out] at own5
     have hlen:(ds ++ [x]).length = n + 1:=by rw [List.length_append,HDN.out]; rfl
     have K1:=Lib.hid k1
     have OWN5:=Lib.hid own5
     have CH5:=Lib.hid ch5
     have V5:=Lib.hid v5
     have HLEN:=Lib.hid hlen
     clear own5 ch5 k1 k2 hlen v5
     go_wp2_with fail
     go_roundg g'
     case measure=>omega
     case rel =>
      refine ⟨ds ++ [x],r2,a4,c4,by rw [HLEN.out],?_,K1.out,V5.out,CH5.out,HRES.out,by rw [HLEN.out]; omega,by rw [HLEN.out]; omega⟩
      rw [HLEN.out]
      exact OWN5.out
end Rl
end Go.Proofs.YthmpepnikmdjpaaGreatDoor
namespace Go.Proofs.YthmpepnikmdjpaaGreatDoor
open Go.RowKit
set_option linter.unusedSimpArgs false
set_option linter.unusedVariables false
namespace Rl
open Ver (Bs li li_len li_drop S S_self S_of S_size S_li below_drewN empty_is empty_no MaxLen Signs)
theorem atoms_ne_clauses:(78:TypeId) ≠ 72:=by decide
def Cls (w:World) (B:Nat) (vs:List Value) (xs:List (List At)):Prop :=
 vs.length = xs.length ∧ ∀ i,i < xs.length → w.ownsRow B 78 3 (vs.getD i undef) (xs.getD i []).length (acells (xs.getD i []))
theorem Cls.nil (w:World) (B:Nat):Cls w B [] []:=⟨rfl,fun i hi=>absurd hi (by simp)⟩
theorem Cls.chg {w w':World} {B:Nat} {vs:List Value} {xs:List (List At)} {Q:Nat → Prop} (h:Cls w B vs xs) (hc:Blk.Chg Q w w') (hn:∀ u n ys,w.ownsRow B 78 3 u n ys → ∀ k,u.ownBlock = some k → ¬ Q k):Cls w' B vs xs :=
 ⟨h.1,fun i hi=>hc.owns (h.2 i hi) fun k hk=>hn _ _ _ (h.2 i hi) k hk⟩
theorem Cls.one {w w':World} {B p:Nat} {vs:List Value} {xs:List (List At)} (h:Cls w B vs xs) (hc:Blk.Chg (fun k=>k = p) w w') (hp:p < B):Cls w' B vs xs:=h.chg hc fun u n ys ho k hk e=>by have:=own_lt ho hk; omega
theorem Cls.below {w w':World} {B:Nat} {vs:List Value} {xs:List (List At)} (h:Cls w B vs xs) (hb:Below w.heap.size w w'):Cls w' B vs xs:=h.chg (Q:=fun _=>False) (Blk.Chg.ofBelow' hb) fun _ _ _ _ _ _ h=>h
theorem Cls.grown {w w':World} {B:Nat} {vs:List Value} {xs:List (List At)} {v:Value} {n:Nat} {ys:List Value} (h:Cls w B vs xs) (hown:w.ownsRow B 72 1 v n ys) (hg:w.grownBy w' v.ownBlock):Cls w' B vs xs :=
 h.chg (Q:=fun k=>v.ownBlock = some k) (Blk.Chg.grown (Blk.Chg.refl _ w) hg fun k hk _=>hk) fun u n ys ho k hk hk'=>own_ne ho hown atoms_ne_clauses k hk hk'
theorem Cls.mono {w:World} {B B':Nat} {vs:List Value} {xs:List (List At)} (h:Cls w B vs xs) (hB:B' ≤ B):Cls w B' vs xs:=⟨h.1,fun i hi=>own_mono (h.2 i hi) hB⟩
theorem Cls.more {w:World} {B:Nat} {vs:List Value} {xs:List (List At)} {v:Value} {x:List At} (h:Cls w B vs xs) (hx:w.ownsRow B 78 3 v x.length (acells x)):Cls w B (vs ++ [v]) (xs ++ [x]):=by
 refine ⟨by simp [h.1],fun i hi=>?_⟩
 rw [List.length_append] at hi
 by_cases e:i < xs.length
 ·have:=h.2 i e
  have e1:(vs ++ [v]).getD i undef = vs.getD i undef:=by simp [List.getD,List.getElem?_append_left (show i < vs.length by rw [h.1]; exact e)]
  have e2:(xs ++ [x]).getD i [] = xs.getD i []:=by simp [List.getD,List.getElem?_append_left e]
  rw [e1,e2]; exact this
 ·have hi':i = xs.length:=by simp at hi; omega
  subst hi'
  have e1:(vs ++ [v]).getD xs.length undef = v:=by rw [← h.1]; simp [List.getD]
  have e2:(xs ++ [x]).getD xs.length [] = x:=by simp [List.getD]
  rw [e1,e2]; exact hx
theorem one_cell {w:World} {k:Nat} {v:Value} (h:w.cell? ⟨k,0,none⟩ = some v):∀ (j:Nat) u,[v][j]? = some u → w.cell? ⟨k,j,none⟩ = some u:=by
 intro j u hj
 have:=(List.getElem?_eq_some_iff.1 hj).1
 have hj0:j = 0:=by simp at this; exact this
 subst hj0
 simp at hj
 rw [← hj]; exact h
theorem items_er {α:Type} {rd:Bs → Except Int (α × Bs)} (h:∀ l e,rd l = .error e → e = 3 ∨ e = 12) (c:UInt8):∀ k l e,items rd c k l = .error e → e = 3 ∨ e = 12
 | 0,l,e,he=>by cases he; exact .inr rfl
 | k + 1,l,e,he=>by
  unfold items at he
  cases h1:rd l with
  | error e1=>rw [h1] at he; cases he; exact h l _ h1
  | ok q =>
   obtain ⟨x,l1⟩:=q
   rw [h1] at he
   simp only at he
   cases h2:tk c l1 with
   | none=>rw [h2] at he; cases he
   | some l2 =>
    rw [h2] at he
    simp only at he
    cases h3:items rd c k l2 with
    | error e3=>rw [h3] at he; cases he; exact items_er h c k l2 _ h3
    | ok q=>rw [h3] at he; cases he
theorem rdA_er (l:Bs) (e:Int) (h:rdA l = .error e):e = 3 ∨ e = 12:=by
 unfold rdA at h
 cases hq:atom l with
 | none=>rw [hq] at h; cases h; exact .inl rfl
 | some q=>rw [hq] at h; cases h
theorem rdC_err {l:Bs} {e:Int} (h:rdC l = .error e):e = 3 ∨ e = 12:=items_er rdA_er 124 6 l e h
def PostC (w:World) (p:Nat) (o:Except Int (List (List At) × Bs)) (e:Ending) (w':World):Prop :=
 Blk.Chg (fun k=>k = p) w w' ∧ match o with
  | .error er=>e = .returned (.tuple #[.slice none 0 0,.int .i64 er]) ∧ ∃ l,Rd w' p l
  | .ok (xs,r)=>Rd w' p r ∧ ∃ v vs,e = .returned (.tuple #[v,.int .i64 0]) ∧ w'.ownsRow w.heap.size 72 1 v xs.length vs ∧ Cls w' w.heap.size vs xs
set_option maxRecDepth 100000 in
set_option maxHeartbeats 4000000 in
theorem listC_any (p:Nat) (l:Bs) (most:Nat) (c:UInt8) (w:World) (h:Rd w p l) (hv:Vars w) (hp:Off p) (hm:most ≤ 12) :
  Calls Tryz.prog 243 #[.pointer (some ⟨p,0,none⟩),.int .i64 most,.string ⟨#[c]⟩,.func (.func 206) #[] #[]] w fun e w'=>PostC w p (items rdC c most l) e w':=by
 have hpl:=h.sizes.1
 have hob:=fun b=>hv.off (b:=b)
 have HOB:=Lib.hid hob
 have H:=Lib.hid h
 have HV:=Lib.hid hv
 clear h hv hob
 obtain ⟨G,hG⟩:∃ G,items rdC c most l = G:=⟨_,rfl⟩
 have HG:=Lib.hid hG
 rw [hG]
 clear hG
 go_enter Tryz.func243,Tryz.ntmps243
 go_wp2_with fail
 go_loopg [10] most (fun gf s10 wx=>∃ (ds:List (List At)) (vs:List Value) (l':Bs) (sa:Option Addr) (cap:Nat),s10 = .slice sa ds.length cap ∧ wx.ownsRow w.heap.size 72 1 (.slice sa ds.length cap) ds.length vs ∧ Cls wx w.heap.size vs ds ∧ Rd wx p l' ∧ Vars wx ∧ Blk.Chg (fun k=>k = p) w wx ∧ Hid (items rdC c most l = pre ds (items rdC c (most - ds.length) l')) ∧ ds.length ≤ most ∧ most ≤ ds.length + gf)
 case atStart=>exact ⟨[],[],l,none,0,rfl,World.ownsRow_nil w _ _ 1,Cls.nil _ _,H.out,HV.out,Blk.Chg.refl _ _,(pre_nil _).symm,by simp,by simp⟩
 case round =>
  obtain ⟨ds,vs,l',sa,cap,rfl,hown,hcls,hrd,hvx,hchg,HN,hle,hfu⟩:=hrel
  have hsz:=hchg.size
  by_cases hfull:ds.length = most
  ·have hres:=items_full HN.out hfull
   have hlm:((ds.length:Int) == (most:Int)) = true:=by simp [hfull]
   obtain rfl:=HG.out.symm.trans hres
   clear HG
   have HC:=Lib.hid hchg
   have HR:=Lib.hid hrd
   clear hown hcls hvx hchg HN hres hrd hle hfu hfull
   generalize ds.length = n at *
   go_wp2_with fail
   go_ret2
   exact ⟨HC.out,rfl,_,HR.out⟩
  ·obtain ⟨g',rfl⟩:∃ g',gk = g' + 1:=⟨gk - 1,by omega⟩
   have hlt:ds.length < most:=by omega
   have hlm:((ds.length:Int) == (most:Int)) = false:=by simp; omega
   have hdl:ds.length + 1 ≤ 70000:=by omega
   have cr:=readClause_any p l' wr hrd hvx hp
   cases hat:rdC l' with
   | error er =>
    have her:=rdC_err hat
    have hres:=items_err HN.out hlt hat
    obtain rfl:=HG.out.symm.trans hres
    clear HG
    rw [hat] at cr
    unfold PostA at cr
    simp only at cr
    have he1:(er != 0) = true:=by rw [bne_iff_ne]; omega
    have HC:=Lib.hid hchg
    clear hown hcls hvx hchg HN hres hrd hle hfu hfull hat her
    generalize ds.length = n at *
    go_wp2_with fail
    refine cr.mono ?_
    rintro e w1 ⟨k2,rfl,l1,k1⟩
    have HR1:=Lib.hid k1
    have HC1:=Lib.hid (HC.out.trans k2)
    clear k1 k2
    go_wp2_with fail
    go_ret2
    exact ⟨HC1.out,rfl,_,HR1.out⟩
   | ok q =>
    obtain ⟨x,r⟩:=q
    rw [hat] at cr
    unfold PostA at cr
    simp only at cr
    have HOWN:=Lib.hid hown
    have HCLS:=Lib.hid hcls
    have HVX:=Lib.hid hvx
    have HC:=Lib.hid hchg
    have hdo:=fun u (h:Rd u p r)=>take_any p r c u h
    have hres1:=fun h=>items_last HN.out hlt hat h
    have hres2:=fun r2 h=>items_next (r2:=r2) HN.out hlt hat h
    have HR1:=Lib.hid hres1
    have HR2:=Lib.hid hres2
    clear hown hcls hvx hchg HN hrd hfull hat hres1 hres2
    generalize hn:ds.length = n at *
    have HDN:=Lib.hid hn
    clear hn
    go_wp2_with fail
    refine cr.mono ?_
    rintro e w1 ⟨k2,k1,v,rfl,k3⟩
    obtain ⟨av,cv,rfl,_⟩:=own_shape k3
    have hb3:Below w1.heap.size w1 (w1.alloc (.cells #[.slice av x.length cv] 72)):=(Below.refl _ _).alloc (Nat.le_refl _) _
    have hc3:=(Blk.Is.new w1 72 #[.slice av x.length cv]).at (i:=0) rfl
    have hv1:=HVX.out.one k2 hp
    have hown1:=k2.owns HOWN.out fun b hb e=>by have:=own_lt HOWN.out hb; omega
    have hcls1:=HCLS.out.one k2 hpl
    have hel:=own_mono (Own.owns_below k3 hb3) hsz
    obtain ⟨W3,hW3⟩:∃ W3,w1.alloc (.cells #[.slice av x.length cv] 72) = W3:=⟨_,rfl⟩
    rw [hW3] at hb3 hc3 hel
    have HW3:=Lib.hid hW3
    have HC3:=Lib.hid hc3
    have HOWN3:=Lib.hid (Own.owns_below hown1 hb3)
    have HCLS3:=Lib.hid ((hcls1.below hb3).more hel)
    have HR3:=Lib.hid (k1.below hb3)
    have HV3:=Lib.hid (hv1.on hb3)
    have HCH3:=Lib.hid ((HC.out.trans k2).trans (Blk.Chg.ofBelow' hb3))
    have HSZ:=Lib.hid HCH3.out.size
    clear hW3 hc3 hb3 hv1 hown1 k1 k2 k3 hel hcls1 HCLS HOWN HVX HC H HV cr
    generalize x.length = m at *
    go_wp2_with (at_builtin; rw [HW3.out]; refine append_el Tryz.underlying27 infoC rfl (by decide) rfl (.tmp 26) (.tmp 28) rfl w.heap.size (.slice sa n cap) n vs rfl HOWN3.out w1.heap.size 1 rfl [.slice av m cv] rfl (one_cell HC3.out) (fun u hu=>by simp only [List.mem_singleton] at hu; rw [hu]; rfl) hdl HSZ.out ?_; intro v' w4 h4 h5; obtain ⟨g1,g2,g3⟩:=grow_all hpl HOB.out HR3.out HV3.out HCH3.out HOWN3.out h5; have g4:=HCLS3.out.grown HOWN3.out h5; obtain ⟨a4,c4,rfl,_⟩:=own_shape h4; have H4:=Lib.hid h4; have G1:=Lib.hid g1; have G2:=Lib.hid g2; have G3:=Lib.hid g3; have G4:=Lib.hid g4; clear h4 h5 g1 g2 g3 g4 HW3 HC3 HOWN3 HCLS3 HR3 HV3 HCH3)

    cases ht:tk c r with
    | none =>
     have hd1:=hdo w4 G1.out
     rw [ht] at hd1
     simp only [Option.getD_none,Option.isSome_none] at hd1
     obtain rfl:=HG.out.symm.trans (HR1.out ht)
     clear HG HR1 HR2 hdo ht
     refine hd1.mono ?_
     rintro e w5 ⟨rfl,k1,k2⟩
     have own5:=k2.owns H4.out fun b hb e=>by have:=own_lt H4.out hb; omega
     have ch5:=G3.out.trans k2
     have cls5:=G4.out.one k2 hpl
     have hlen:(ds ++ [x]).length = n + 1:=by rw [List.length_append,HDN.out]; rfl
     rw [← hlen] at own5
     have CLS5:=Lib.hid cls5
     have K1:=Lib.hid k1
     have OWN5:=Lib.hid own5
     have CH5:=Lib.hid ch5
     have HLEN:=Lib.hid hlen
     clear own5 ch5 k1 k2 hlen cls5
     go_wp2_with fail
     go_ret2
     refine ⟨CH5.out,K1.out,_,_,rfl,?_,CLS5.out⟩
     have:=OWN5.out
     rw [HLEN.out] at this ⊢
     exact this
    | some r2 =>
     have hd1:=hdo w4 G1.out
     rw [ht] at hd1
     simp only [Option.getD_some,Option.isSome_some] at hd1
     have hres:=HR2.out r2 ht
     have HRES:=Lib.hid hres
     clear HR1 HR2 hdo ht hres
     refine hd1.mono ?_
     rintro e w5 ⟨rfl,k1,k2⟩
     have own5:=k2.owns H4.out fun b hb e=>by have:=own_lt H4.out hb; omega
     have ch5:=G3.out.trans k2
     have v5:=G2.out.one k2 hp
     have cls5:=G4.out.one k2 hpl
     have hlen:(ds ++ [x]).length = n + 1:=by rw [List.length_append,HDN.out]; rfl
     have K1:=Lib.hid k1
     have OWN5:=Lib.hid own5
     have CH5:=Lib.hid ch5
     have V5:=Lib.hid v5
     have CLS5:=Lib.hid cls5
     have HLEN:=Lib.hid hlen
     clear own5 ch5 k1 k2 hlen v5 cls5
     go_wp2_with fail
     go_roundg g'
     case measure=>omega
     case rel =>
      refine ⟨ds ++ [x],_,r2,a4,c4,by rw [HLEN.out],?_,CLS5.out,K1.out,V5.out,CH5.out,HRES.out,by rw [HLEN.out]; omega,by rw [HLEN.out]; omega⟩
      rw [HLEN.out]
      exact OWN5.out
end Rl
end Go.Proofs.YthmpepnikmdjpaaGreatDoor
namespace Go.Proofs.YthmpepnikmdjpaaGreatDoor
open Go.RowKit
set_option linter.unusedSimpArgs false
set_option linter.unusedVariables false
namespace Rl
open Ver (Bs li li_len li_drop S S_self S_of S_size S_li below_drewN empty_is empty_no MaxLen Signs)
def nA:At:=([],0,[])
def nP:Pv:=([],[])
def AtAt (w:World) (k o:Nat) (a:At):Prop:=w.cell? ⟨k,o,none⟩ = some (.string (S a.1)) ∧ w.cell? ⟨k,o + 1,none⟩ = some (.int .i64 a.2.1) ∧ w.cell? ⟨k,o + 2,none⟩ = some (.string (S a.2.2))
def PvAt (w:World) (k o:Nat) (a:Pv):Prop:=w.cell? ⟨k,o,none⟩ = some (.string (S a.1)) ∧ w.cell? ⟨k,o + 1,none⟩ = some (.string (S a.2))
def Slc {α:Type} (sz:Nat) (z:α) (P:World → Nat → Nat → α → Prop) (w:World) (v:Value) (l:List α):Prop :=
 l.length ≤ 1152921504606846976 ∧ ∃ a cap,v = .slice a l.length cap ∧ l.length ≤ cap ∧ (0 < l.length → ∃ k off,a = some ⟨k,off,none⟩ ∧ ∀ i,i < l.length → P w k (off + sz * i) (l.getD i z))
def Ats:World → Value → List At → Prop:=Slc 3 nA AtAt
def Pvs:World → Value → List Pv → Prop:=Slc 2 nP PvAt
def ClAt (w:World) (k o:Nat) (c:List At):Prop:=∃ u,w.cell? ⟨k,o,none⟩ = some u ∧ Ats w u c
def Clss:World → Value → List (List At) → Prop:=Slc 1 [] ClAt
theorem Slc.below {α:Type} {sz:Nat} {z:α} {P:World → Nat → Nat → α → Prop} (hP:∀ w w' k o x,P w k o x → Below w.heap.size w w' → P w' k o x) {w w':World} {v:Value} {l:List α} (h:Slc sz z P w v l) (hb:Below w.heap.size w w'):Slc sz z P w' v l:=by
 obtain ⟨h0,a,cap,h1,h2,h3⟩:=h
 refine ⟨h0,a,cap,h1,h2,fun hl=>?_⟩
 obtain ⟨k,off,h4,h5⟩:=h3 hl
 exact ⟨k,off,h4,fun i hi=>hP _ _ _ _ _ (h5 i hi) hb⟩
theorem cell_on {w w':World} {p:Addr} {v:Value} (h:w.cell? p = some v) (hb:Below w.heap.size w w'):w'.cell? p = some v:=by rw [hb.cell (Ver.lt_cell h)]; exact h
theorem AtAt.below {w w':World} {k o:Nat} {a:At} (h:AtAt w k o a) (hb:Below w.heap.size w w'):AtAt w' k o a:=⟨cell_on h.1 hb,cell_on h.2.1 hb,cell_on h.2.2 hb⟩
theorem PvAt.below {w w':World} {k o:Nat} {a:Pv} (h:PvAt w k o a) (hb:Below w.heap.size w w'):PvAt w' k o a:=⟨cell_on h.1 hb,cell_on h.2 hb⟩
theorem Ats.below {w w':World} {v:Value} {l:List At} (h:Ats w v l) (hb:Below w.heap.size w w'):Ats w' v l:=Slc.below (fun _ _ _ _ _ h hb=>h.below hb) h hb
theorem Pvs.below {w w':World} {v:Value} {l:List Pv} (h:Pvs w v l) (hb:Below w.heap.size w w'):Pvs w' v l:=Slc.below (fun _ _ _ _ _ h hb=>h.below hb) h hb
theorem ClAt.below {w w':World} {k o:Nat} {c:List At} (h:ClAt w k o c) (hb:Below w.heap.size w w'):ClAt w' k o c:=by
 obtain ⟨u,h1,h2⟩:=h
 exact ⟨u,cell_on h1 hb,h2.below hb⟩
theorem Clss.below {w w':World} {v:Value} {l:List (List At)} (h:Clss w v l) (hb:Below w.heap.size w w'):Clss w' v l:=Slc.below (fun _ _ _ _ _ h hb=>h.below hb) h hb
theorem Slc.shape {α:Type} {sz:Nat} {z:α} {P:World → Nat → Nat → α → Prop} {w:World} {v:Value} {l:List α} (h:Slc sz z P w v l):∃ a cap,v = .slice a l.length cap:=by
 obtain ⟨_,a,cap,h1,_⟩:=h
 exact ⟨a,cap,h1⟩
theorem Slc.none {α:Type} (sz:Nat) (z:α) (P:World → Nat → Nat → α → Prop) (w:World):Slc sz z P w (.slice none 0 0) []:=⟨by simp,_,_,rfl,Nat.le_refl _,fun h=>absurd h (by simp)⟩
theorem flat_at {α:Type} (f:α → List Value) (m:Nat) (hf:∀ x,(f x).length = m):∀ (l:List α) (i j:Nat) (x:α),l[i]? = some x → j < m → (l.flatMap f)[m * i + j]? = (f x)[j]?
 | [],i,j,x,h,_=>by simp at h
 | y :: l,0,j,x,h,hj=>by
  simp at h
  subst h
  rw [List.flatMap_cons,Nat.mul_zero,Nat.zero_add,List.getElem?_append_left (by rw [hf]; exact hj)]
 | y :: l,i + 1,j,x,h,hj=>by
  simp at h
  rw [List.flatMap_cons,List.getElem?_append_right (by rw [hf,Nat.mul_add]; omega),hf,show m * (i + 1) + j - m = m * i + j by rw [Nat.mul_add]; omega]
  exact flat_at f m hf l i j x h hj
theorem at_getD {α:Type} {l:List α} {z:α} {i:Nat} (hi:i < l.length):l[i]? = some (l.getD i z):=by simp [List.getD,List.getElem?_eq_getElem hi]
theorem own_ats {w:World} {B:Nat} {v:Value} {l:List At} (h:w.ownsRow B 78 3 v l.length (acells l)) (hl:l.length ≤ 1152921504606846976):Ats w v l:=by
 obtain ⟨a,cap,rfl,hc⟩:=own_shape h
 refine ⟨hl,a,cap,rfl,hc,fun h0=>?_⟩
 obtain ⟨g,cap',e,_⟩:=own_slice h h0
 simp only [Value.slice.injEq,true_and] at e
 obtain ⟨rfl,rfl⟩:=e
 refine ⟨g,0,rfl,fun i hi=>?_⟩
 have hx:=at_getD (z:=nA) hi
 have hf:=flat_at acell 3 (fun x=>rfl) l i
 rw [Nat.zero_add]
 exact ⟨own_cell h (hf 0 _ hx (by omega)),own_cell h (hf 1 _ hx (by omega)),own_cell h (hf 2 _ hx (by omega))⟩
theorem own_pvs {w:World} {B:Nat} {v:Value} {l:List Pv} (h:w.ownsRow B 82 2 v l.length (pcells l)) (hl:l.length ≤ 1152921504606846976):Pvs w v l:=by
 obtain ⟨a,cap,rfl,hc⟩:=own_shape h
 refine ⟨hl,a,cap,rfl,hc,fun h0=>?_⟩
 obtain ⟨g,cap',e,_⟩:=own_slice h h0
 simp only [Value.slice.injEq,true_and] at e
 obtain ⟨rfl,rfl⟩:=e
 refine ⟨g,0,rfl,fun i hi=>?_⟩
 have hx:=at_getD (z:=nP) hi
 have hf:=flat_at pcell 2 (fun x=>rfl) l i
 rw [Nat.zero_add]
 exact ⟨own_cell h (hf 0 _ hx (by omega)),own_cell h (hf 1 _ hx (by omega))⟩
theorem own_clss {w:World} {B B':Nat} {v:Value} {vs:List Value} {l:List (List At)} (h:w.ownsRow B 72 1 v l.length vs) (hc:Cls w B' vs l) (hl:l.length ≤ 1152921504606846976) (hl2:∀ c ∈ l,c.length ≤ 1152921504606846976):Clss w v l:=by
 obtain ⟨a,cap,rfl,hcap⟩:=own_shape h
 refine ⟨hl,a,cap,rfl,hcap,fun h0=>?_⟩
 obtain ⟨g,cap',e,_⟩:=own_slice h h0
 simp only [Value.slice.injEq,true_and] at e
 obtain ⟨rfl,rfl⟩:=e
 refine ⟨g,0,rfl,fun i hi=>?_⟩
 have hv:i < vs.length:=by rw [hc.1]; exact hi
 rw [Nat.zero_add,Nat.one_mul]
 refine ⟨_,own_cell h (at_getD (z:=undef) hv),own_ats (hc.2 i hi) (hl2 _ ?_)⟩
 simp [List.getD,List.getElem?_eq_getElem hi]
def LimA (l:List At):Prop:=∀ a ∈ l,a.1.length ≤ 140737488351232 ∧ a.2.2.length ≤ 140737488351232
def LimP (l:List Pv):Prop:=∀ a ∈ l,a.1.length ≤ 140737488351232 ∧ a.2.length ≤ 140737488351232
def LimC (l:List (List At)):Prop:=∀ c ∈ l,LimA c
theorem mem_getD {α:Type} {l:List α} {z:α} {i:Nat} (hi:i < l.length):l.getD i z ∈ l:=by simp [List.getD,List.getElem?_eq_getElem hi]
end Rl
end Go.Proofs.YthmpepnikmdjpaaGreatDoor

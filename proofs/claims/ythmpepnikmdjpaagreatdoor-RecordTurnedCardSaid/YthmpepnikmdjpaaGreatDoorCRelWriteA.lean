/-
What is written, with more or less white space, is read as it was. The reference's Text (made by gen/relytext.py). Clauses that lie somewhere, appended onto a row of the call's own. Not too many: light. write, of atoms.
-/
import Derived.Test.YthmpepnikmdjpaaGreatDoorCRelDef
import Derived.Test.YthmpepnikmdjpaaGreatDoorCTextAwake
import Derived.Test.YthmpepnikmdjpaaGreatDoorCRelAtom
import Derived.Laws.Concat
import Derived.Test.YthmpepnikmdjpaaGreatDoorCRelLists
import Derived.Test.YthmpepnikmdjpaaGreatDoorCRelOwn
import Derived.Deep.AppendSrc
namespace Go.Proofs.YthmpepnikmdjpaaGreatDoor
set_option linter.unusedSimpArgs false
set_option linter.unusedVariables false
namespace Rl
open Ver (Bs)
def white (g:Bs):Prop:=g.all wh = true
theorem white_nil:white []:=rfl
theorem white_app {a b:Bs} (h:white a) (k:white b):white (a ++ b):=by
 unfold white at *
 rw [List.all_append,h,k]
 rfl
def Piece (c:UInt8) (p:Bs):Prop:=(c = 32 ∧ white p) ∨ (mk c = true ∧ ∃ g g',p = g ++ c :: g' ∧ white g ∧ white g') ∨ (c ≠ 32 ∧ mk c = false ∧ p = [c])
inductive Wid:Bs → Bs → Prop
 | nil:Wid [] []
 | cons {c:UInt8} {p r r':Bs}:Piece c p → Wid r r' → Wid (c :: r) (p ++ r')
theorem wid_refl:∀ l,Wid l l
 | []=>.nil
 | c :: r=>by
  refine .cons (p:=[c]) ?_ (wid_refl r)
  by_cases h:c = 32
  ·subst h; exact .inl ⟨rfl,rfl⟩
  ·cases hm:mk c with
   | true=>exact .inr (.inl ⟨hm,[],[],rfl,rfl,rfl⟩)
   | false=>exact .inr (.inr ⟨h,hm,rfl⟩)
theorem wid_split:∀ {a b l:Bs},Wid (a ++ b) l → ∃ l1 l2,l = l1 ++ l2 ∧ Wid a l1 ∧ Wid b l2
 | [],b,l,h=>⟨[],l,rfl,.nil,h⟩
 | c :: r,b,l,h=>by
  rw [List.cons_append] at h
  cases h with
  | cons hp hr =>
   obtain ⟨l1,l2,rfl,h1,h2⟩:=wid_split hr
   exact ⟨_ ++ l1,l2,by rw [List.append_assoc],.cons hp h1,h2⟩
theorem wid_same:∀ {n l:Bs},n.all yd = true → Wid n l → l = n
 | [],l,_,h=>by cases h; rfl
 | c :: r,l,hn,h=>by
  rw [List.all_cons,Bool.and_eq_true] at hn
  cases h with
  | cons hp hr =>
   rw [wid_same hn.2 hr]
   obtain ⟨h1,_⟩:=hn
   unfold yd at h1
   rcases hp with ⟨rfl,_⟩ | ⟨h2,_⟩ | ⟨_,_,rfl⟩
   ·exact absurd h1 (by decide)
   ·rw [h2] at h1; simp at h1
   ·rfl
theorem wid_space {l:Bs} (h:Wid [32] l):white l:=by
 cases h with
 | cons hp hr =>
  cases hr
  rw [List.append_nil]
  rcases hp with ⟨_,h⟩ | ⟨h,_⟩ | ⟨h,_⟩
  ·exact h
  ·exact absurd h (by decide)
  ·exact absurd rfl h
theorem wid_mark {c:UInt8} {l:Bs} (hc:mk c = true) (h:Wid [c] l):∃ g g',l = g ++ c :: g' ∧ white g ∧ white g':=by
 cases h with
 | cons hp hr =>
  cases hr
  rw [List.append_nil]
  rcases hp with ⟨rfl,_⟩ | ⟨_,h⟩ | ⟨_,h,_⟩
  ·exact absurd hc (by decide)
  ·exact h
  ·rw [hc] at h; cases h
def AtomAs (a:At) (l:Bs):Prop :=
 (a.2.1 = 0 ∧ ∃ g,white g ∧ l = a.1 ++ g) ∨
 (a.2.1 ≠ 0 ∧ ∃ g1 g2 g3 g4 g5,white g1 ∧ white g2 ∧ white g3 ∧ white g4 ∧ white g5 ∧ l = a.1 ++ (g1 ++ 40 :: (g2 ++ (sgnN a.2.1 ++ (g3 ++ (a.2.2 ++ (g4 ++ 41 :: g5)))))))
theorem atomAs_white {a:At} {l g:Bs} (h:AtomAs a l) (hg:white g):AtomAs a (l ++ g):=by
 rcases h with ⟨h0,g0,w0,rfl⟩ | ⟨h0,g1,g2,g3,g4,g5,w1,w2,w3,w4,w5,rfl⟩
 ·exact .inl ⟨h0,g0 ++ g,white_app w0 hg,by simp⟩
 ·exact .inr ⟨h0,g1,g2,g3,g4,g5 ++ g,w1,w2,w3,w4,white_app w5 hg,by simp⟩
theorem sgn_yd (r:Int):(sgnN r).all yd = true:=all_mono (fun c=>sg_yd) (sgn_sg r)
theorem may_parts {a:At} (h:may a = true):nmB a.1 = true ∧ ((a.2.1 = 0 ∧ a.2.2 = []) ∨ (a.2.1 ≠ 0 ∧ (1 ≤ a.2.1 ∧ a.2.1 ≤ 5) ∧ isV a.2.2 = true)):=by
 unfold may at h
 rw [Bool.and_eq_true] at h
 refine ⟨h.1,?_⟩
 have h2:=h.2
 by_cases h0:a.2.1 = 0
 ·rw [if_pos h0,List.isEmpty_iff] at h2
  exact .inl ⟨h0,h2⟩
 ·rw [if_neg h0,Bool.and_eq_true,decide_eq_true_eq] at h2
  exact .inr ⟨h0,h2⟩
theorem nm_head {n:Bs} (h:nmB n = true):∃ c r,n = c :: r ∧ wh c = false:=by
 cases n with
 | nil=>cases h
 | cons c r =>
  have:=nm_all h
  rw [List.all_cons,Bool.and_eq_true] at this
  refine ⟨c,r,rfl,?_⟩
  have h1:=this.1
  unfold wd at h1
  cases hw:wh c
  ·rfl
  ·rw [hw] at h1; simp at h1
theorem atomAs_head {a:At} {l:Bs} (hm:may a = true) (h:AtomAs a l):∃ c r,l = c :: r ∧ wh c = false:=by
 obtain ⟨c,r,e,hc⟩:=nm_head (may_parts hm).1
 rcases h with ⟨h0,g0,w0,rfl⟩ | ⟨h0,g1,g2,g3,g4,g5,w1,w2,w3,w4,w5,rfl⟩ <;> exact ⟨c,_,by rw [e]; rfl,hc⟩
theorem txA_as {a:At} {l:Bs} (hm:may a = true) (h:Wid (txA a) l):AtomAs a l:=by
 obtain ⟨hn,hr⟩:=may_parts hm
 have hny:a.1.all yd = true:=all_mono (fun c=>wd_yd c) (nm_all hn)
 unfold txA at h
 rcases hr with ⟨h0,h1⟩ | ⟨h0,h1,h2⟩
 ·rw [if_pos h0] at h
  exact .inl ⟨h0,[],rfl,by rw [wid_same hny h,List.append_nil]⟩
 ·rw [if_neg h0] at h
  have hvy:a.2.2.all yd = true:=all_mono (fun c=>wd_yd c) (ver_wd h2)
  obtain ⟨l6,p6,e6,j6,k6⟩:=wid_split h
  obtain ⟨l5,p5,e5,j5,k5⟩:=wid_split j6
  obtain ⟨l4,p4,e4,j4,k4⟩:=wid_split j5
  obtain ⟨l3,p3,e3,j3,k3⟩:=wid_split j4
  obtain ⟨l2,p2,e2,j2,k2⟩:=wid_split j3
  obtain ⟨l1,p1,e1,j1,k1⟩:=wid_split j2
  obtain ⟨x,x',rfl,wx,wx'⟩:=wid_mark (by decide) k6
  obtain ⟨y,y',rfl,wy,wy'⟩:=wid_mark (by decide) k2
  rw [e6,e5,e4,e3,e2,e1,wid_same hvy k5,wid_same (sgn_yd _) k3,wid_same hny j1]
  exact .inr ⟨h0,p1 ++ y,y',p4,x,x',white_app (wid_space k1) wy,wy',wid_space k4,wx,wx',by simp⟩
def Ends (t:Bs):Prop:=t = [] ∨ ∃ c r,t = c :: r ∧ (c = 44 ∨ c = 124)
theorem ends_skip {t:Bs} (h:Ends t):skip t = t:=skip_nw fun c r e=>by
 rcases h with rfl | ⟨c',r',rfl,h⟩
 ·cases e
 ·cases e
  rcases h with rfl | rfl <;> decide
theorem white_stop {p:UInt8 → Bool} (hp:∀ c,wh c = true → p c = false) {g t:Bs} (hg:white g) (ht:∀ c r,t = c :: r → p c = false):∀ c r,g ++ t = c :: r → p c = false:=by
 intro c r e
 cases g with
 | nil=>exact ht c r e
 | cons x g =>
  unfold white at hg
  rw [List.all_cons,Bool.and_eq_true] at hg
  rw [List.cons_append] at e
  cases e
  exact hp _ hg.1
theorem wh_wd (c:UInt8) (h:wh c = true):wd c = false:=by unfold wd; rw [h]; rfl
theorem wh_sg (c:UInt8) (h:wh c = true):sg c = false:=by
 cases hs:sg c
 ·rfl
 ·rw [sg_wh hs] at h; cases h
theorem as_atom {a:At} {l t:Bs} (hm:may a = true) (h:AtomAs a l) (ht:Ends t):atom (l ++ t) = some (a,t):=by
 obtain ⟨hn,hr⟩:=may_parts hm
 have hst:=ends_skip ht
 have hwt:∀ c r,t = c :: r → wd c = false:=fun c r e=>by
  rcases ht with rfl | ⟨c',r',rfl,h⟩
  ·cases e
  ·cases e
   rcases h with rfl | rfl <;> decide
 rcases h with ⟨h0,g,wg,rfl⟩ | ⟨h0,g1,g2,g3,g4,g5,w1,w2,w3,w4,w5,rfl⟩
 ·obtain ⟨e1,e2⟩:=tw_app wd a.1 (g ++ t) (nm_all hn) (white_stop wh_wd wg hwt)
  have e3:tk 40 (skip (g ++ t)) = none:=by
   rw [skip_w wg,hst]
   rcases ht with rfl | ⟨c',r',rfl,h⟩
   ·rfl
   ·exact tk_ne (by rcases h with rfl | rfl <;> decide) _
  have hz:a.2.2 = []:=by
   rcases hr with ⟨_,h⟩ | ⟨h,_⟩
   ·exact h
   ·exact absurd h0 h
  have ea:a = (a.1,0,[]):=by
   obtain ⟨x,y,z⟩:=a
   simp only at h0 hz
   rw [h0,hz]
  unfold atom
  rw [List.append_assoc,e1,e2,e3]
  simp only
  rw [← ea,if_pos hm,skip_w wg,hst]
 ·have hv:(1 ≤ a.2.1 ∧ a.2.1 ≤ 5) ∧ isV a.2.2 = true:=by
   rcases hr with ⟨h,_⟩ | ⟨_,h⟩
   ·exact absurd h h0
   ·exact h
  obtain ⟨vc,vr,hvc⟩:∃ c r,a.2.2 = c :: r:=by
   cases hx:a.2.2 with
   | nil=>exact absurd hx (ver_all hv.2).2.1
   | cons c r=>exact ⟨c,r,rfl⟩
  have hvw:=ver_wd hv.2
  have hvh:wd vc = true:=by rw [hvc,List.all_cons,Bool.and_eq_true] at hvw; exact hvw.1
  have hvs:sg vc = false:=by
   cases hs:sg vc
   ·rfl
   ·rw [sg_wd hs] at hvh; cases hvh
  have hvx:wh vc = false:=by
   cases hs:wh vc
   ·rfl
   ·rw [wh_wd _ hs] at hvh; cases hvh
  have hsn:∃ c r,sgnN a.2.1 = c :: r:=by
   cases hx:sgnN a.2.1 with
   | nil =>
    have:=rel_sgn _ hv.1
    rw [hx,rel_nil] at this
    exact absurd this.symm h0
   | cons c r=>exact ⟨c,r,rfl⟩
  have hss:=sgn_sg a.2.1
  have hrs:=rel_sgn _ hv.1
  have e1:=tw_app wd a.1 (g1 ++ 40 :: (g2 ++ (sgnN a.2.1 ++ (g3 ++ (a.2.2 ++ (g4 ++ 41 :: (g5 ++ t))))))) (nm_all hn) (white_stop wh_wd w1 fun c r e=>by cases e; decide)
  have e2:tk 40 (skip (g1 ++ 40 :: (g2 ++ (sgnN a.2.1 ++ (g3 ++ (a.2.2 ++ (g4 ++ 41 :: (g5 ++ t)))))))) = some (sgnN a.2.1 ++ (g3 ++ (a.2.2 ++ (g4 ++ 41 :: (g5 ++ t))))):=by
   rw [skip_w w1,skip_nw (l:=40 :: _) (fun c r e=>by cases e; decide),tk_cons,skip_w w2]
   congr 1
   refine skip_nw fun c r e=>?_
   obtain ⟨c',r',hc⟩:=hsn
   rw [hc] at e hss
   cases e
   rw [List.all_cons,Bool.and_eq_true] at hss
   exact sg_wh hss.1
  have e3:=tw_app sg (sgnN a.2.1) (g3 ++ (a.2.2 ++ (g4 ++ 41 :: (g5 ++ t)))) hss (white_stop wh_sg w3 fun c r e=>by rw [hvc] at e; cases e; exact hvs)
  have e4:skip (g3 ++ (a.2.2 ++ (g4 ++ 41 :: (g5 ++ t)))) = a.2.2 ++ (g4 ++ 41 :: (g5 ++ t)):=by
   rw [skip_w w3]
   exact skip_nw fun c r e=>by rw [hvc] at e; cases e; exact hvx
  have e5:=tw_app wd a.2.2 (g4 ++ 41 :: (g5 ++ t)) hvw (white_stop wh_wd w4 fun c r e=>by cases e; decide)
  have e6:tk 41 (skip (g4 ++ 41 :: (g5 ++ t))) = some t:=by
   rw [skip_w w4,skip_nw (l:=41 :: _) (fun c r e=>by cases e; decide),tk_cons,skip_w w5,hst]
  unfold atom
  simp only [List.append_assoc,List.cons_append]
  rw [e1.1,e1.2,e2]
  simp only
  rw [e3.1,e3.2,e4,e5.1,e5.2,e6,hrs,if_neg h0]
  simp only
  rw [show (a.1,a.2.1,a.2.2) = a from rfl,if_pos hm]
section
variable {α:Type}
inductive Its (P:α → Bs → Prop) (c:UInt8):List α → Bs → Prop
 | one {x:α} {l:Bs}:P x l → Its P c [x] l
 | more {x:α} {xs:List α} {l g m:Bs}:P x l → white g → Its P c xs m → Its P c (x :: xs) (l ++ c :: (g ++ m))
theorem its_white {P:α → Bs → Prop} (hP:∀ x l g,P x l → white g → P x (l ++ g)) {c:UInt8} {xs:List α} {l g:Bs} (h:Its P c xs l) (hg:white g):Its P c xs (l ++ g):=by
 induction h with
 | one h=>exact .one (hP _ _ _ h hg)
 | more h wg _ ih =>
  rw [List.append_assoc,List.cons_append,List.append_assoc]
  exact .more h wg ih
theorem its_head {P:α → Bs → Prop} (hP:∀ x l,P x l → ∃ c r,l = c :: r ∧ wh c = false) {c:UInt8} {xs:List α} {l:Bs} (h:Its P c xs l):∃ c r,l = c :: r ∧ wh c = false:=by
 cases h with
 | one h=>exact hP _ _ h
 | more h _ _ =>
  obtain ⟨c',r',e,hc⟩:=hP _ _ h
  exact ⟨c',_,by rw [e]; rfl,hc⟩
theorem head_skip {l:Bs} (h:∃ c r,l = c :: r ∧ wh c = false) (t:Bs):skip (l ++ t) = l ++ t:=skip_nw fun c r e=>by
 obtain ⟨c',r',rfl,hc⟩:=h
 cases e
 exact hc
theorem its_items {P:α → Bs → Prop} {rd:Bs → Except Int (α × Bs)} {c:UInt8} (hP:∀ x l,P x l → ∃ c r,l = c :: r ∧ wh c = false) (t:Bs) (ht:tk c t = none)
  (hrd:∀ x l u,P x l → (u = t ∨ ∃ r,u = c :: r) → rd (l ++ u) = .ok (x,u)) {xs:List α} {l:Bs} (h:Its P c xs l):∀ k,items rd c k (l ++ t) = if xs.length ≤ k then .ok (xs,t) else .error 12:=by
 induction h with
 | one h =>
  intro k
  cases k with
  | zero=>rfl
  | succ k =>
   unfold items
   rw [hrd _ _ t h (.inl rfl)]
   simp only
   rw [ht]
   simp
 | @more x xs l g m h wg hm ih =>
  intro k
  cases k with
  | zero=>rw [if_neg (by simp)]; rfl
  | succ k =>
   unfold items
   rw [List.append_assoc,List.cons_append,List.append_assoc,hrd _ _ _ h (.inr ⟨_,rfl⟩)]
   simp only
   rw [tk_cons,skip_w wg,head_skip (its_head hP hm)]
   simp only
   rw [ih k]
   by_cases hk:xs.length ≤ k
   ·rw [if_pos hk,if_pos (by simp; omega)]
   ·rw [if_neg hk,if_neg (by simp; omega)]
theorem its_whole {P:α → Bs → Prop} {rd:Bs → Except Int (α × Bs)} (hP:∀ x l,P x l → ∃ c r,l = c :: r ∧ wh c = false)
  (hrd:∀ x l u,P x l → (u = [] ∨ ∃ r,u = 44 :: r) → rd (l ++ u) = .ok (x,u)) {xs:List α} {g l:Bs} (hg:white g) (h:Its P 44 xs l):whole rd (g ++ l) = if xs.length ≤ 12 then .ok xs else .error 12:=by
 have h1:skip (g ++ l) = l:=by
  rw [skip_w hg]
  have:=head_skip (its_head hP h) []
  rwa [List.append_nil] at this
 unfold whole
 rw [h1]
 have h2:l ≠ []:=by
  obtain ⟨c,r,e,_⟩:=its_head hP h
  rw [e]
  simp
 have h3:=its_items hP [] rfl hrd h 12
 rw [List.append_nil] at h3
 rw [if_neg h2,h3]
 by_cases hk:xs.length ≤ 12
 ·rw [if_pos hk,if_pos hk]; simp
 ·rw [if_neg hk,if_neg hk]
theorem join_two (x y:Bs) (r:List Bs) (sep:Bs):Lib.join (x :: y :: r) sep = x ++ (sep ++ Lib.join (y :: r) sep):=by
 rw [Lib.join_cons,Lib.join_cons]
 simp [Lib.joinTail]
theorem join_its {P:α → Bs → Prop} (hP:∀ x l g,P x l → white g → P x (l ++ g)) {c:UInt8} {sep:Bs} (hs:∀ l,Wid sep l → ∃ g g',l = g ++ c :: g' ∧ white g ∧ white g') (f:α → Bs) :
  ∀ (xs:List α),xs ≠ [] → (∀ x ∈ xs,∀ l,Wid (f x) l → P x l) → ∀ l,Wid (Lib.join (xs.map f) sep) l → Its P c xs l
 | [],h,_,_,_=>absurd rfl h
 | [x],_,hx,l,hw=>.one (hx x (.head _) l (by rw [List.map_cons,List.map_nil,Lib.join_one] at hw; exact hw))
 | x :: y :: r,_,hx,l,hw=>by
  have e:Lib.join ((x :: y :: r).map f) sep = f x ++ (sep ++ Lib.join ((y :: r).map f) sep):=by
   exact join_two _ _ _ _
  rw [e] at hw
  obtain ⟨l1,l2,rfl,h1,h2⟩:=wid_split hw
  obtain ⟨l3,l4,rfl,h3,h4⟩:=wid_split h2
  obtain ⟨g,g',rfl,wg,wg'⟩:=hs _ h3
  have ih:=join_its hP hs f (y :: r) (by simp) (fun z hz=>hx z (.tail _ hz)) l4 h4
  rw [show l1 ++ (g ++ c :: g' ++ l4) = (l1 ++ g) ++ c :: (g' ++ l4) by simp]
  exact .more (hP _ _ _ (hx x (.head _) _ h1) wg) wg' ih
theorem wrt_ne {most:Nat} {sep:Bs} {f:α → Bs} {l:List α} (h:wrt most sep f l ≠ []):l ≠ [] ∧ l.length ≤ most ∧ (∀ x ∈ l,f x ≠ []) ∧ wrt most sep f l = Lib.join (l.map f) sep:=by
 unfold wrt at h ⊢
 by_cases h1:most < l.length
 ·rw [if_pos h1] at h; exact absurd rfl h
 ·rw [if_neg h1] at h ⊢
  by_cases h2:l.any (fun x=>(f x).isEmpty) = true
  ·rw [if_pos h2] at h; exact absurd rfl h
  ·rw [if_neg h2] at h ⊢
   refine ⟨?_,by omega,fun x hx e=>h2 ?_,rfl⟩
   ·rintro rfl; exact h rfl
   ·rw [List.any_eq_true]
    exact ⟨x,hx,by rw [e]; rfl⟩
end
theorem wAt_may {a:At} (h:wAt a ≠ []):may a = true ∧ wAt a = txA a:=by
 unfold wAt at h ⊢
 cases hm:may a with
 | true=>exact ⟨rfl,rfl⟩
 | false=>rw [hm] at h; exact absurd rfl h
def PA (a:At) (l:Bs):Prop:=may a = true ∧ AtomAs a l
def PC (c:List At) (l:Bs):Prop:=c.length ≤ 6 ∧ Its PA 124 c l
def PP (p:Pv) (l:Bs):Prop:=PA (pvA p) l
theorem PA.white {a:At} {l g:Bs} (h:PA a l) (hg:white g):PA a (l ++ g):=⟨h.1,atomAs_white h.2 hg⟩
theorem PA.head {a:At} {l:Bs} (h:PA a l):∃ c r,l = c :: r ∧ wh c = false:=atomAs_head h.1 h.2
theorem PC.white {c:List At} {l g:Bs} (h:PC c l) (hg:white g):PC c (l ++ g):=⟨h.1,its_white (fun _ _ _ h hg=>h.white hg) h.2 hg⟩
theorem PC.head {c:List At} {l:Bs} (h:PC c l):∃ c r,l = c :: r ∧ wh c = false:=its_head (fun _ _ h=>h.head) h.2
theorem PA.rd {a:At} {l t:Bs} (h:PA a l) (ht:Ends t):rdA (l ++ t) = .ok (a,t):=by
 unfold rdA
 rw [as_atom h.1 h.2 ht]
theorem ends44 {u:Bs} (h:u = [] ∨ ∃ r,u = 44 :: r):Ends u:=by
 rcases h with rfl | ⟨r,rfl⟩
 ·exact .inl rfl
 ·exact .inr ⟨_,_,rfl,.inl rfl⟩
theorem PC.rd {c:List At} {l t:Bs} (h:PC c l) (ht:t = [] ∨ ∃ r,t = 44 :: r):rdC (l ++ t) = .ok (c,t):=by
 unfold rdC
 rw [its_items (fun _ _ h=>h.head) t (by rcases ht with rfl | ⟨r,rfl⟩; · rfl
                                         ·exact tk_ne (by decide) _) (fun x m u hx hu=>hx.rd (by
  rcases hu with rfl | ⟨r,rfl⟩
  ·exact ends44 ht
  ·exact .inr ⟨_,_,rfl,.inr rfl⟩)) h.2 6,if_pos h.1]
theorem PP.rd {p:Pv} {l t:Bs} (h:PP p l) (ht:t = [] ∨ ∃ r,t = 44 :: r):rdP (l ++ t) = .ok (p,t):=by
 unfold rdP
 rw [PA.rd h (ends44 ht)]
 obtain ⟨x,y⟩:=p
 unfold prv pvA
 simp only
 by_cases hy:y = []
 ·subst hy; rfl
 ·rw [if_neg hy,if_pos (.inr rfl)]
theorem sep_at {l:Bs} (h:Wid [44,32] l):∃ g g',l = g ++ 44 :: g' ∧ white g ∧ white g':=by
 obtain ⟨l1,l2,rfl,h1,h2⟩:=wid_split (a:=[44]) (b:=[32]) h
 obtain ⟨g,g',rfl,w1,w2⟩:=wid_mark (by decide) h1
 exact ⟨g,g' ++ l2,by simp,w1,white_app w2 (wid_space h2)⟩
theorem sep_or {l:Bs} (h:Wid [32,124,32] l):∃ g g',l = g ++ 124 :: g' ∧ white g ∧ white g':=by
 obtain ⟨l1,l2,rfl,h1,h2⟩:=wid_split (a:=[32,124]) (b:=[32]) h
 obtain ⟨l3,l4,rfl,h3,h4⟩:=wid_split (a:=[32]) (b:=[124]) h1
 obtain ⟨g,g',rfl,w1,w2⟩:=wid_mark (by decide) h4
 exact ⟨l3 ++ g,g' ++ l2,by simp,white_app (wid_space h3) w1,white_app w2 (wid_space h2)⟩
theorem wAt_as {a:At} (h:wAt a ≠ []) {l:Bs} (hw:Wid (wAt a) l):PA a l:=by
 obtain ⟨hm,e⟩:=wAt_may h
 rw [e] at hw
 exact ⟨hm,txA_as hm hw⟩
theorem wCl_as {c:List At} (h:wCl c ≠ []) {l:Bs} (hw:Wid (wCl c) l):PC c l:=by
 obtain ⟨h1,h2,h3,h4⟩:=wrt_ne h
 rw [show wCl c = _ from h4] at hw
 exact ⟨h2,join_its (fun _ _ _ h hg=>PA.white h hg) (fun _ h=>sep_or h) wAt c h1 (fun a ha l hw=>wAt_as (h3 a ha) hw) l hw⟩
theorem clauses_its {xs:List (List At)} (h:xs ≠ []) (h3:∀ c ∈ xs,wCl c ≠ []) {l:Bs} (hw:Wid (Lib.join (xs.map wCl) [44,32]) l):Its PC 44 xs l :=
 join_its (fun _ _ _ h hg=>PC.white h hg) (fun _ h=>sep_at h) wCl xs h (fun a ha l hw=>wCl_as (h3 a ha) hw) l hw
theorem clauses_whole {xs:List (List At)} {g l:Bs} (hg:white g) (h:Its PC 44 xs l):whole rdC (g ++ l) = if xs.length ≤ 12 then .ok xs else .error 12 :=
 its_whole (fun _ _ h=>PC.head h) (fun x l u h hu=>PC.rd h hu) hg h
theorem text_back {xs:List (List At)} (h:text xs ≠ []) {l g g':Bs} (hw:Wid (text xs) l) (hg:white g) (hg':white g'):whole rdC (g ++ (l ++ g')) = .ok xs:=by
 obtain ⟨h1,h2,h3,h4⟩:=wrt_ne h
 rw [show text xs = _ from h4] at hw
 rw [clauses_whole hg (its_white (fun _ _ _ h hg=>PC.white h hg) (clauses_its h1 h3 hw) hg'),if_pos h2]
theorem text_own {xs:List (List At)} (h:text xs ≠ [] ∨ xs = []):whole rdC (text xs) = .ok xs:=by
 by_cases h0:xs = []
 ·subst h0; rfl
 ·have h1:=h.resolve_right h0
  have:=text_back h1 (wid_refl _) white_nil white_nil
  rwa [List.nil_append,List.append_nil] at this
theorem atoms_own {xs:List At} (h:atoms xs ≠ [] ∨ xs = []):whole rdA (atoms xs) = .ok xs:=by
 by_cases h0:xs = []
 ·subst h0; rfl
 ·obtain ⟨h1,h2,h3,h4⟩:=wrt_ne (h.resolve_right h0)
  have:=its_whole (g:=[]) (rd:=rdA) (fun _ _ h=>PA.head h) (fun x l u h hu=>PA.rd h (ends44 hu)) white_nil (join_its (fun _ _ _ h hg=>PA.white h hg) (fun _ h=>sep_at h) wAt xs h1 (fun a ha l hw=>wAt_as (h3 a ha) hw) _ (wid_refl _))
  rw [List.nil_append,if_pos h2] at this
  rw [show atoms xs = _ from h4]
  exact this
theorem provs_own {xs:List Pv} (h:provs xs ≠ [] ∨ xs = []):whole rdP (provs xs) = .ok xs:=by
 by_cases h0:xs = []
 ·subst h0; rfl
 ·obtain ⟨h1,h2,h3,h4⟩:=wrt_ne (h.resolve_right h0)
  have:=its_whole (g:=[]) (rd:=rdP) (P:=PP) (fun _ _ h=>PA.head h) (fun x l u h hu=>PP.rd h hu) white_nil (join_its (fun _ _ _ h hg=>PA.white h hg) (fun _ h=>sep_at h) (fun p=>wAt (pvA p)) xs h1 (fun a ha l hw=>wAt_as (h3 a ha) hw) _ (wid_refl _))
  rw [List.nil_append,if_pos h2] at this
  rw [show provs xs = _ from h4]
  exact this
end Rl
end Go.Proofs.YthmpepnikmdjpaaGreatDoor
namespace Go.Proofs.YthmpepnikmdjpaaGreatDoor
open Go.RowKit
set_option linter.unusedSimpArgs false
set_option linter.unusedVariables false
namespace Rl
open Ver (Bs li li_len li_drop S S_self S_of S_size S_li below_drewN empty_is empty_no MaxLen Signs)
section
variable {α:Type} {f:α → Bs} {sep:Bs} {xs:List α}
end
theorem s2:(⟨#[44,32]⟩:ByteArray).size = 2:=rfl
theorem s3:(⟨#[32,124,32]⟩:ByteArray).size = 3:=rfl
end Rl
end Go.Proofs.YthmpepnikmdjpaaGreatDoor
namespace Go.Proofs.YthmpepnikmdjpaaGreatDoor
open Go.RowKit
set_option linter.unusedSimpArgs false
set_option linter.unusedVariables false
namespace Rl
open Ver (Bs li li_len li_drop S S_self S_of S_size S_li below_drewN empty_is empty_no MaxLen Signs)
def ClCs (w:World) (l:List (List At)) (xs:List Value):Prop:=xs.length = l.length ∧ ∀ i,i < l.length → ∃ u,xs[i]? = some u ∧ Ats w u (l.getD i [])
theorem ClCs.nil (w:World):ClCs w [] []:=⟨rfl,fun i hi=>absurd hi (by simp)⟩
theorem ClCs.below {w w':World} {l:List (List At)} {xs:List Value} (h:ClCs w l xs) (hb:Below w.heap.size w w'):ClCs w' l xs:=⟨h.1,fun i hi=>by
 obtain ⟨u,h2,h3⟩:=h.2 i hi
 exact ⟨u,h2,h3.below hb⟩⟩
theorem ClCs.app {w:World} {l m:List (List At)} {xs ys:List Value} (h:ClCs w l xs) (k:ClCs w m ys):ClCs w (l ++ m) (xs ++ ys):=by
 refine ⟨by rw [List.length_append,h.1,k.1,List.length_append],fun i hi=>?_⟩
 have hx:=h.1
 rw [List.length_append] at hi
 by_cases hl:i < l.length
 ·obtain ⟨u,h2,h3⟩:=h.2 i hl
  have e:(l ++ m).getD i [] = l.getD i []:=by simp [List.getD,List.getElem?_append_left hl]
  rw [e,List.getElem?_append_left (by omega)]
  exact ⟨u,h2,h3⟩
 ·obtain ⟨u,h2,h3⟩:=k.2 (i - l.length) (by omega)
  have e:(l ++ m).getD i [] = m.getD (i - l.length) []:=by simp [List.getD,List.getElem?_append_right (show l.length ≤ i by omega)]
  rw [e,List.getElem?_append_right (by omega),hx]
  exact ⟨u,h2,h3⟩
end Rl
end Go.Proofs.YthmpepnikmdjpaaGreatDoor
namespace Go.Proofs.YthmpepnikmdjpaaGreatDoor
open Go.RowKit
set_option linter.unusedSimpArgs false
set_option linter.unusedVariables false
namespace Rl
open Ver (Bs li li_len li_drop S S_self S_of S_size S_li below_drewN empty_is empty_no MaxLen Signs)
def lightB (l:List (List At)):Bool:=decide (l.length ≤ 30) && l.all fun c=>decide (c.length ≤ 30)
theorem light_many {l:List (List At)} (h:30 < l.length):lightB l = false:=by
 unfold lightB
 rw [decide_eq_false (by omega)]
 rfl
theorem light_at {l:List (List At)} {i:Nat} (hi:i < l.length) (h:30 < (l.getD i []).length):lightB l = false:=by
 unfold lightB
 rw [Bool.and_eq_false_iff]
 right
 rw [List.all_eq_false]
 exact ⟨l[i],List.getElem_mem hi,by rw [show l[i] = l.getD i [] by simp [List.getD,List.getElem?_eq_getElem hi]]; simp only [decide_eq_true_eq]; omega⟩
theorem light_yes {l:List (List At)} (hl:l.length ≤ 30) (h:∀ i,i < l.length → (l.getD i []).length ≤ 30):lightB l = true:=by
 unfold lightB
 rw [decide_eq_true hl,Bool.true_and,List.all_eq_true]
 intro s hs
 obtain ⟨i,hi,rfl⟩:=List.mem_iff_getElem.1 hs
 have:=h i hi
 simpa [List.getD,List.getElem?_eq_getElem hi] using this
end Rl
end Go.Proofs.YthmpepnikmdjpaaGreatDoor
namespace Go.Proofs.YthmpepnikmdjpaaGreatDoor
open Go.RowKit
set_option linter.unusedSimpArgs false
set_option linter.unusedVariables false
namespace Rl
open Ver (Bs li li_len li_drop S S_self S_of S_size S_li below_drewN empty_is empty_no MaxLen Signs)
theorem infoText:(Tryz.prog.info? 9).map (fun i=>(i.zero,i.size,i.bytes)) = some (some (.string ByteArray.empty),1,16):=by kernel_rfl
def tcells (ps:List Bs):List Value:=(ps.map S).map Value.string
theorem tcells_app (ps:List Bs) (p:Bs):tcells (ps ++ [p]) = tcells ps ++ [.string (S p)]:=by unfold tcells; simp
set_option maxRecDepth 100000 in
set_option maxHeartbeats 4000000 in
theorem join_none (sep:Bs) (w:World):Calls Tryz.prog 151 #[.slice none 0 0,.string (S sep)] w fun e w'=>e = .returned (.string (S [])) ∧ w' = w:=by
 have hz:S [] = ⟨#[]⟩:=rfl
 rw [hz]
 go_enter Tryz.func151,Tryz.ntmps151
 go_wp2_with fail
 go_ret
 exact ⟨rfl,rfl⟩
theorem join_any (sep:Bs) (B:Nat) (v:Value) (ps:List Bs) (w:World) (h:w.ownsRow B 9 1 v ps.length (tcells ps)) (hn:ps.length ≤ 1000000) (hl:(Lib.join ps sep).length ≤ 140737488355328) :
  Calls Tryz.prog 151 #[v,.string (S sep)] w fun e w'=>e = .returned (.string (S (Lib.join ps sep))) ∧ Below w.heap.size w w':=by
 have hse:(S sep).data.toList = sep:=S_li sep
 by_cases h0:ps.length = 0
 ·obtain rfl:ps = []:=List.length_eq_zero_iff.1 h0
  rcases h.2 with ⟨rfl,_⟩ | ⟨g,cap,cur,rfl,hg,hh,hc,hm,hs,ht⟩
  ·exact (join_none sep w).mono fun e w' hh=>⟨hh.1,by rw [hh.2]; exact Below.refl _ _⟩
  ·have:=Tryz.strings_Join g 0 cap [] (S sep) w (fun j x hj=>by cases hj) (Array.getElem?_eq_some_iff.1 hh).1 (by simp) (by simp) (by simp [Lib.join])
   exact this
 ·obtain ⟨g,cap,rfl,hc⟩:=own_slice h (by omega)
  have hcell:∀ (j:Nat) x,(ps.map S)[j]? = some x → w.cell? ⟨g,0 + j,none⟩ = some (.string x):=fun j x hj=>by
   rw [Nat.zero_add]
   exact own_cell h (by unfold tcells; rw [List.getElem?_map,hj]; rfl)
  have hlt:=(own_lt h (k:=g) rfl).2
  have hmap:(ps.map S).map (fun t:ByteArray=>t.data.toList) = ps:=by
   rw [List.map_map]
   conv=>rhs; rw [← List.map_id ps]
   exact List.map_congr_left fun x _=>S_li x
  have:=Tryz.strings_Join g 0 cap (ps.map S) (S sep) w hcell hlt (by rw [List.length_map]; omega) (by rw [List.length_map]; exact hc) (by rw [hmap,hse]; exact hl)
  rw [hmap,hse,List.length_map] at this
  exact this
theorem take_one {α:Type} {l:List α} {z:α} {k:Nat} (h:k < l.length):l.take (k + 1) = l.take k ++ [l.getD k z]:=by
 rw [List.take_succ_eq_append_getElem h]
 simp [List.getD,List.getElem?_eq_getElem h]
theorem any_empty {α:Type} {f:α → Bs} {l:List α} {z:α} {k:Nat} (h:k < l.length) (he:f (l.getD k z) = []):(l.any fun x=>(f x).isEmpty) = true:=by
 rw [List.any_eq_true]
 exact ⟨_,mem_getD h,by rw [he]; rfl⟩
theorem any_full {α:Type} {f:α → Bs} {l:List α} {z:α} (h:∀ j,j < l.length → f (l.getD j z) ≠ []):(l.any fun x=>(f x).isEmpty) = false:=by
 rw [List.any_eq_false]
 intro x hx
 obtain ⟨j,hj,rfl⟩:=List.mem_iff_getElem.1 hx
 have:=h j hj
 simp only [List.getD,List.getElem?_eq_getElem hj,Option.getD_some] at this
 intro hc
 cases hq:f l[j] with
 | nil=>exact this hq
 | cons c t=>rw [hq] at hc; cases hc
set_option maxRecDepth 100000 in
set_option maxHeartbeats 4000000 in
theorem writeA_any (v:Value) (l:List At) (most:Nat) (sep:Bs) (w:World) (h:Ats w v l) (hL:LimA l) (hv:Vars w) (hm:most ≤ 12) (hsep:sep.length ≤ 3) :
  Calls Tryz.prog 255 #[v,.int .i64 most,.string (S sep),.func (.func 256) #[] #[]] w fun e w'=>e = .returned (.string (S (wrt most sep wAt l))) ∧ Below w.heap.size w w':=by
 obtain ⟨sa,cap,rfl⟩:=h.shape
 unfold wrt
 by_cases hmost:most < l.length
 ·rw [if_pos hmost]
  have hm':(most:Int) < (l.length:Int):=by omega
  have hz:S [] = ⟨#[]⟩:=rfl
  rw [hz]
  generalize l.length = n at *
  clear h hL hv
  go_enter Tryz.func255,Tryz.ntmps255
  go_wp2_with fail
  go_ret
  exact ⟨rfl,Below.refl _ _⟩
 ·rw [if_neg hmost]
  have hm':¬ (most:Int) < (l.length:Int):=by omega
  obtain ⟨G,hG⟩:∃ G,(if (l.any fun x=>(wAt x).isEmpty) = true then [] else Lib.join (l.map wAt) sep) = G:=⟨_,rfl⟩
  have HG:=Lib.hid hG
  rw [hG]
  have H:=Lib.hid h
  have HL:=Lib.hid hL
  have HV:=Lib.hid hv
  clear hG h hL hv
  obtain ⟨n,hn⟩:∃ n,l.length = n:=⟨_,rfl⟩
  have HN:=Lib.hid hn
  rw [hn] at hmost hm' ⊢
  clear hn
  go_enter Tryz.func255,Tryz.ntmps255
  go_wp2_with fail
  go_loopg [9,19] n (fun gf s9 s19 wx=>∃ (k:Nat) (pa:Option Addr) (cp:Nat),s9 = .slice pa k cp ∧ s19 = .int .i64 k ∧ wx.ownsRow w.heap.size 9 1 (.slice pa k cp) k (tcells ((l.take k).map wAt)) ∧ Below w.heap.size w wx ∧ Hid (∀ j,j < k → wAt (l.getD j nA) ≠ []) ∧ k ≤ n ∧ n ≤ k + gf)
  case atStart=>exact ⟨0,none,0,rfl,rfl,World.ownsRow_nil w _ _ 1,Below.refl _ _,fun j hj=>absurd hj (by omega),by omega,by omega⟩
  case round =>
   obtain ⟨k,pa,cp,rfl,rfl,hown,hbw,HE,hkn,hfu⟩:=hrel
   by_cases hlt:k < n
   ·obtain ⟨g',rfl⟩:∃ g',gk = g' + 1:=⟨gk - 1,by omega⟩
    have hlt':(k:Int) < (n:Int):=by omega
    have hk0:(0:Int) ≤ k:=by omega
    have hkl:k < l.length:=by rw [HN.out]; exact hlt
    obtain ⟨_,a',cap',e1,_,hcells⟩:=H.out.below hbw
    simp only [Value.slice.injEq,true_and] at e1
    obtain ⟨rfl,rfl⟩:=e1
    obtain ⟨kb,off,rfl,hcl2⟩:=hcells (by omega)
    obtain ⟨x0,x1,x2⟩:=hcl2 k hkl
    rw [Nat.mul_comm 3 k] at x0 x1 x2
    have hmem:=mem_getD (z:=nA) hkl
    have hlim:=HL.out _ hmem
    have htk:=take_one (z:=nA) hkl
    have hte:=fun h=>any_empty (f:=wAt) (z:=nA) hkl h
    have HTK:=Lib.hid htk
    have HTE:=Lib.hid hte
    have HOWN:=Lib.hid hown
    have HBW:=Lib.hid hbw
    have ca:=fun w hv=>atom_any (l.getD k nA) w (by omega) (by omega) hv
    unfold aV at ca
    generalize hx:l.getD k nA = x at *
    have HX:=Lib.hid hx
    clear hcl2 hcells hown hbw hmem hlim htk hte hx
    cases hw:wAt x with
    | nil =>
     rw [hw] at ca
     have hF:=HTE.out hw
     have hG:G = []:=by rw [← HG.out,if_pos hF]
     subst hG
     have he:(S []).toList.isEmpty = true:=isEmpty_S []
     have hz:S [] = ⟨#[]⟩:=rfl
     rw [hz] at ca he
     clear HG hF HTE HTK hw HL HX HE
     have hb2:=(Below.refl wr.heap.size wr).alloc (Nat.le_refl _) (.cells #[.string (S x.1),.int .i64 x.2.1,.string (S x.2.2)] 78)
     have HB2:=Lib.hid (HBW.out.trans (hb2.mono HBW.out.size))
     have HO2:=Lib.hid (Own.owns_below HOWN.out hb2)
     clear hb2 HBW HOWN
     go_wp2_with fail
     generalize wr.alloc (.cells #[.string (S x.1),.int .i64 x.2.1,.string (S x.2.2)] 78) = W at *
     refine (ca _ (HV.out.on HB2.out)).mono ?_
     rintro e w1 ⟨rfl,k1⟩
     have hb1:=HB2.out.trans (k1.mono HB2.out.size)
     go_wp2_with fail
     go_ret
     exact ⟨rfl,hb1⟩
    | cons c0 t0 =>
     rw [hw] at ca
     have he:(S (c0 :: t0)).toList.isEmpty = false:=isEmpty_S (c0 :: t0)
     have hE2:∀ j,j < k + 1 → wAt (l.getD j nA) ≠ []:=fun j hj=>by
      by_cases e:j = k
      ·rw [e,HX.out,hw]; simp
      ·exact HE.out j (by omega)
     have hT2:tcells ((l.take (k + 1)).map wAt) = tcells ((l.take k).map wAt) ++ [.string (S (c0 :: t0))]:=by
      rw [HTK.out,List.map_append,List.map_singleton,hw,tcells_app]
     have HE2:=Lib.hid hE2
     have HT2:=Lib.hid hT2
     have hk70:k + 1 ≤ 70000:=by omega
     clear HTE HTK hw HL HX HE hE2 hT2
     generalize S (c0 :: t0) = y at *
     have hb2:=(Below.refl wr.heap.size wr).alloc (Nat.le_refl _) (.cells #[.string (S x.1),.int .i64 x.2.1,.string (S x.2.2)] 78)
     have HB2:=Lib.hid (HBW.out.trans (hb2.mono HBW.out.size))
     have HO2:=Lib.hid (Own.owns_below HOWN.out hb2)
     clear hb2 HBW HOWN
     go_wp2_with fail
     generalize wr.alloc (.cells #[.string (S x.1),.int .i64 x.2.1,.string (S x.2.2)] 78) = W at *
     refine (ca _ (HV.out.on HB2.out)).mono ?_
     rintro e w1 ⟨rfl,k1⟩
     have hb3:=(Below.refl w1.heap.size w1).alloc (Nat.le_refl _) (.cells #[.string y] 9)
     have hc3:=(Blk.Is.new w1 9 #[.string y]).at (i:=0) rfl
     obtain ⟨W3,hW3⟩:∃ W3,w1.alloc (.cells #[.string y] 9) = W3:=⟨_,rfl⟩
     rw [hW3] at hb3 hc3
     have HW3:=Lib.hid hW3
     have HC3:=Lib.hid hc3
     have HO3:=Lib.hid (Own.owns_below (Own.owns_below HO2.out k1) hb3)
     have HB3:=Lib.hid ((HB2.out.trans (k1.mono HB2.out.size)).trans (hb3.mono (HB2.out.trans (k1.mono HB2.out.size)).size))
     have HSZ:=Lib.hid HB3.out.size
     clear hW3 hc3 hb3 k1 HB2 HO2 ca
     go_wp2_with (at_builtin; rw [HW3.out]; refine append_el Tryz.underlying41 infoText rfl (by decide) rfl (.tmp 28) (.tmp 30) rfl w.heap.size (.slice pa k cp) k (tcells ((l.take k).map wAt)) rfl HO3.out w1.heap.size 1 rfl [.string y] rfl (one_cell HC3.out) (fun u hu=>by simp only [List.mem_singleton] at hu; rw [hu]; rfl) hk70 HSZ.out ?_; intro v' w4 h4 h5; have hb4:=Own.below_grown HB3.out HO3.out h5 HSZ.out; obtain ⟨a4,c4,rfl,_⟩:=own_shape h4; rw [← HT2.out] at h4; have H4:=Lib.hid h4; have HB4:=Lib.hid hb4; clear h4 h5 hb4 HW3 HC3 HO3 HB3)
     go_roundg g'
     case measure=>omega
     case rel=>exact ⟨k + 1,a4,c4,rfl,by go_num,H4.out,HB4.out,HE2.out,by omega,by omega⟩
   ·have hge:¬ (k:Int) < (n:Int):=by omega
    obtain rfl:k = n:=by omega
    have hfull:(l.any fun x=>(wAt x).isEmpty) = false:=any_full (z:=nA) fun j hj=>HE.out j (by rw [← HN.out]; exact hj)
    have hG:G = Lib.join (l.map wAt) sep:=by rw [← HG.out,if_neg (by rw [hfull]; simp)]
    have hps:(l.take k).map wAt = l.map wAt:=by rw [List.take_of_length_le (by rw [HN.out]; exact Nat.le_refl _)]
    rw [hps] at hown
    have hlen:(l.map wAt).length = k:=by rw [List.length_map]; exact HN.out
    have hjl:(Lib.join (l.map wAt) sep).length ≤ 140737488355328:=by
     have h1:=join_len sep 78 (l.map wAt) fun x hx=>by
      obtain ⟨a,_,rfl⟩:=List.mem_map.1 hx
      exact wAt_len a
     have h2:(l.map wAt).length * (78 + sep.length) ≤ 12 * 81:=Nat.mul_le_mul (by rw [hlen]; omega) (by omega)
     omega
    have cj:=join_any sep w.heap.size (.slice pa k cp) (l.map wAt) wr (by rw [hlen]; exact hown) (by rw [hlen]; omega) hjl
    rw [← hG] at cj
    clear HG hfull hps hlen hjl hown HE HL hG
    have HBW:=Lib.hid hbw
    clear hbw
    go_wp2_with fail
    refine cj.mono ?_
    rintro e w1 ⟨rfl,k1⟩
    have hb1:=HBW.out.trans (k1.mono HBW.out.size)
    go_wp2_with fail
    go_ret
    exact ⟨rfl,hb1⟩
end Rl
end Go.Proofs.YthmpepnikmdjpaaGreatDoor

/-
readList of atoms. The reader of package relation: a clause, what is provided. readList of what is provided. readList of clauses. Atoms, clauses, provides in memory, read alone. A region that draws its order: whatever class of worlds its first operations keep, its last ones in the order of the text. No program is named here.
-/
import Derived.Test.YtmhpjjjjgakpiaaGreatDoorCRelOwn
import Derived.Test.YtmhpjjjjgakpiaaGreatDoorCRelDef
import Derived.StillTail
import Derived.BigQuiet
import Derived.Deep.MidRow
import Derived.Below
namespace Go.Proofs.YtmhpjjjjgakpiaaGreatDoor
open Go.RowKit
set_option linter.unusedSimpArgs false
set_option linter.unusedVariables false
namespace Rl
open Ver (Bs S)
def acell (a:At):List Value:=[.string (S a.1),.int .i64 a.2.1,.string (S a.2.2)]
def acells (l:List At):List Value:=l.flatMap acell
def pre {α:Type} (ds:List α):Except Int (List α × Bs) → Except Int (List α × Bs)
 | .error e=>.error e
 | .ok (xs,r)=>.ok (ds ++ xs,r)
end Rl
end Go.Proofs.YtmhpjjjjgakpiaaGreatDoor
namespace Go.Proofs.YtmhpjjjjgakpiaaGreatDoor
open Go.RowKit
set_option linter.unusedSimpArgs false
set_option linter.unusedVariables false
namespace Rl
open Ver (Bs S)
def pV (a:Pv):Value:=.agg #[.string (S a.1),.string (S a.2)]
end Rl
end Go.Proofs.YtmhpjjjjgakpiaaGreatDoor
namespace Go.Proofs.YtmhpjjjjgakpiaaGreatDoor
open Go.RowKit
set_option linter.unusedSimpArgs false
set_option linter.unusedVariables false
namespace Rl
open Ver (Bs S)
def pcell (a:Pv):List Value:=[.string (S a.1),.string (S a.2)]
def pcells (l:List Pv):List Value:=l.flatMap pcell
end Rl
end Go.Proofs.YtmhpjjjjgakpiaaGreatDoor
namespace Go.Proofs.YtmhpjjjjgakpiaaGreatDoor
open Go.RowKit
set_option linter.unusedSimpArgs false
set_option linter.unusedVariables false
namespace Rl
open Ver (Bs S)
theorem atoms_ne_clauses:(54:TypeId) ≠ 47:=by decide
def Cls (w:World) (B:Nat) (vs:List Value) (xs:List (List At)):Prop :=
 vs.length = xs.length ∧ ∀ i,i < xs.length → w.ownsRow B 54 3 (vs.getD i undef) (xs.getD i []).length (acells (xs.getD i []))
theorem Cls.nil (w:World) (B:Nat):Cls w B [] []:=⟨rfl,fun i hi=>absurd hi (by simp)⟩
theorem Cls.chg {w w':World} {B:Nat} {vs:List Value} {xs:List (List At)} {Q:Nat → Prop} (h:Cls w B vs xs) (hc:Blk.Chg Q w w') (hn:∀ u n ys,w.ownsRow B 54 3 u n ys → ∀ k,u.ownBlock = some k → ¬ Q k):Cls w' B vs xs :=
 ⟨h.1,fun i hi=>hc.owns (h.2 i hi) fun k hk=>hn _ _ _ (h.2 i hi) k hk⟩
theorem Cls.one {w w':World} {B p:Nat} {vs:List Value} {xs:List (List At)} (h:Cls w B vs xs) (hc:Blk.Chg (fun k=>k = p) w w') (hp:p < B):Cls w' B vs xs:=h.chg hc fun u n ys ho k hk e=>by have:=own_lt ho hk; omega
theorem Cls.below {w w':World} {B:Nat} {vs:List Value} {xs:List (List At)} (h:Cls w B vs xs) (hb:Below w.heap.size w w'):Cls w' B vs xs:=h.chg (Q:=fun _=>False) (Blk.Chg.ofBelow' hb) fun _ _ _ _ _ _ h=>h
theorem Cls.grown {w w':World} {B:Nat} {vs:List Value} {xs:List (List At)} {v:Value} {n:Nat} {ys:List Value} (h:Cls w B vs xs) (hown:w.ownsRow B 47 1 v n ys) (hg:w.grownBy w' v.ownBlock):Cls w' B vs xs :=
 h.chg (Q:=fun k=>v.ownBlock = some k) (Blk.Chg.grown (Blk.Chg.refl _ w) hg fun k hk _=>hk) fun u n ys ho k hk hk'=>own_ne ho hown atoms_ne_clauses k hk hk'
theorem Cls.mono {w:World} {B B':Nat} {vs:List Value} {xs:List (List At)} (h:Cls w B vs xs) (hB:B' ≤ B):Cls w B' vs xs:=⟨h.1,fun i hi=>own_mono (h.2 i hi) hB⟩
theorem Cls.more {w:World} {B:Nat} {vs:List Value} {xs:List (List At)} {v:Value} {x:List At} (h:Cls w B vs xs) (hx:w.ownsRow B 54 3 v x.length (acells x)):Cls w B (vs ++ [v]) (xs ++ [x]):=by
 refine ⟨by simp [h.1],fun i hi=>?_⟩
 rw [List.length_append] at hi
 by_cases e:i < xs.length
 ·have:=h.2 i e
  have e1:(vs ++ [v]).getD i undef = vs.getD i undef:=by simp [List.getD,List.getElem?_append_left (show i < vs.length by rw [h.1]; exact e)]
  have e2:(xs ++ [x]).getD i [] = xs.getD i []:=by simp [List.getD,List.getElem?_append_left e]
  rw [e1,e2]; exact this
 ·have hi':i = xs.length:=by simp at hi; omega
  subst hi'
  have e1:(vs ++ [v]).getD xs.length undef = v:=by rw [← h.1]; simp [List.getD]
  have e2:(xs ++ [x]).getD xs.length [] = x:=by simp [List.getD]
  rw [e1,e2]; exact hx
theorem one_cell {w:World} {k:Nat} {v:Value} (h:w.cell? ⟨k,0,none⟩ = some v):∀ (j:Nat) u,[v][j]? = some u → w.cell? ⟨k,j,none⟩ = some u:=by
 intro j u hj
 have:=(List.getElem?_eq_some_iff.1 hj).1
 have hj0:j = 0:=by simp at this; exact this
 subst hj0
 simp at hj
 rw [← hj]; exact h
end Rl
end Go.Proofs.YtmhpjjjjgakpiaaGreatDoor
namespace Go.Proofs.YtmhpjjjjgakpiaaGreatDoor
open Go.RowKit
set_option linter.unusedSimpArgs false
set_option linter.unusedVariables false
namespace Rl
open Ver (Bs S)
def nA:At:=([],0,[])
def nP:Pv:=([],[])
def AtAt (w:World) (k o:Nat) (a:At):Prop:=w.cell? ⟨k,o,none⟩ = some (.string (S a.1)) ∧ w.cell? ⟨k,o + 1,none⟩ = some (.int .i64 a.2.1) ∧ w.cell? ⟨k,o + 2,none⟩ = some (.string (S a.2.2))
def PvAt (w:World) (k o:Nat) (a:Pv):Prop:=w.cell? ⟨k,o,none⟩ = some (.string (S a.1)) ∧ w.cell? ⟨k,o + 1,none⟩ = some (.string (S a.2))
def Slc {α:Type} (sz:Nat) (z:α) (P:World → Nat → Nat → α → Prop) (w:World) (v:Value) (l:List α):Prop :=
 l.length ≤ 1152921504606846976 ∧ ∃ a cap,v = .slice a l.length cap ∧ l.length ≤ cap ∧ (0 < l.length → ∃ k off,a = some ⟨k,off,none⟩ ∧ ∀ i,i < l.length → P w k (off + sz * i) (l.getD i z))
def Ats:World → Value → List At → Prop:=Slc 3 nA AtAt
def Pvs:World → Value → List Pv → Prop:=Slc 2 nP PvAt
def ClAt (w:World) (k o:Nat) (c:List At):Prop:=∃ u,w.cell? ⟨k,o,none⟩ = some u ∧ Ats w u c
def Clss:World → Value → List (List At) → Prop:=Slc 1 [] ClAt
theorem Slc.below {α:Type} {sz:Nat} {z:α} {P:World → Nat → Nat → α → Prop} (hP:∀ w w' k o x,P w k o x → Below w.heap.size w w' → P w' k o x) {w w':World} {v:Value} {l:List α} (h:Slc sz z P w v l) (hb:Below w.heap.size w w'):Slc sz z P w' v l:=by
 obtain ⟨h0,a,cap,h1,h2,h3⟩:=h
 refine ⟨h0,a,cap,h1,h2,fun hl=>?_⟩
 obtain ⟨k,off,h4,h5⟩:=h3 hl
 exact ⟨k,off,h4,fun i hi=>hP _ _ _ _ _ (h5 i hi) hb⟩
theorem cell_on {w w':World} {p:Addr} {v:Value} (h:w.cell? p = some v) (hb:Below w.heap.size w w'):w'.cell? p = some v:=by rw [hb.cell (Ver.lt_cell h)]; exact h
theorem AtAt.below {w w':World} {k o:Nat} {a:At} (h:AtAt w k o a) (hb:Below w.heap.size w w'):AtAt w' k o a:=⟨cell_on h.1 hb,cell_on h.2.1 hb,cell_on h.2.2 hb⟩
theorem PvAt.below {w w':World} {k o:Nat} {a:Pv} (h:PvAt w k o a) (hb:Below w.heap.size w w'):PvAt w' k o a:=⟨cell_on h.1 hb,cell_on h.2 hb⟩
theorem Ats.below {w w':World} {v:Value} {l:List At} (h:Ats w v l) (hb:Below w.heap.size w w'):Ats w' v l:=Slc.below (fun _ _ _ _ _ h hb=>h.below hb) h hb
theorem Pvs.below {w w':World} {v:Value} {l:List Pv} (h:Pvs w v l) (hb:Below w.heap.size w w'):Pvs w' v l:=Slc.below (fun _ _ _ _ _ h hb=>h.below hb) h hb
theorem ClAt.below {w w':World} {k o:Nat} {c:List At} (h:ClAt w k o c) (hb:Below w.heap.size w w'):ClAt w' k o c:=by
 obtain ⟨u,h1,h2⟩:=h
 exact ⟨u,cell_on h1 hb,h2.below hb⟩
theorem Clss.below {w w':World} {v:Value} {l:List (List At)} (h:Clss w v l) (hb:Below w.heap.size w w'):Clss w' v l:=Slc.below (fun _ _ _ _ _ h hb=>h.below hb) h hb
theorem Slc.shape {α:Type} {sz:Nat} {z:α} {P:World → Nat → Nat → α → Prop} {w:World} {v:Value} {l:List α} (h:Slc sz z P w v l):∃ a cap,v = .slice a l.length cap:=by
 obtain ⟨_,a,cap,h1,_⟩:=h
 exact ⟨a,cap,h1⟩
theorem Slc.none {α:Type} (sz:Nat) (z:α) (P:World → Nat → Nat → α → Prop) (w:World):Slc sz z P w (.slice none 0 0) []:=⟨by simp,_,_,rfl,Nat.le_refl _,fun h=>absurd h (by simp)⟩
theorem flat_at {α:Type} (f:α → List Value) (m:Nat) (hf:∀ x,(f x).length = m):∀ (l:List α) (i j:Nat) (x:α),l[i]? = some x → j < m → (l.flatMap f)[m * i + j]? = (f x)[j]?
 | [],i,j,x,h,_=>by simp at h
 | y :: l,0,j,x,h,hj=>by
  simp at h
  subst h
  rw [List.flatMap_cons,Nat.mul_zero,Nat.zero_add,List.getElem?_append_left (by rw [hf]; exact hj)]
 | y :: l,i + 1,j,x,h,hj=>by
  simp at h
  rw [List.flatMap_cons,List.getElem?_append_right (by rw [hf,Nat.mul_add]; omega),hf,show m * (i + 1) + j - m = m * i + j by rw [Nat.mul_add]; omega]
  exact flat_at f m hf l i j x h hj
theorem at_getD {α:Type} {l:List α} {z:α} {i:Nat} (hi:i < l.length):l[i]? = some (l.getD i z):=by simp [List.getD,List.getElem?_eq_getElem hi]
theorem own_ats {w:World} {B:Nat} {v:Value} {l:List At} (h:w.ownsRow B 54 3 v l.length (acells l)) (hl:l.length ≤ 1152921504606846976):Ats w v l:=by
 obtain ⟨a,cap,rfl,hc⟩:=own_shape h
 refine ⟨hl,a,cap,rfl,hc,fun h0=>?_⟩
 obtain ⟨g,cap',e,_⟩:=own_slice h h0
 simp only [Value.slice.injEq,true_and] at e
 obtain ⟨rfl,rfl⟩:=e
 refine ⟨g,0,rfl,fun i hi=>?_⟩
 have hx:=at_getD (z:=nA) hi
 have hf:=flat_at acell 3 (fun x=>rfl) l i
 rw [Nat.zero_add]
 exact ⟨own_cell h (hf 0 _ hx (by omega)),own_cell h (hf 1 _ hx (by omega)),own_cell h (hf 2 _ hx (by omega))⟩
theorem own_pvs {w:World} {B:Nat} {v:Value} {l:List Pv} (h:w.ownsRow B 101 2 v l.length (pcells l)) (hl:l.length ≤ 1152921504606846976):Pvs w v l:=by
 obtain ⟨a,cap,rfl,hc⟩:=own_shape h
 refine ⟨hl,a,cap,rfl,hc,fun h0=>?_⟩
 obtain ⟨g,cap',e,_⟩:=own_slice h h0
 simp only [Value.slice.injEq,true_and] at e
 obtain ⟨rfl,rfl⟩:=e
 refine ⟨g,0,rfl,fun i hi=>?_⟩
 have hx:=at_getD (z:=nP) hi
 have hf:=flat_at pcell 2 (fun x=>rfl) l i
 rw [Nat.zero_add]
 exact ⟨own_cell h (hf 0 _ hx (by omega)),own_cell h (hf 1 _ hx (by omega))⟩
theorem own_clss {w:World} {B B':Nat} {v:Value} {vs:List Value} {l:List (List At)} (h:w.ownsRow B 47 1 v l.length vs) (hc:Cls w B' vs l) (hl:l.length ≤ 1152921504606846976) (hl2:∀ c ∈ l,c.length ≤ 1152921504606846976):Clss w v l:=by
 obtain ⟨a,cap,rfl,hcap⟩:=own_shape h
 refine ⟨hl,a,cap,rfl,hcap,fun h0=>?_⟩
 obtain ⟨g,cap',e,_⟩:=own_slice h h0
 simp only [Value.slice.injEq,true_and] at e
 obtain ⟨rfl,rfl⟩:=e
 refine ⟨g,0,rfl,fun i hi=>?_⟩
 have hv:i < vs.length:=by rw [hc.1]; exact hi
 rw [Nat.zero_add,Nat.one_mul]
 refine ⟨_,own_cell h (at_getD (z:=undef) hv),own_ats (hc.2 i hi) (hl2 _ ?_)⟩
 simp [List.getD,List.getElem?_eq_getElem hi]
def LimA (l:List At):Prop:=∀ a ∈ l,a.1.length ≤ 140737488351232 ∧ a.2.2.length ≤ 140737488351232
def LimP (l:List Pv):Prop:=∀ a ∈ l,a.1.length ≤ 140737488351232 ∧ a.2.length ≤ 140737488351232
def LimC (l:List (List At)):Prop:=∀ c ∈ l,LimA c
theorem mem_getD {α:Type} {l:List α} {z:α} {i:Nat} (hi:i < l.length):l.getD i z ∈ l:=by simp [List.getD,List.getElem?_eq_getElem hi]
end Rl
end Go.Proofs.YtmhpjjjjgakpiaaGreatDoor
namespace Go.Proofs.YtmhpjjjjgakpiaaGreatDoor
open Go.RowKit
namespace Reg
section
variable {P:Program} {ops:Array Oper} {md:Region.Mode} {C:World → Prop}

end
section
variable {P:Program} {ops:Array Oper} {md:Region.Mode} {C:World → Prop}

def midK (K:Act → World → Prop) (Q:Exit → Act → World → Prop):Exit → Act → World → Prop
 | .normal,a,w=>K a w
 | e,a,w=>Q e a w
theorem LetsOut.ofMidK {Q:Exit → Act → World → Prop} {K:Act → World → Prop} (h:LetsOut (midK K Q)):LetsOut Q:=by
 obtain ⟨a,w,h⟩:=h; exact ⟨a,w,h⟩
theorem upon_midK {Q:Exit → Act → World → Prop} {K K':Act → World → Prop} {o:Oper} {a:Act} {r:Result Next} (h:o.upon P a K' (midK K Q) r):o.upon P a K' Q r:=by
 cases r with
 | ok x w' =>
  cases x <;> simp only [Oper.upon] at h ⊢
  case enter f args =>
   refine Calls.mono h fun e w'' he=>?_
   cases e with
   | returned v=>exact he
   | panicked c=>exact he
   | outgrown=>exact LetsOut.ofMidK he
  all_goals exact h
 | halt x w' =>
  cases x <;> simp only [Oper.upon] at h ⊢
  all_goals exact h
theorem wpOp_list {i:Nat} {o:Oper} {Q:Exit → Act → World → Prop} {K:Act → World → Prop} {a:Act} {w:World} (ho:ops[i]? = some o) (h:wpList P ops (midK K Q) [o] a w):wpOp P ops Q i K a w:=by
 unfold wpOp
 simp only [ho]
 simp only [wpList] at h
 split
 ·rename_i hw
  rw [if_pos hw] at h
  rcases h with h | ⟨h1,h2⟩
  ·exact .inl (upon_midK h)
  ·exact .inr ⟨h1,LetsOut.ofMidK h2⟩
 ·rename_i hw
  rw [if_neg hw] at h
  exact h
end
end Reg
end Go.Proofs.YtmhpjjjjgakpiaaGreatDoor

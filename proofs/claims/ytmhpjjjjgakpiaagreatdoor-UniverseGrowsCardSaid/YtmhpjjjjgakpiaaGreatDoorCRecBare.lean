/-
The reference's names: put where they belong, each once, rising. The mathematics of states: what is wrong with entries, which wholes are healthy. The mathematics of states: which wholes are healthy; what fewer relations, holds make of what is wrong. The packages of entries: the law's bare.
-/
import Derived.Test.YtmhpjjjjgakpiaaGreatDoorCIxIns
import Derived.Test.YtmhpjjjjgakpiaaGreatDoorCIxSat
import Derived.Test.YtmhpjjjjgakpiaaGreatDoorCRecMay
import Derived.Test.YtmhpjjjjgakpiaaGreatDoorCIxDef
import Derived.Test.YtmhpjjjjgakpiaaGreatDoorCRecAll2
namespace Go.Proofs.YtmhpjjjjgakpiaaGreatDoor
open Go.RowKit
set_option linter.unusedSimpArgs false
set_option linter.unusedVariables false
namespace Ix
open Ver (Bs Tri orr sgn)
open Go.Sort
def below (nm x:Bs):Bool:=decide (Lib.compareBytes x nm < 0)
def slotN (nm:Bs) (l:List Bs):Nat:=(l.takeWhile (below nm)).length
def insN (nm:Bs) (l:List Bs):List Bs:=if l[slotN nm l]? = some nm then l else l.take (slotN nm l) ++ [nm] ++ l.drop (slotN nm l)
def insNs:List Bs → List Bs → List Bs
 | [],out=>out
 | p :: r,out=>insNs r (insN p out)
theorem insNs_snoc:∀ (l:List Bs) (p:Bs) (out:List Bs),insNs (l ++ [p]) out = insN p (insNs l out)
 | [],p,out=>rfl
 | q :: r,p,out=>insNs_snoc r p (insN q out)
theorem takeN (nm:Bs) (l:List Bs):l.take (slotN nm l) = l.takeWhile (below nm):=by
 unfold slotN
 exact (List.prefix_iff_eq_take.1 (List.takeWhile_prefix _)).symm
theorem dropN (nm:Bs) (l:List Bs):l.drop (slotN nm l) = l.dropWhile (below nm):=by
 have h:=List.takeWhile_append_dropWhile (p:=below nm) (l:=l)
 have e:(l.takeWhile (below nm) ++ l.dropWhile (below nm)).drop (slotN nm l) = l.dropWhile (below nm):=by
  unfold slotN
  exact List.drop_left
 rwa [h] at e
theorem insN_mem (nm:Bs) (l:List Bs) (x:Bs):x ∈ insN nm l ↔ x = nm ∨ x ∈ l:=by
 unfold insN
 split
 ·rename_i h
  constructor
  ·exact .inr
  ·rintro (rfl | h1)
   ·exact List.mem_of_getElem? h
   ·exact h1
 ·have e:x ∈ l ↔ x ∈ l.take (slotN nm l) ∨ x ∈ l.drop (slotN nm l):=by
   rw [← List.mem_append,List.take_append_drop]
  rw [List.mem_append,List.mem_append,List.mem_singleton,e]
  constructor
  ·rintro ((h | h) | h)
   ·exact .inr (.inl h)
   ·exact .inl h
   ·exact .inr (.inr h)
  ·rintro (h | h | h)
   ·exact .inl (.inr h)
   ·exact .inl (.inl h)
   ·exact .inr h
def Up (l:List Bs):Prop:=l.Pairwise fun a b=>Lib.compareBytes a b < 0
theorem up_ins {nm:Bs} {l:List Bs} (h:Up l):Up (insN nm l):=by
 unfold insN
 split
 ·exact h
 ·rename_i hne
  unfold Up at h ⊢
  have hsplit:=List.takeWhile_append_dropWhile (p:=below nm) (l:=l)
  have h0:=h
  rw [← hsplit,List.pairwise_append] at h
  obtain ⟨h1,h2,h3⟩:=h
  rw [takeN,dropN]
  have ht:∀ x ∈ l.takeWhile (below nm),Lib.compareBytes x nm < 0:=fun x hx=>by
   have:=List.all_eq_true.1 (List.all_takeWhile (l:=l) (p:=below nm)) x hx
   unfold below at this
   simpa using this
  have hd:∀ x ∈ l.dropWhile (below nm),Lib.compareBytes nm x < 0:=by
   cases hdw:l.dropWhile (below nm) with
   | nil=>intro x hx; cases hx
   | cons y r =>
    have hy:¬ below nm y = true:=by
     have:=List.head_dropWhile_not (p:=below nm) (l:=l) (by rw [hdw]; simp)
     simpa [hdw] using this
    have hyn:y ≠ nm:=fun e=>by
     apply hne
     have:(l.drop (slotN nm l))[0]? = some y:=by rw [dropN,hdw]; rfl
     rw [List.getElem?_drop,Nat.add_zero] at this
     rw [this,e]
    have hy2:Lib.compareBytes nm y < 0:=by
     unfold below at hy
     rw [decide_eq_true_eq] at hy
     have t:=cb_turn nm y
     have z:Lib.compareBytes nm y ≠ 0:=fun e=>hyn (cb_zero e).symm
     omega
    intro x hx
    rcases List.mem_cons.1 hx with rfl | hx
    ·exact hy2
    ·rw [hdw,List.pairwise_cons] at h2
     have hyx:=h2.1 x hx
     have t:=cb_tri nm y x
     have a1:=one_cb nm y
     have a2:=one_cb y x
     unfold Tri One at *
     omega
  rw [List.append_assoc,List.pairwise_append]
  refine ⟨h1,?_,fun x hx y hy=>?_⟩
  ·rw [List.singleton_append,List.pairwise_cons]
   exact ⟨hd,h2⟩
  ·rw [List.singleton_append,List.mem_cons] at hy
   rcases hy with rfl | hy
   ·exact ht x hx
   ·exact h3 x hx y hy
theorem insNs_up:∀ (l out:List Bs),Up out → Up (insNs l out)
 | [],_,h=>h
 | p :: r,out,h=>insNs_up r _ (up_ins h)
theorem insNs_mem:∀ (l out:List Bs) (x:Bs),x ∈ insNs l out ↔ x ∈ l ∨ x ∈ out
 | [],out,x=>by unfold insNs; simp
 | p :: r,out,x=>by
  unfold insNs
  rw [insNs_mem r,insN_mem,List.mem_cons]
  constructor
  ·rintro (h | h | h)
   ·exact .inl (.inr h)
   ·exact .inl (.inl h)
   ·exact .inr h
  ·rintro ((h | h) | h)
   ·exact .inr (.inl h)
   ·exact .inl h
   ·exact .inr (.inr h)
theorem up_nodup {l:List Bs} (h:Up l):l.Nodup:=h.imp fun {a b} hab e=>by
 subst e
 rw [cb_self] at hab
 omega
theorem lt_cb:∀ a b:Bs,a < b ↔ Lib.compareBytes a b < 0
 | [],[]=>by rw [cb_nn]; simp
 | [],y :: b=>by rw [cb_nc]; simp
 | x :: a,[]=>by rw [cb_cn]; simp
 | x :: a,y :: b=>by
  rw [cb_cc,List.cons_lt_cons_iff,lt_cb a b]
  rcases Nat.lt_trichotomy x.toNat y.toNat with h | h | h
  ·have e:sgn (x.toNat:Int) (y.toNat:Int) = -1:=by unfold sgn; rw [if_pos (by omega)]
   have h1:x < y:=h
   rw [e]
   simp [h1,orr]
  ·have e:sgn (x.toNat:Int) (y.toNat:Int) = 0:=by unfold sgn; rw [if_neg (by omega),if_neg (by omega)]
   have h1:x = y:=UInt8.toNat_inj.1 h
   subst h1
   rw [e]
   simp [orr]
  ·have e:sgn (x.toNat:Int) (y.toNat:Int) = 1:=by unfold sgn; rw [if_neg (by omega),if_pos (by omega)]
   have h1:¬ x < y:=fun hh=>by have:x.toNat < y.toNat:=hh; omega
   have h2:¬ x = y:=fun hh=>by rw [hh] at h; omega
   rw [e]
   simp [h1,h2,orr]
theorem le_cb (a b:Bs):a ≤ b ↔ Lib.compareBytes a b ≤ 0:=by
 rw [← List.not_lt,lt_cb]
 have:=cb_turn a b
 omega
theorem names_one {ns l:List Bs} (hn:ns.Nodup) (hm:∀ x,x ∈ ns ↔ x ∈ l):insNs l [] = rising ns:=by
 have hu:Up (insNs l []):=insNs_up l [] List.Pairwise.nil
 have hp:(insNs l []).Perm (rising ns):=by
  refine List.Perm.trans ?_ (List.mergeSort_perm ns leB).symm
  refine (List.perm_ext_iff_of_nodup (up_nodup hu) hn).2 fun x=>?_
  rw [insNs_mem,hm x]
  simp
 have tr:∀ a b c:Bs,leB a b = true → leB b c = true → leB a c = true:=fun a b c h1 h2=>by simp only [leB,decide_eq_true_eq] at *; exact List.le_trans h1 h2
 have tot:∀ a b:Bs,(leB a b || leB b a) = true:=fun a b=>by simp only [leB,Bool.or_eq_true,decide_eq_true_eq]; exact List.le_total a b
 refine List.Perm.eq_of_pairwise (le:=fun a b=>leB a b = true) (fun a b _ _ h1 h2=>?_) (hu.imp fun {a b} hab=>?_) (List.pairwise_mergeSort tr tot ns) hp
 ·simp only [leB,decide_eq_true_eq] at h1 h2
  exact List.le_antisymm h1 h2
 ·simp only [leB,decide_eq_true_eq]
  rw [le_cb]
  omega
end Ix
end Go.Proofs.YtmhpjjjjgakpiaaGreatDoor
namespace Go.Proofs.YtmhpjjjjgakpiaaGreatDoor
open Go.RowKit
set_option linter.unusedSimpArgs false
set_option linter.unusedVariables false
namespace Sa
open Ver (Bs)
open Rl (At nA)
open Rc (Pk En nEn)
open Ix (sat)
abbrev Vi:=Int × Bs × Bool × Int × Bs
/-! ### what is wrong -/
def cmet (p:Pk) (c:List At):Bool:=c.any (sat p)
def pkA (s:List En) (j:Nat):Pk:=(s.getD j nEn).pk
def cfA (s:List En) (j:Nat):Bool:=(s.getD j nEn).cfg
def metJ (s:List En) (c:List At) (j:Nat):Bool:=cfA s j && cmet (pkA s j) c
def metB (s:List En) (c:List At):Bool:=(List.range s.length).any (metJ s c)
def unm1 (s:List En) (cs:List (List At)) (nm:Bs) (pr:Bool) (i:Nat):List Vi:=if metB s (cs.getD i []) = true then [] else [(1,nm,pr,(i:Int),[])]
def unmN (s:List En) (cs:List (List At)) (nm:Bs) (pr:Bool) (k:Nat):List Vi:=(List.range k).flatMap (unm1 s cs nm pr)
def unm (s:List En) (cs:List (List At)) (nm:Bs) (pr:Bool):List Vi:=unmN s cs nm pr cs.length
def hit (s:List En) (p:Nat) (kd:Int) (a:At) (j:Nat):Bool:=!(decide (j = p) || (decide (kd = 3) && !cfA s j)) && sat (pkA s j) a
def cla1 (s:List En) (p:Nat) (kd:Int) (i:Nat) (a:At) (j:Nat):List Vi:=if hit s p kd a j = true then [(kd,(pkA s p).nm,false,(i:Int),(pkA s j).nm)] else []
def claJ (s:List En) (p:Nat) (kd:Int) (i:Nat) (a:At) (m:Nat):List Vi:=(List.range m).flatMap (cla1 s p kd i a)
def claN (s:List En) (p:Nat) (ls:List At) (kd:Int) (k:Nat):List Vi:=(List.range k).flatMap fun i=>claJ s p kd i (ls.getD i nA) s.length
def cla (s:List En) (p:Nat) (ls:List At) (kd:Int):List Vi:=claN s p ls kd ls.length
def wrA (s:List En) (p:Nat):List Vi:=unm s (pkA s p).pre (pkA s p).nm true ++ ((if cfA s p = true then unm s (pkA s p).dep (pkA s p).nm false else []) ++ (cla s p (pkA s p).con 2 ++ cla s p (pkA s p).brk 3))
def wrN (s:List En) (k:Nat):List Vi:=(List.range k).flatMap (wrA s)
def wr (s:List En):List Vi:=wrN s s.length
structure Few (s:List En):Prop where
 len:s.length ≤ 26
 pre:∀ x ∈ s,x.pk.pre.length ≤ 20
 dep:∀ x ∈ s,x.pk.dep.length ≤ 20
 con:∀ x ∈ s,x.pk.con.length + x.pk.brk.length ≤ 50
/-! ### texts are not too long -/
def LimS (s:List En):Prop:=∀ x ∈ s,x.pk.Lim
end Sa
end Go.Proofs.YtmhpjjjjgakpiaaGreatDoor
namespace Go.Proofs.YtmhpjjjjgakpiaaGreatDoor
open Go.RowKit
set_option linter.unusedSimpArgs false
set_option linter.unusedVariables false
namespace Sa
open Ver (Bs)
open Rl (At mem_getD)
open Rc (Pk nPk En mayK)
open Ix (sat)
def done (s:List En):List Pk:=(s.filter fun x=>x.cfg).map En.pk
end Sa
end Go.Proofs.YtmhpjjjjgakpiaaGreatDoor
namespace Go.Proofs.YtmhpjjjjgakpiaaGreatDoor
open Go.RowKit
set_option linter.unusedSimpArgs false
set_option linter.unusedVariables false
namespace Rc
open Ver (S)
theorem append_big {tS e:TypeId} {z:Value} {sz bytes:Nat} (hu:Tryz.prog.underlying tS = some (.slice e)) (hi:(Tryz.prog.info? e).map (fun i=>(i.zero,i.size,i.bytes)) = some (some z,sz,bytes)) (hz:z.cells.size = sz)
  {w:World} {ops:Array Oper} {rest:List Oper} {o:Oper} {a:Act} {Q:Exit → Act → World → Prop} (hgd:o.guard = none) (s x:Operand)
  (ho:o.op = .call { callee:=.builtin .append,args:=#[s,x],argTypes:=#[tS,tS] })
  (B:Nat) (v:Value) (n:Nat) (hv:a.eval s = v) (hown:∃ xs,w.ownsRow B e sz v n xs) (k:Nat) (c:Nat) (hx:a.eval x = .slice (some ⟨k,0,none⟩) 1 c) (news:List Value) (hnl:news.length = sz) (hc:∀ (j:Nat) u,news[j]? = some u → w.cell? ⟨k,j,none⟩ = some u)
  (ho1:∀ u ∈ news,u.oneCell' = true) (hn:(n + 1) * bytes ≤ 140737488355328) (hn2:n + 1 ≤ 4611686018427387904) (hB:B ≤ w.heap.size)
  (h:∀ v' w',(∀ xs,w.ownsRow B e sz v n xs → w'.ownsRow B e sz v' (n + 1) (xs ++ news)) → w.grownBy w' v.ownBlock → (∀ k,v'.ownBlock = some k → v.ownBlock = some k ∨ w.heap.size ≤ k) → wpList Tryz.prog ops Q rest (a.put o.dst v') w'):wpList Tryz.prog ops Q (o :: rest) a w:=by
 obtain ⟨i0,hi,hz0,hz1,hz2⟩:=info_parts hi
 have hsrc:Src Tryz.prog sz tS (.slice (some ⟨k,0,none⟩) 1 c) 1 news w:=by
  refine Src.ofSlice w hu ⟨k,0,none⟩ 1 c news (by rw [hnl,Nat.one_mul]) (fun j u hj=>?_) ho1
  have:=hc j u hj
  have e:(⟨k,0,none⟩:Addr).add j = ⟨k,j,none⟩:=by cases j <;> simp [Addr.add]
  rw [e]; exact this
 obtain ⟨xs,hown⟩:=hown
 refine wpList_plain hgd fun K hK=>?_
 obtain ⟨v',w',hr,h2,h3,h4⟩:=Own.run_append_src (P:=Tryz.prog) tS tS o.type B e i0 z sz bytes hu hi hz0 hz1 hz2 hz v n xs hown _ 1 news hsrc (by simp only [maxLen]; omega) hn hB
 unfold Oper.wp execOp
 simp only [ho,resolve,invoke,builtin,Sem.run_bind,Sem.run_pure,Result.andThen_ok,List.map_toArray,List.map_cons,List.map_nil,hv,hx,hr]
 refine hK _ _ (h v' w' (fun ys hys=>?_) h3 h4)
 have hxy:ys = xs:=by
  rcases hown.2 with ⟨e1,e2⟩ | ⟨g,cap,cur,e1,_,hh,_,_,_,ht⟩
  ·have h5:=hown.1
   have h6:=hys.1
   rw [e2,Nat.zero_mul] at h5 h6
   rw [List.eq_nil_of_length_eq_zero h5,List.eq_nil_of_length_eq_zero h6]
  ·subst e1
   rcases hys.2 with ⟨e3,_⟩ | ⟨g',cap',cur',e3,_,hh',_,_,_,ht'⟩
   ·cases e3
   ·simp only [Value.slice.injEq,Option.some.injEq,Addr.mk.injEq,and_true,true_and] at e3
    obtain ⟨rfl,rfl⟩:=e3
    rw [hh] at hh'
    cases hh'
    rw [← ht,← ht']
 rw [hxy]
 exact h2
theorem in_low {w:World} {Q:World → Prop} (h:∀ u,Below w.heap.size w u → Q u):In 0 w.heap.size w Q:=fun u hu=>h u ⟨hu.os,hu.tape,hu.output,hu.size,fun k hk=>hu.block k hk (by omega)⟩
end Rc
end Go.Proofs.YtmhpjjjjgakpiaaGreatDoor

/-
The mathematics of states: what is wrong with entries, which wholes are healthy.
-/
import Derived.Test.YtgpcilepkmckeaaGreatDoorEIxSat
import Derived.Test.YtgpcilepkmckeaaGreatDoorERecMem
namespace Go.Proofs.YtgpcilepkmckeaaGreatDoor
open Go.RowKit
set_option linter.unusedSimpArgs false
set_option linter.unusedVariables false
namespace Sa
open Ver (Bs li S)
open Rl (At Pv Slc nA mem_getD)
open Rc (Pk nPk En nEn)
open Ix (sat)
abbrev Vi:=Int × Bs × Bool × Int × Bs
def vcell (x:Vi):List Value:=[.int .i64 x.1,.string (S x.2.1),.bool x.2.2.1,.int .i64 x.2.2.2.1,.string (S x.2.2.2.2)]
def viV (x:Vi):Value:=.agg #[.int .i64 x.1,.string (S x.2.1),.bool x.2.2.1,.int .i64 x.2.2.2.1,.string (S x.2.2.2.2)]
def vcells (l:List Vi):List Value:=l.flatMap vcell
/-! ### what is wrong -/
def cmet (p:Pk) (c:List At):Bool:=c.any (sat p)
def pkA (s:List En) (j:Nat):Pk:=(s.getD j nEn).pk
def cfA (s:List En) (j:Nat):Bool:=(s.getD j nEn).cfg
def metJ (s:List En) (c:List At) (j:Nat):Bool:=cfA s j && cmet (pkA s j) c
def metB (s:List En) (c:List At):Bool:=(List.range s.length).any (metJ s c)
def unm1 (s:List En) (cs:List (List At)) (nm:Bs) (pr:Bool) (i:Nat):List Vi:=if metB s (cs.getD i []) = true then [] else [(1,nm,pr,(i:Int),[])]
def unmN (s:List En) (cs:List (List At)) (nm:Bs) (pr:Bool) (k:Nat):List Vi:=(List.range k).flatMap (unm1 s cs nm pr)
def unm (s:List En) (cs:List (List At)) (nm:Bs) (pr:Bool):List Vi:=unmN s cs nm pr cs.length
def hit (s:List En) (p:Nat) (kd:Int) (a:At) (j:Nat):Bool:=!(decide (j = p) || (decide (kd = 3) && !cfA s j)) && sat (pkA s j) a
def cla1 (s:List En) (p:Nat) (kd:Int) (i:Nat) (a:At) (j:Nat):List Vi:=if hit s p kd a j = true then [(kd,(pkA s p).nm,false,(i:Int),(pkA s j).nm)] else []
def claJ (s:List En) (p:Nat) (kd:Int) (i:Nat) (a:At) (m:Nat):List Vi:=(List.range m).flatMap (cla1 s p kd i a)
def claN (s:List En) (p:Nat) (ls:List At) (kd:Int) (k:Nat):List Vi:=(List.range k).flatMap fun i=>claJ s p kd i (ls.getD i nA) s.length
def cla (s:List En) (p:Nat) (ls:List At) (kd:Int):List Vi:=claN s p ls kd ls.length
def wrA (s:List En) (p:Nat):List Vi:=unm s (pkA s p).pre (pkA s p).nm true ++ ((if cfA s p = true then unm s (pkA s p).dep (pkA s p).nm false else []) ++ (cla s p (pkA s p).con 2 ++ cla s p (pkA s p).brk 3))
def wrN (s:List En) (k:Nat):List Vi:=(List.range k).flatMap (wrA s)
def wr (s:List En):List Vi:=wrN s s.length
/-! ### one step further -/
theorem flat_succ {α:Type} (f:Nat → List α) (k:Nat):(List.range (k + 1)).flatMap f = (List.range k).flatMap f ++ f k:=by
 rw [List.range_succ,List.flatMap_append]; simp
theorem unmN_succ (s:List En) (cs:List (List At)) (nm:Bs) (pr:Bool) (k:Nat):unmN s cs nm pr (k + 1) = unmN s cs nm pr k ++ unm1 s cs nm pr k:=flat_succ _ _
theorem claJ_succ (s:List En) (p:Nat) (kd:Int) (i:Nat) (a:At) (m:Nat):claJ s p kd i a (m + 1) = claJ s p kd i a m ++ cla1 s p kd i a m:=flat_succ _ _
theorem claN_succ (s:List En) (p:Nat) (ls:List At) (kd:Int) (k:Nat):claN s p ls kd (k + 1) = claN s p ls kd k ++ claJ s p kd k (ls.getD k nA) s.length:=flat_succ _ _
theorem wrN_succ (s:List En) (k:Nat):wrN s (k + 1) = wrN s k ++ wrA s k:=flat_succ _ _
theorem metB_yes {s:List En} {c:List At} {k:Nat} (hk:k < s.length) (h:metJ s c k = true):metB s c = true:=List.any_eq_true.2 ⟨k,List.mem_range.2 hk,h⟩
theorem metB_no {s:List En} {c:List At} (h:∀ k,k < s.length → metJ s c k = false):metB s c = false:=by
 unfold metB
 rw [List.any_eq_false]
 intro k hk
 rw [h k (List.mem_range.1 hk)]; simp
/-! ### how much there can be -/
theorem flat_len {α:Type} (f:Nat → List α) (m:Nat):∀ k:Nat,(∀ i,i < k → (f i).length ≤ m) → ((List.range k).flatMap f).length ≤ k * m
 | 0,_=>by simp
 | k + 1,h=>by
  rw [flat_succ,List.length_append,Nat.add_mul,Nat.one_mul]
  have h1:=flat_len f m k fun i hi=>h i (by omega)
  have h2:=h k (by omega)
  omega
theorem unm_len (s:List En) (cs:List (List At)) (nm:Bs) (pr:Bool) (k:Nat):(unmN s cs nm pr k).length ≤ k:=by
 have:=flat_len (unm1 s cs nm pr) 1 k fun i _=>by unfold unm1; split <;> simp
 unfold unmN
 omega
theorem claJ_len (s:List En) (p:Nat) (kd:Int) (i:Nat) (a:At) (m:Nat):(claJ s p kd i a m).length ≤ m:=by
 have:=flat_len (cla1 s p kd i a) 1 m fun i _=>by unfold cla1; split <;> simp
 unfold claJ
 omega
theorem claN_len (s:List En) (p:Nat) (ls:List At) (kd:Int) (k:Nat):(claN s p ls kd k).length ≤ k * s.length:=flat_len _ _ k fun i _=>claJ_len _ _ _ _ _ _
structure Few (s:List En):Prop where
 len:s.length ≤ 26
 pre:∀ x ∈ s,x.pk.pre.length ≤ 20
 dep:∀ x ∈ s,x.pk.dep.length ≤ 20
 con:∀ x ∈ s,x.pk.con.length + x.pk.brk.length ≤ 50
theorem wrA_len {s:List En} (h:Few s) {p:Nat} (hp:p < s.length):(wrA s p).length ≤ 1340:=by
 have hm:=mem_getD (z:=nEn) hp
 have h1:=h.pre _ hm
 have h2:=h.dep _ hm
 have h3:=h.con _ hm
 have h4:=h.len
 unfold wrA
 change (pkA s p).pre.length ≤ 20 at h1
 change (pkA s p).dep.length ≤ 20 at h2
 change (pkA s p).con.length + (pkA s p).brk.length ≤ 50 at h3
 generalize pkA s p = x at *
 have a1:=unm_len s x.pre x.nm true x.pre.length
 have a2:=unm_len s x.dep x.nm false x.dep.length
 have a3:=claN_len s p x.con 2 x.con.length
 have a4:=claN_len s p x.brk 3 x.brk.length
 have a5:x.con.length * s.length + x.brk.length * s.length ≤ 50 * 26:=by rw [← Nat.add_mul]; exact Nat.mul_le_mul h3 h4
 rw [List.length_append,List.length_append,List.length_append]
 have a6:(if cfA s p = true then unm s x.dep x.nm false else []).length ≤ 20:=by
  split
  ·exact Nat.le_trans a2 h2
  ·simp
 unfold unm cla at *
 omega
theorem wrN_len {s:List En} (h:Few s) {k:Nat} (hk:k ≤ s.length):(wrN s k).length ≤ 34840:=by
 have:=flat_len (wrA s) 1340 k fun i hi=>wrA_len h (by omega)
 have h4:=h.len
 unfold wrN
 omega
/-! ### texts are not too long -/
def LimS (s:List En):Prop:=∀ x ∈ s,x.pk.Lim
end Sa
end Go.Proofs.YtgpcilepkmckeaaGreatDoor

/-
How great the pieces are of what is read; what is read may be printed but for its length. The reference's Fold: the same as Fold. At which lines stanzas begin; a line that many lines further; the Fold of a field's lines is no longer than texts may be.
-/
import Derived.Test.YthmpepnikmdjpaaGreatDoorCStzAwake
import Derived.Test.YthmpepnikmdjpaaGreatDoorCStzFold
import Derived.Test.YthmpepnikmdjpaaGreatDoorCStzGood
import Derived.Test.YthmpepnikmdjpaaGreatDoorCRecFld
namespace Go.Proofs.YthmpepnikmdjpaaGreatDoor
set_option linter.unusedSimpArgs false
set_option linter.unusedVariables false
namespace Stz
open Txt (trimL trimRight trimLeft)
def Slim (M:Nat) (f:Fld):Prop:=f.1.length ≤ M ∧ ∀ x ∈ f.2,x.length ≤ M
def ZSlim (M:Nat) (z:Zip):Prop:=(∀ s ∈ z.done,∀ f ∈ s.2,Slim M f) ∧ ∀ n fs f,z.cur = some (n,fs,f) → ∀ g ∈ fs ++ [f],Slim M g
theorem slim_start (M:Nat):ZSlim M start:=⟨(fun s hs=>by cases hs),(fun n fs f e=>by cases e)⟩
theorem slim_close {M:Nat} {z:Zip} (h:ZSlim M z):ZSlim M z.close:=by
 obtain ⟨d,q⟩:=z
 obtain ⟨h2,h3⟩:=h
 cases q with
 | none=>exact ⟨h2,h3⟩
 | some p =>
  obtain ⟨k,fs,f⟩:=p
  have k3:=h3 k fs f rfl
  refine ⟨fun s hs=>?_,fun _ _ _ e=>by cases e⟩
  rcases List.mem_append.1 (show s ∈ d ++ [(k,fs ++ [f])] from hs) with hs | hs
  ·exact h2 s hs
  ·rw [List.mem_singleton.1 hs]
   exact k3
theorem right_len (l:Bs):(trimRight l).length ≤ l.length:=by
 obtain ⟨x,_,h2,_⟩:=Txt.trimRight_eq l
 have:=congrArg List.length h2
 rw [List.length_append] at this
 omega
theorem trimL_le (l:Bs):(trimL l).length ≤ l.length:=by
 obtain ⟨x,_,h2,_⟩:=Txt.trimLeft_eq l
 have:=congrArg List.length h2
 rw [List.length_append] at this
 have:=right_len (trimLeft l)
 unfold trimL
 omega
theorem further_le (l:Bs):(further l).length ≤ l.length:=by
 unfold further
 split
 ·simp
 ·exact right_len l
theorem slim_take {M:Nat} {z z':Zip} {x:Bs} {n:Int} (h:ZSlim M z) (hx:x.length ≤ M) (ht:take z x n = .ok z'):ZSlim M z':=by
 unfold take at ht
 split at ht
 ·cases ht; exact h
 split at ht
 ·cases ht; exact slim_close h
 split at ht
 ·obtain ⟨d,q⟩:=z
  cases q with
  | none=>cases ht
  | some p =>
   obtain ⟨k,fs,nm,ls⟩:=p
   cases ht
   have k3:=h.2 k fs (nm,ls) rfl
   refine ⟨h.1,fun k' fs' f' e=>?_⟩
   simp only [Option.some.injEq,Prod.mk.injEq] at e
   obtain ⟨rfl,rfl,rfl⟩:=e
   intro g hg
   rcases List.mem_append.1 hg with hg | hg
   ·exact k3 g (List.mem_append.2 (.inl hg))
   ·rw [List.mem_singleton.1 hg]
    have:=k3 (nm,ls) (by simp)
    refine ⟨this.1,fun y hy=>?_⟩
    rcases List.mem_append.1 hy with hy | hy
    ·exact this.2 y hy
    ·rw [List.mem_singleton.1 hy]
     have h1:=further_le x.tail
     have h2:x.tail.length ≤ x.length:=by simp
     omega
 ·unfold field at ht
  cases hc:cutL x with
  | none=>rw [hc] at ht; cases ht
  | some p =>
   obtain ⟨nm,r⟩:=p
   rw [hc] at ht
   have hlen:=congrArg List.length (cut_eq hc).1
   rw [List.length_append,List.length_cons] at hlen
   have hnew:Slim M (nm,[trimL r]):=⟨by show nm.length ≤ M; omega,fun y hy=>by
    rw [List.mem_singleton.1 hy]
    have:=trimL_le r
    omega⟩
   simp only at ht
   split at ht
   ·unfold begin at ht
    obtain ⟨d,q⟩:=z
    cases q with
    | none =>
     simp only at ht
     split at ht
     ·cases ht
     ·cases ht
      refine ⟨h.1,fun k' fs' f' e=>?_⟩
      simp only [Option.some.injEq,Prod.mk.injEq] at e
      obtain ⟨rfl,rfl,rfl⟩:=e
      intro g hg
      rw [List.mem_singleton.1 hg]
      exact hnew
    | some p =>
     obtain ⟨k,fs,f⟩:=p
     simp only at ht
     split at ht
     ·cases ht
     ·split at ht
      ·cases ht
      ·cases ht
       have k3:=h.2 k fs f rfl
       refine ⟨h.1,fun k' fs' f' e=>?_⟩
       simp only [Option.some.injEq,Prod.mk.injEq] at e
       obtain ⟨rfl,rfl,rfl⟩:=e
       intro g hg
       rcases List.mem_append.1 hg with hg | hg
       ·exact k3 g hg
       ·rw [List.mem_singleton.1 hg]
        exact hnew
   ·cases ht
theorem slim_run {M:Nat}:∀ (ls:List Bs) {z z':Zip} (n:Nat),ZSlim M z → (∀ x ∈ ls,x.length ≤ M) → run z n ls = .ok z' → ZSlim M z'
 | [],z,z',n,h,_,hr=>by cases hr; exact h
 | x :: r,z,z',n,h,hg,hr=>by
  rw [run_cons] at hr
  cases ht:take z x n with
  | error e=>rw [ht] at hr; cases hr
  | ok z1 =>
   rw [ht] at hr
   exact slim_run r (n + 1) (slim_take h (hg x (.head _)) ht) (fun y hy=>hg y (.tail _ hy)) hr
theorem parse_slim {M:Nat} {ls:List Bs} (hg:∀ x ∈ ls,x.length ≤ M) {l:List Sz} {e n:Nat} (h:parse ls = (l,e,n)):∀ s ∈ l,∀ f ∈ s.2,Slim M f:=by
 unfold parse at h
 cases hr:run start 1 ls with
 | error e =>
  rw [hr] at h
  simp only [Prod.mk.injEq] at h
  rw [← h.1]
  intro s hs; cases hs
 | ok z =>
  rw [hr] at h
  simp only [Prod.mk.injEq] at h
  rw [← h.1]
  exact (slim_close (slim_run ls 1 (slim_start M) hg hr)).1
theorem E_ok {x:ByteArray} (h:Txt.E x = 0):LineOK x.data.toList:=by
 unfold Txt.E at h
 split at h
 ·cases h
 split at h
 ·cases h
 ·next h1 h2 =>
  refine ⟨?_,by rw [Txt.len_list]; omega⟩
  unfold goodL
  rw [show (⟨x.data.toList.toArray⟩:ByteArray) = x from S_self x]
  have:=Txt.good_ge x
  omega
theorem pr_ok {s:ByteArray} {l:List Sz} {n:Nat} (h:PR s l 0 n):∃ ls,(∀ x ∈ ls,LineOK x) ∧ parse ls = (l,0,n) ∧ ls = Txt.linesL s.data.toList:=by
 obtain ⟨ls,e0,n0,h1,h2⟩:=h
 rcases h2 with ⟨h2,_,h3,_⟩ | ⟨rfl,h2⟩
 ·exact absurd h3.symm h2
 unfold Txt.LR at h1
 split at h1
 ·have:=h1.2.1; cases this
 rcases h1 with ⟨_,rfl,h3,h4⟩ | ⟨_,h5,_⟩
 ·refine ⟨bytes ls,fun x hx=>?_,h2,h3⟩
  obtain ⟨t,ht,rfl⟩:=List.mem_map.1 hx
  obtain ⟨i,hi,rfl⟩:=List.mem_iff_getElem.1 ht
  refine E_ok ?_
  have:=h4 i hi
  rwa [show ls.getD i ByteArray.empty = ls[i] by simp [List.getD,hi]] at this
 ·exact absurd rfl h5
end Stz
end Go.Proofs.YthmpepnikmdjpaaGreatDoor
namespace Go.Proofs.YthmpepnikmdjpaaGreatDoor
open Go.RowKit
set_option linter.unusedSimpArgs false
set_option linter.unusedVariables false
namespace Stz
open Txt (trimL)
theorem join_snoc (ps:List Bs) (p:Bs):Lib.join (ps ++ [p]) [32] = if ps = [] then p else Lib.join ps [32] ++ 32 :: p:=by
 cases ps with
 | nil=>rw [List.nil_append,Lib.join_one,if_pos rfl]
 | cons x r =>
  rw [if_neg (by simp),List.cons_append,Lib.join_cons,Lib.join_cons]
  unfold Lib.joinTail
  simp
theorem fold_nil_iff (ls:List Bs):foldL ls = [] ↔ partsL ls = []:=by
 unfold foldL
 cases h:partsL ls with
 | nil=>simp [Lib.join_nil]
 | cons y r =>
  have hy:y ∈ partsL ls:=by rw [h]; exact .head _
  unfold partsL at hy
  have:=(List.mem_filter.1 hy).2
  rw [Lib.join_cons]
  cases y with
  | nil=>simp at this
  | cons c y=>simp
theorem fold_snoc (ls:List Bs) (x:Bs):foldL (ls ++ [x]) = if trimL x = [] then foldL ls else if foldL ls = [] then trimL x else foldL ls ++ 32 :: trimL x:=by
 by_cases h:trimL x = []
 ·rw [if_pos h]
  unfold foldL
  rw [parts_snoc,if_pos h]
 ·rw [if_neg h]
  have e:foldL (ls ++ [x]) = Lib.join (partsL ls ++ [trimL x]) [32]:=by
   unfold foldL
   rw [parts_snoc,if_neg h]
  rw [e,join_snoc]
  by_cases h2:partsL ls = []
  ·rw [if_pos h2,if_pos ((fold_nil_iff ls).2 h2)]
  ·rw [if_neg h2,if_neg (fun e=>h2 ((fold_nil_iff ls).1 e))]
   rfl
theorem fold_len {M:Nat} (ls:List Bs) (h:∀ x ∈ ls,x.length ≤ M):∀ k,k ≤ ls.length → (foldL (ls.take k)).length ≤ (M + 1) * k
 | 0,_=>by simp [foldL,partsL,Lib.join_nil]
 | k + 1,hk=>by
  have ih:=fold_len ls h k (by omega)
  rw [take_one (show k < ls.length by omega),fold_snoc]
  have hx:(trimL (ls.getD k [])).length ≤ M:=Nat.le_trans (trimL_le _) (h _ (by simp [List.getD,List.getElem?_eq_getElem (show k < ls.length by omega)]))
  rw [Nat.mul_add,Nat.mul_one]
  split
  ·omega
  ·split
   ·omega
   ·rw [List.length_append,List.length_cons]; omega
end Stz
end Go.Proofs.YthmpepnikmdjpaaGreatDoor
namespace Go.Proofs.YthmpepnikmdjpaaGreatDoor
open Go.RowKit
set_option linter.unusedSimpArgs false
set_option linter.unusedVariables false
namespace Stz
def ZL (M:Nat) (z:Zip):Prop:=(∀ s ∈ z.done,0 ≤ s.1 ∧ s.1 ≤ (M:Int)) ∧ ∀ n fs f,z.cur = some (n,fs,f) → 0 ≤ n ∧ n ≤ (M:Int)
theorem zl_close {M:Nat} {z:Zip} (h:ZL M z):ZL M z.close:=by
 obtain ⟨d,q⟩:=z
 obtain ⟨h2,h3⟩:=h
 cases q with
 | none=>exact ⟨h2,h3⟩
 | some p =>
  obtain ⟨k,fs,f⟩:=p
  have k3:=h3 k fs f rfl
  refine ⟨fun s hs=>?_,fun _ _ _ e=>by cases e⟩
  rcases List.mem_append.1 (show s ∈ d ++ [(k,fs ++ [f])] from hs) with hs | hs
  ·exact h2 s hs
  ·rw [List.mem_singleton.1 hs]
   exact k3
theorem zl_take {M:Nat} {z z':Zip} {x:Bs} {n:Nat} (h:ZL M z) (hn:n ≤ M) (ht:take z x n = .ok z'):ZL M z':=by
 unfold take at ht
 split at ht
 ·cases ht; exact h
 split at ht
 ·cases ht; exact zl_close h
 split at ht
 ·obtain ⟨d,q⟩:=z
  cases q with
  | none=>cases ht
  | some p =>
   obtain ⟨k,fs,nm,ls⟩:=p
   cases ht
   have k3:=h.2 k fs (nm,ls) rfl
   refine ⟨h.1,fun k' fs' f' e=>?_⟩
   simp only [Option.some.injEq,Prod.mk.injEq] at e
   obtain ⟨rfl,rfl,rfl⟩:=e
   exact k3
 ·unfold field at ht
  cases hc:cutL x with
  | none=>rw [hc] at ht; cases ht
  | some p =>
   obtain ⟨nm,r⟩:=p
   rw [hc] at ht
   simp only at ht
   split at ht
   ·unfold begin at ht
    obtain ⟨d,q⟩:=z
    cases q with
    | none =>
     simp only at ht
     split at ht
     ·cases ht
     ·cases ht
      refine ⟨h.1,fun k' fs' f' e=>?_⟩
      simp only [Option.some.injEq,Prod.mk.injEq] at e
      obtain ⟨rfl,rfl,rfl⟩:=e
      omega
    | some p =>
     obtain ⟨k,fs,f⟩:=p
     simp only at ht
     split at ht
     ·cases ht
     ·split at ht
      ·cases ht
      ·cases ht
       have k3:=h.2 k fs f rfl
       refine ⟨h.1,fun k' fs' f' e=>?_⟩
       simp only [Option.some.injEq,Prod.mk.injEq] at e
       obtain ⟨rfl,rfl,rfl⟩:=e
       exact k3
   ·cases ht
theorem zl_run {M:Nat}:∀ (ls:List Bs) {z z':Zip} (n:Nat),ZL M z → n + ls.length ≤ M + 1 → run z n ls = .ok z' → ZL M z'
 | [],z,z',n,h,_,hr=>by cases hr; exact h
 | x :: r,z,z',n,h,hl,hr=>by
  rw [run_cons] at hr
  rw [List.length_cons] at hl
  cases ht:take z x n with
  | error e=>rw [ht] at hr; cases hr
  | ok z1 =>
   rw [ht] at hr
   exact zl_run r (n + 1) (zl_take h (by omega) ht) (by omega) hr
theorem spl_count:∀ l:Bs,(Txt.spl l).length ≤ l.length + 1
 | []=>by simp [Txt.spl]
 | c :: l=>by
  have ih:=spl_count l
  show (if c = 10 then [] :: Txt.spl l else Txt.put c (Txt.spl l)).length ≤ _
  split
  ·simp only [List.length_cons]; omega
  ·have hne:=Txt.spl_ne l
   cases hq:Txt.spl l with
   | nil=>exact absurd hq hne
   | cons y r =>
    rw [hq] at ih
    simp only [Txt.put,List.length_cons] at ih ⊢
    omega
theorem dl_count:∀ l:List Bs,(Txt.dl l).length ≤ l.length
 | []=>by simp [Txt.dl]
 | [x]=>by unfold Txt.dl; split <;> simp
 | x :: y :: r=>by
  have:=dl_count (y :: r)
  show (x :: Txt.dl (y :: r)).length ≤ _
  simp only [List.length_cons] at this ⊢
  omega
theorem pr_small {s:ByteArray} {l:List Sz} {n:Nat} (h:PR s l 0 n):s.size ≤ 65536:=by
 obtain ⟨ls,e0,n0,h1,h2⟩:=h
 rcases h2 with ⟨h2,_,h3,_⟩ | ⟨rfl,h2⟩
 ·exact absurd h3.symm h2
 unfold Txt.LR at h1
 split at h1
 ·have:=h1.2.1; cases this
 ·omega
theorem pr_line {s:ByteArray} {l:List Sz} {n:Nat} (h:PR s l 0 n):∀ z ∈ l,0 ≤ z.1 ∧ z.1 ≤ 70000:=by
 have h0:=pr_small h
 obtain ⟨ls,_,h2,h3⟩:=pr_ok h
 have hl:ls.length ≤ 65537:=by
  rw [h3]
  have a:=dl_count (Txt.spl s.data.toList)
  have b:=spl_count s.data.toList
  have c:s.data.toList.length = s.size:=sz_list s
  unfold Txt.linesL
  omega
 unfold parse at h2
 cases hr:run start 1 ls with
 | error e =>
  rw [hr] at h2
  simp only [Prod.mk.injEq] at h2
  rw [← h2.1]
  intro z hz; cases hz
 | ok z =>
  rw [hr] at h2
  simp only [Prod.mk.injEq] at h2
  rw [← h2.1]
  have:=(zl_close (zl_run (M:=70000) ls 1 ⟨fun s hs=>(by cases hs),fun _ _ _ e=>(by cases e)⟩ (by omega) hr)).1
  exact this
end Stz
namespace Rc
open Ver (Bs li li_len S S_self S_size S_li)
open Stz (Fld Sz sameB sameS foldL PR)
def LineOK (n:Int):Prop:=-9223372036854775808 ≤ n ∧ n ≤ 9223372036854775807
theorem furth_ok {line:Int} (h:LineOK line) (n:Nat):LineOK (furth line n):=by
 unfold furth LineOK most at *
 split <;> omega
set_option maxRecDepth 100000 in
theorem furth_any (line:Int) (n:Nat) (w:World) (h:LineOK line) (hn:n ≤ 1152921504606846976) :
  Calls Tryz.prog 102 #[.int .i64 line,.int .i64 n] w fun e w'=>e = .returned (.int .i64 (furth line n)) ∧ w' = w:=by
 unfold furth most
 obtain ⟨h1,h2⟩:=h
 by_cases hc:(9223372036854775807:Int) - n < line
 ·rw [if_pos hc]
  go_enter Tryz.func102,Tryz.ntmps102
  go_wp2_with fail
  go_ret
  exact ⟨rfl,rfl⟩
 ·rw [if_neg hc]
  go_enter Tryz.func102,Tryz.ntmps102
  go_wp2_with fail
  go_ret
  exact ⟨rfl,rfl⟩
structure FOk (f:Fld):Prop where
 nm:f.1.length ≤ 140737488351232
 cnt:f.2.length ≤ 100000
 len:∀ x ∈ f.2,x.length ≤ 140737488351232
 fold:(foldL f.2).length ≤ 140737488355328
structure FSmall (f:Fld):Prop where
 nm:f.1.length ≤ 140737488351232
 cnt:f.2.length ≤ 100000
 len:∀ x ∈ f.2,x.length ≤ 1048576
theorem FSmall.ok {f:Fld} (h:FSmall f):FOk f:=by
 refine ⟨h.nm,h.cnt,fun x hx=>by have:=h.len x hx; omega,?_⟩
 have h1:=Stz.fold_len f.2 h.len f.2.length (Nat.le_refl _)
 rw [List.take_of_length_le (Nat.le_refl _)] at h1
 have h2:(1048576 + 1) * f.2.length ≤ 1048577 * 100000:=Nat.mul_le_mul_left _ h.cnt
 omega
theorem pr_fsmall {s:ByteArray} {l:List Sz} {n:Nat} (h:PR s l 0 n) (hs:Stz.Small l):∀ z ∈ l,∀ f ∈ z.2,FSmall f:=by
 intro z hz f hf
 obtain ⟨ls,h1,h2,_⟩:=Stz.pr_ok h
 have h3:=Stz.parse_slim (M:=1000) (fun x hx=>(h1 x hx).2) h2 z hz f hf
 exact ⟨by have:=h3.1; omega,by have:=((hs.2 z hz).2 f hf).2; omega,fun x hx=>by have:=h3.2 x hx; omega⟩
end Rc
end Go.Proofs.YthmpepnikmdjpaaGreatDoor

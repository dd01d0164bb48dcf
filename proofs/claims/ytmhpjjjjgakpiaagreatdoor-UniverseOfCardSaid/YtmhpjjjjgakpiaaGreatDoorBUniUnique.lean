/-
The mathematics of the reference's Reached: rounds that mark packages and collect names. The reference's unique: texts, each once.
-/
import Derived.Test.YtmhpjjjjgakpiaaGreatDoorBUniAsk
import Derived.Test.YtmhpjjjjgakpiaaGreatDoorBUniLight
import Derived.Test.YtmhpjjjjgakpiaaGreatDoorBStaMath
import Derived.Test.YtmhpjjjjgakpiaaGreatDoorBUniAt
namespace Go.Proofs.YtmhpjjjjgakpiaaGreatDoor
open Go.RowKit
set_option linter.unusedSimpArgs false
set_option linter.unusedVariables false
namespace Un
open Ver (Bs)
open Rl (At nA)
open Rc (Pk nPk)
open Ix (sat)
def nmA (all:List Pk) (j:Nat):Bs:=(all.getD j nPk).nm
def Hq (all:List Pk) (a:At) (q:Nat):List Bs:=if sat (all.getD q nPk) a = true then [nmA all q] else []
def Ha (all:List Pk) (a:At):List Bs:=(List.range all.length).flatMap (Hq all a)
def Hc (all:List Pk) (c:List At):List Bs:=(List.range c.length).flatMap fun j=>Ha all (c.getD j nA)
def Hl (all:List Pk) (cs:List (List At)):List Bs:=(List.range cs.length).flatMap fun k=>Hc all (cs.getD k [])
def Ht (all:List Pk) (p:Pk):List Bs:=(List.range 3).flatMap fun t=>Hl all ((three p).getD t [])
def Hp (all:List Pk) (f:Nat → Bool) (i:Nat):List Bs:=if f i = true then Ht all (all.getD i nPk) else []
def Hn (all:List Pk) (f:Nat → Bool) (k:Nat):List Bs:=(List.range k).flatMap (Hp all f)
theorem flat_suc {α:Type} (f:Nat → List α) (k:Nat):(List.range (k + 1)).flatMap f = (List.range k).flatMap f ++ f k:=by
 rw [List.range_succ,List.flatMap_append]
 simp
theorem range_mem {α β:Type} {z:α} {F:α → List β} {l:List α} {m:β}:m ∈ ((List.range l.length).flatMap fun i=>F (l.getD i z)) ↔ ∃ x ∈ l,m ∈ F x:=by
 rw [List.mem_flatMap]
 constructor
 ·rintro ⟨i,hi,hm⟩
  exact ⟨_,Rl.mem_getD (List.mem_range.1 hi),hm⟩
 ·rintro ⟨x,hx,hm⟩
  obtain ⟨i,hi⟩:=List.mem_iff_getElem?.1 hx
  exact ⟨i,List.mem_range.2 (List.getElem?_eq_some_iff.1 hi).1,by rw [Ix.get_getD hi]; exact hm⟩
theorem mem_Ha {all:List Pk} {a:At} {m:Bs}:m ∈ Ha all a ↔ ∃ q ∈ all,sat q a = true ∧ q.nm = m:=by
 have h:=range_mem (z:=nPk) (F:=fun q:Pk=>if sat q a = true then [q.nm] else []) (l:=all) (m:=m)
 unfold Ha Hq nmA
 rw [h]
 constructor
 ·rintro ⟨q,hq,hm⟩
  by_cases hs:sat q a = true
  ·rw [if_pos hs,List.mem_singleton] at hm
   exact ⟨q,hq,hs,hm.symm⟩
  ·rw [if_neg hs] at hm; cases hm
 ·rintro ⟨q,hq,hs,rfl⟩
  exact ⟨q,hq,by rw [if_pos hs]; simp⟩
theorem mem_Ht {all:List Pk} {p:Pk} {m:Bs}:m ∈ Ht all p ↔ ∃ a ∈ asks p,∃ q ∈ all,sat q a = true ∧ q.nm = m:=by
 have hc:∀ c,m ∈ Hc all c ↔ ∃ a ∈ c,m ∈ Ha all a:=fun c=>range_mem (z:=nA) (F:=fun a=>Ha all a)
 have hl:∀ cs,m ∈ Hl all cs ↔ ∃ c ∈ cs,m ∈ Hc all c:=fun cs=>range_mem (z:=[]) (F:=fun c=>Hc all c)
 have ht:m ∈ Ht all p ↔ ∃ cs ∈ three p,m ∈ Hl all cs:=range_mem (z:=[]) (l:=three p) (F:=fun cs=>Hl all cs)
 rw [ht]
 unfold asks three
 simp only [hl,hc,mem_Ha,List.mem_flatten,List.mem_append,List.mem_cons,List.not_mem_nil,or_false]
 constructor
 ·rintro ⟨cs,hcs,c,h1,a,h2,h3⟩
  refine ⟨a,⟨c,?_,h2⟩,h3⟩
  rcases hcs with rfl | rfl | rfl
  ·exact .inl h1
  ·exact .inr (.inl h1)
  ·exact .inr (.inr h1)
 ·rintro ⟨a,⟨c,h1,h2⟩,h3⟩
  rcases h1 with h1 | h1 | h1
  ·exact ⟨_,.inl rfl,c,h1,a,h2,h3⟩
  ·exact ⟨_,.inr (.inl rfl),c,h1,a,h2,h3⟩
  ·exact ⟨_,.inr (.inr rfl),c,h1,a,h2,h3⟩
theorem mem_Hn {all:List Pk} {f:Nat → Bool} {k:Nat} {m:Bs}:m ∈ Hn all f k ↔ ∃ i,i < k ∧ f i = true ∧ m ∈ Ht all (all.getD i nPk):=by
 unfold Hn Hp
 rw [List.mem_flatMap]
 constructor
 ·rintro ⟨i,hi,hm⟩
  by_cases hf:f i = true
  ·rw [if_pos hf] at hm
   exact ⟨i,List.mem_range.1 hi,hf,hm⟩
  ·rw [if_neg hf] at hm; cases hm
 ·rintro ⟨i,hi,hf,hm⟩
  exact ⟨i,List.mem_range.2 hi,by rw [if_pos hf]; exact hm⟩
theorem cnt_le {f g:Nat → Bool} (hfg:∀ i,f i = true → g i = true):∀ l:List Nat,(l.filter f).length ≤ (l.filter g).length
 | []=>Nat.le_refl _
 | x :: r=>by
  have ih:=cnt_le hfg r
  cases hf:f x with
  | true=>rw [List.filter_cons_of_pos hf,List.filter_cons_of_pos (hfg x hf)]; simp only [List.length_cons]; omega
  | false =>
   rw [List.filter_cons_of_neg (by simp [hf])]
   cases hg:g x with
   | true=>rw [List.filter_cons_of_pos hg]; simp only [List.length_cons]; omega
   | false=>rw [List.filter_cons_of_neg (by simp [hg])]; exact ih
theorem cnt_lt {f g:Nat → Bool} (hfg:∀ i,f i = true → g i = true) {j:Nat} (hf:f j = false) (hg:g j = true):∀ l:List Nat,j ∈ l → (l.filter f).length + 1 ≤ (l.filter g).length
 | [],h=>by cases h
 | x :: r,h=>by
  by_cases e:x = j
  ·subst e
   rw [List.filter_cons_of_neg (by simp [hf]),List.filter_cons_of_pos hg]
   have:=cnt_le hfg r
   simp only [List.length_cons]
   omega
  ·have ih:=cnt_lt hfg hf hg r ((List.mem_cons.1 h).resolve_left fun h=>e h.symm)
   cases hfx:f x with
   | true=>rw [List.filter_cons_of_pos hfx,List.filter_cons_of_pos (hfg x hfx)]; simp only [List.length_cons]; omega
   | false =>
    rw [List.filter_cons_of_neg (by simp [hfx])]
    cases hgx:g x with
    | true=>rw [List.filter_cons_of_pos hgx]; simp only [List.length_cons]; omega
    | false=>rw [List.filter_cons_of_neg (by simp [hgx])]; exact ih
def Stable (all:List Pk) (f:Nat → Bool) (W:List Bs):Prop:=∀ j,j < all.length → nmA all j ∈ W → f j = true
structure Rd (all:List Pk) (sd:List Bs) (r:Nat) (f:Nat → Bool) (W:List Bs):Prop where
 seed:∀ m ∈ sd,m ∈ W
 wsnd:∀ m ∈ W,m ∈ sd ∨ Rch all sd m
 fsnd:∀ j,j < all.length → f j = true → Rch all sd (nmA all j)
 shut:∀ j,j < all.length → f j = true → ∀ m ∈ Ht all (all.getD j nPk),m ∈ W
 cnt:Stable all f W ∨ r ≤ ((List.range all.length).filter f).length
theorem Rd.start {all:List Pk} {sd W:List Bs} (h:∀ m,m ∈ W ↔ m ∈ sd):Rd all sd 0 (fun _=>false) W :=
 ⟨fun m hm=>(h m).2 hm,fun m hm=>.inl ((h m).1 hm),(fun j _ hf=>by cases hf),(fun j _ hf=>by cases hf),.inr (Nat.zero_le _)⟩
def mark (all:List Pk) (f:Nat → Bool) (W:List Bs):Nat → Bool:=fun j=>f j || decide (nmA all j ∈ W)
theorem mark_iff {all:List Pk} {f:Nat → Bool} {W:List Bs} {j:Nat}:mark all f W j = true ↔ f j = true ∨ nmA all j ∈ W:=by
 unfold mark
 rw [Bool.or_eq_true,decide_eq_true_eq]
theorem Rd.step {all:List Pk} {sd:List Bs} {r:Nat} {f:Nat → Bool} {W W':List Bs} (h:Rd all sd r f W) (hW:∀ m,m ∈ W' ↔ m ∈ W ∨ m ∈ Hn all (mark all f W) all.length):Rd all sd (r + 1) (mark all f W) W':=by
 have fs:∀ j,j < all.length → mark all f W j = true → Rch all sd (nmA all j):=fun j hj hm=>by
  rcases mark_iff.1 hm with hf | hw
  ·exact h.fsnd j hj hf
  ·rcases h.wsnd _ hw with hs | hs
   ·exact .seed hs ⟨_,Rl.mem_getD hj,rfl⟩
   ·exact hs
 refine ⟨fun m hm=>(hW m).2 (.inl (h.seed m hm)),fun m hm=>?_,fs,fun j hj hm m hin=>(hW m).2 (.inr (mem_Hn.2 ⟨j,hj,hm,hin⟩)),?_⟩
 ·rcases (hW m).1 hm with hw | hw
  ·exact h.wsnd m hw
  ·obtain ⟨i,hi,hf,hm2⟩:=mem_Hn.1 hw
   obtain ⟨a,ha,q,hq,hs,rfl⟩:=mem_Ht.1 hm2
   exact .inr (.step (fs i hi hf) (Rl.mem_getD hi) ha hq hs)
 ·have stab:Stable all f W → Stable all (mark all f W) W':=fun hst j hj hw=>by
   refine mark_iff.2 (.inl ?_)
   rcases (hW _).1 hw with h1 | h1
   ·exact hst j hj h1
   ·obtain ⟨i,hi,hf,hm2⟩:=mem_Hn.1 h1
    have hfi:f i = true:=by
     rcases mark_iff.1 hf with hf | hf
     ·exact hf
     ·exact hst i hi hf
    exact hst j hj (h.shut i hi hfi _ hm2)
  by_cases hst:Stable all f W
  ·exact .inl (stab hst)
  ·rcases h.cnt with h1 | h1
   ·exact absurd h1 hst
   ·refine .inr ?_
    obtain ⟨j,hj⟩:=Classical.not_forall.1 hst
    obtain ⟨hjl,hj⟩:=Classical.not_imp.1 hj
    obtain ⟨hjw,hjf⟩:=Classical.not_imp.1 hj
    have hlt:=cnt_lt (f:=f) (g:=mark all f W) (fun i hi=>mark_iff.2 (.inl hi)) (j:=j) (by simpa using hjf) (mark_iff.2 (.inr hjw)) (List.range all.length) (List.mem_range.2 hjl)
    omega
theorem Rd.last {all:List Pk} {sd:List Bs} {f:Nat → Bool} {W:List Bs} (h:Rd all sd (all.length + 1) f W) {j:Nat} (hj:j < all.length):f j = true ↔ Rch all sd (nmA all j):=by
 have hst:Stable all f W:=by
  rcases h.cnt with h1 | h1
  ·exact h1
  ·exfalso
   have:=List.length_filter_le f (List.range all.length)
   rw [List.length_range] at this
   omega
 refine ⟨h.fsnd j hj,fun hr=>?_⟩
 have key:∀ n,Rch all sd n → n ∈ W:=fun n hn=>by
  induction hn with
  | seed h1 _=>exact h.seed _ h1
  | @step p q a _ hp ha hq hs ih =>
   obtain ⟨i,hi⟩:=List.mem_iff_getElem?.1 hp
   have hil:=(List.getElem?_eq_some_iff.1 hi).1
   have e:all.getD i nPk = p:=Ix.get_getD hi nPk
   have hfi:=hst i hil (by unfold nmA; rw [e]; exact ih)
   exact h.shut i hil hfi _ (mem_Ht.2 ⟨a,by rw [e]; exact ha,q,hq,hs,rfl⟩)
 exact hst j hj (key _ hr)
def outN (all:List Pk) (f:Nat → Bool) (k:Nat):List Pk:=(List.range k).flatMap fun j=>if f j = true then [all.getD j nPk] else []
theorem flat_if {α:Type} (g:Nat → Bool) (h:Nat → α):∀ l:List Nat,(l.flatMap fun j=>if g j = true then [h j] else []) = (l.filter g).map h
 | []=>rfl
 | x :: r=>by
  have ih:=flat_if g h r
  rw [List.flatMap_cons,ih]
  cases hg:g x with
  | true=>rw [List.filter_cons_of_pos hg]; simp
  | false=>rw [List.filter_cons_of_neg (by simp [hg])]; simp
theorem out_eq {all:List Pk} {f:Nat → Bool} {WF:List Bs} (h:∀ j,j < all.length → (f j = true ↔ nmA all j ∈ WF)):outN all f all.length = inW WF all:=by
 unfold outN inW
 rw [flat_if,← places_map nPk (fun p=>decide (p.nm ∈ WF)) all]
 congr 1
 refine List.filter_congr fun j hj=>?_
 have:=h j (List.mem_range.1 hj)
 rw [Bool.eq_iff_iff,this,decide_eq_true_eq]
 exact Iff.rfl
end Un
end Go.Proofs.YtmhpjjjjgakpiaaGreatDoor
namespace Go.Proofs.YtmhpjjjjgakpiaaGreatDoor
open Go.RowKit
set_option linter.unusedSimpArgs false
set_option linter.unusedVariables false
namespace Un
open Ver (Bs S S_size)
open Rl (mem_getD)
theorem take_snoc5 {α:Type} {l:List α} {z:α} {k:Nat} (hk:k < l.length):l.take (k + 1) = l.take k ++ [l.getD k z]:=by
 rw [List.getD_eq_getElem?_getD,List.getElem?_eq_getElem hk,Option.getD_some,List.take_append_getElem hk]
theorem append_txb {w:World} {ops:Array Oper} {rest:List Oper} {o:Oper} {a:Act} {Q:Exit → Act → World → Prop} (hgd:o.guard = none) (s x:Operand)
  (ho:o.op = .call { callee:=.builtin .append,args:=#[s,x],argTypes:=#[32,32] })
  (B:Nat) (v:Value) (n:Nat) (xs:List Value) (hv:a.eval s = v) (hown:w.ownsRow B 9 1 v n xs) (b c:Nat) (hx:a.eval x = .slice (some ⟨b,0,none⟩) 1 c) (u:Value) (hc:w.cell? ⟨b,0,none⟩ = some u) (ho1:u.oneCell' = true) (hn:n + 1 ≤ 70000000) (hB:B ≤ w.heap.size)
  (h:∀ v' w',w'.ownsRow B 9 1 v' (n + 1) (xs ++ [u]) → w.grownBy w' v.ownBlock → (∀ k,v'.ownBlock = some k → v.ownBlock = some k ∨ w.heap.size ≤ k) → wpList Tryz.prog ops Q rest (a.put o.dst v') w'):wpList Tryz.prog ops Q (o :: rest) a w:=by
 obtain ⟨i0,hi,hz0,hz1,hz2⟩:=info_parts infoTx
 have hsrc:Src Tryz.prog 1 32 (.slice (some ⟨b,0,none⟩) 1 c) 1 [u] w:=by
  refine Src.ofSlice w Tryz.underlying32 ⟨b,0,none⟩ 1 c [u] rfl (fun j y hj=>?_) (fun y hy=>by simp only [List.mem_singleton] at hy; rw [hy]; exact ho1)
  cases j with
  | zero=>simp at hj; subst hj; simpa [Addr.add] using hc
  | succ j=>simp at hj
 refine wpList_plain hgd fun K hK=>?_
 obtain ⟨v',w',hr,h2,h3,h4⟩:=Own.run_append_src (P:=Tryz.prog) 32 32 o.type B 9 i0 _ 1 16 Tryz.underlying32 hi hz0 hz1 hz2 rfl v n xs hown _ 1 [u] hsrc (by simp only [maxLen]; omega) (by omega) hB
 unfold Oper.wp execOp
 simp only [ho,resolve,invoke,builtin,Sem.run_bind,Sem.run_pure,Result.andThen_ok,List.map_toArray,List.map_cons,List.map_nil,hv,hx,hr]
 exact hK _ _ (h v' w' h2 h3 h4)
def unq:List Bs → List Bs → List Bs
 | U,[]=>U
 | U,n :: r=>unq (if n ∈ U then U else U ++ [n]) r
theorem unq_snoc:∀ (l U:List Bs) (n:Bs),unq U (l ++ [n]) = if n ∈ unq U l then unq U l else unq U l ++ [n]
 | [],U,n=>rfl
 | m :: r,U,n=>unq_snoc r _ n
theorem unq_mem:∀ {l U:List Bs} {x:Bs},x ∈ unq U l ↔ x ∈ U ∨ x ∈ l
 | [],U,x=>by unfold unq; simp
 | m :: r,U,x=>by
  unfold unq
  rw [unq_mem]
  by_cases h:m ∈ U
  ·rw [if_pos h,List.mem_cons]
   constructor
   ·rintro (h1 | h1)
    ·exact .inl h1
    ·exact .inr (.inr h1)
   ·rintro (h1 | rfl | h1)
    ·exact .inl h1
    ·exact .inl h
    ·exact .inr h1
  ·rw [if_neg h,List.mem_append,List.mem_singleton,List.mem_cons]
   constructor
   ·rintro ((h1 | h1) | h1)
    ·exact .inl h1
    ·exact .inr (.inl h1)
    ·exact .inr (.inr h1)
   ·rintro (h1 | h1 | h1)
    ·exact .inl (.inl h1)
    ·exact .inl (.inr h1)
    ·exact .inr h1
theorem unq_nodup:∀ {l U:List Bs},U.Nodup → (unq U l).Nodup
 | [],U,h=>h
 | m :: r,U,h=>by
  unfold unq
  refine unq_nodup ?_
  split
  ·exact h
  ·rename_i hn
   rw [List.nodup_append]
   refine ⟨h,by simp,fun a ha b hb e=>hn ?_⟩
   rw [List.mem_singleton.1 hb] at e
   exact e ▸ ha
theorem unq_len:∀ (l U:List Bs),(unq U l).length ≤ U.length + l.length
 | [],U=>by unfold unq; simp
 | m :: r,U=>by
  unfold unq
  have:=unq_len r (if m ∈ U then U else U ++ [m])
  have h2:(if m ∈ U then U else U ++ [m]).length ≤ U.length + 1:=by split <;> simp
  simp only [List.length_cons]
  omega
set_option maxRecDepth 100000 in
set_option maxHeartbeats 8000000 in
theorem yunique_any (v:Value) (W:List Bs) (w:World) (h:Txt.Texts w v (W.map S)) (hl:W.length ≤ 1000000) :
  Calls Tryz.prog 32 #[v] w fun e w'=>∃ v',e = .returned v' ∧ w'.ownsRow w.heap.size 9 1 v' (unq [] W).length (tx (unq [] W)) ∧ Below w.heap.size w w':=by
 obtain ⟨hmx,sa,cap,rfl,hcap,hread⟩:=h
 rw [List.length_map] at hcap hmx hread ⊢
 have HR:=Lib.hid hread
 obtain ⟨n,hn⟩:∃ n,W.length = n:=⟨_,rfl⟩
 have HN:=Lib.hid hn
 rw [hn] at HR hcap hmx hl ⊢
 clear hn hread
 go_enter Tryz.func32,Tryz.ntmps32
 go_wp2_with fail
 go_loopg [3,11] n (fun gf s3 s11 wx=>∃ (k:Nat) (va:Option Addr) (L vc:Nat),s3 = .slice va L vc ∧ s11 = .int .i64 k ∧ Hid (wx.ownsRow w.heap.size 9 1 (.slice va L vc) L (tx (unq [] (W.take k)))) ∧ Hid ((unq [] (W.take k)).length = L) ∧ Hid (Below w.heap.size w wx) ∧ k ≤ n ∧ n ≤ k + gf)
 case atStart=>exact ⟨0,none,0,0,rfl,rfl,Lib.hid (World.ownsRow_nil _ _ _ _),Lib.hid rfl,Lib.hid (Below.refl _ _),by omega,by omega⟩
 case round =>
  rename World=>wk
  obtain ⟨k,va,L,vc,rfl,rfl,HO,HL,HB,hkn,hfu⟩:=hrel
  by_cases hlt:k < n
  ·obtain ⟨g',rfl⟩:∃ g',gk = g' + 1:=⟨gk - 1,by omega⟩
   have hlt':(k:Int) < (n:Int):=by omega
   have hk0:(0:Int) ≤ k:=by omega
   have hkl:k < W.length:=by rw [HN.out]; exact hlt
   obtain ⟨kb,off,rfl,hat⟩:=HR.out (by omega)
   have x0:=hat k hlt
   have e0:(W.map S).getD k ByteArray.empty = S (W.getD k []):=by simp [List.getD_eq_getElem?_getD,hkl]
   rw [e0] at x0
   replace x0:=Rl.cell_on x0 HB.out
   have htk:=take_snoc5 (z:=([]:Bs)) hkl
   obtain ⟨nm,hnm⟩:∃ nm,W.getD k [] = nm:=⟨_,rfl⟩
   rw [hnm] at x0 htk
   obtain ⟨U,hU⟩:∃ U,unq [] (W.take k) = U:=⟨_,rfl⟩
   have hnext:unq [] (W.take (k + 1)) = if nm ∈ U then U else U ++ [nm]:=by rw [htk,unq_snoc,hU]
   rw [hU] at HO HL
   have hLk:L ≤ k:=by
    have:=unq_len (W.take k) []
    rw [hU,HL.out,List.length_take] at this
    simp at this
    omega
   have HNX:=Lib.hid hnext
   clear hat e0 htk hnm hU hnext hkl
   go_wp2_with fail
   clear x0
   go_loopg [6,17] L (fun gf s6 s17 wx=>∃ q:Nat,s6 = .bool (decide (nm ∈ U.take q)) ∧ s17 = .int .i64 q ∧ wx = wk ∧ q ≤ L ∧ L ≤ q + gf)
   case atStart=>exact ⟨0,by simp,rfl,rfl,by omega,by omega⟩
   case round =>
    obtain ⟨q,rfl,rfl,hww,hqn,hfq⟩:=hrel
    obtain rfl:wk = wr:=hww.symm
    by_cases hlq:q < L
    ·obtain ⟨g2,rfl⟩:∃ g2,gk = g2 + 1:=⟨gk - 1,by omega⟩
     have hlq':(q:Int) < (L:Int):=by omega
     have hq0:(0:Int) ≤ q:=by omega
     have hql:q < U.length:=by rw [HL.out]; exact hlq
     obtain ⟨gb,gc,e2,_⟩:=Rl.own_slice HO.out (by omega)
     simp only [Value.slice.injEq,true_and] at e2
     obtain ⟨rfl,rfl⟩:=e2
     obtain ⟨y,hy⟩:∃ y,U[q]? = some y:=⟨U[q],List.getElem?_eq_getElem hql⟩
     have y0:=Rl.own_cell HO.out (i:=q) (u:=.string (S y)) (by unfold tx; rw [List.getElem?_map,hy]; rfl)
     have htk:U.take (q + 1) = U.take q ++ [y]:=by rw [List.take_add_one,hy]; rfl
     have hq:((S y).toList == (S nm).toList) = decide (y = nm):=Rl.S_beq _ _
     have hnext:decide (nm ∈ U.take (q + 1)) = (decide (nm ∈ U.take q) || decide (y = nm)):=by
      rw [htk]
      by_cases e1:nm ∈ U.take q
      ·simp [e1]
      ·by_cases e2:y = nm
       ·subst e2; simp
       ·simp [e1,e2,Ne.symm e2]
     have HNQ:=Lib.hid hnext
     obtain ⟨B1,hB1⟩:∃ B1,decide (nm ∈ U.take q) = B1:=⟨_,rfl⟩
     obtain ⟨B2,hB2⟩:∃ B2,decide (y = nm) = B2:=⟨_,rfl⟩
     rw [hB1,hB2] at HNQ
     rw [hB2] at hq
     rw [hB1]
     clear hy htk hnext hB1 hB2 hql
     cases B1 with
     | true =>
      go_wp2_with fail
      go_roundg g2
      case measure=>omega
      case rel=>exact ⟨q + 1,by rw [HNQ.out]; rfl,by go_num,rfl,by omega,by omega⟩
     | false =>
      cases B2 with
      | true =>
       go_wp2_with fail
       go_roundg g2
       case measure=>omega
       case rel=>exact ⟨q + 1,by rw [HNQ.out]; rfl,by go_num,rfl,by omega,by omega⟩
      | false =>
       go_wp2_with fail
       go_roundg g2
       case measure=>omega
       case rel=>exact ⟨q + 1,by rw [HNQ.out]; rfl,by go_num,rfl,by omega,by omega⟩
    ·have hge:¬ (L:Int) < (L:Int):=by omega
     obtain rfl:L = q:=by omega
     rw [List.take_of_length_le (Nat.le_of_eq HL.out)]
     by_cases hin:nm ∈ U
     ·rw [decide_eq_true hin]
      rw [if_pos hin] at HNX
      clear hin
      go_wp2_with fail
      go_roundg g'
      case measure=>omega
      case rel=>exact ⟨k + 1,va,L,vc,rfl,by go_num,by rw [HNX.out]; exact HO,by rw [HNX.out]; exact HL,HB,by omega,by omega⟩
     ·rw [decide_eq_false hin]
      rw [if_neg hin] at HNX
      have hb4:=(Below.refl wk.heap.size wk).alloc (Nat.le_refl _) (.cells #[.string (S nm)] 9)
      have i4:=Blk.Is.new wk 9 #[.string (S nm)]
      obtain ⟨W4,hW4⟩:∃ W4,wk.alloc (.cells #[.string (S nm)] 9) = W4:=⟨_,rfl⟩
      rw [hW4] at hb4 i4
      have R4:=Lib.hid (Own.owns_below HO.out hb4)
      have C0:=Lib.hid (i4.at (i:=0) rfl)
      have B4:=Lib.hid (HB.out.trans (hb4.mono HB.out.size))
      have SZ:=Lib.hid B4.out.size
      have HW4:=Lib.hid hW4
      clear hin hb4 i4 hW4
      go_wp2_with (at_builtin; (try rw [HW4.out]); refine append_txb rfl (.tmp 30) (.tmp 32) rfl w.heap.size (.slice va L vc) L (tx U) rfl R4.out wk.heap.size 1 rfl (.string (S nm)) C0.out rfl (by omega) SZ.out ?_; intro v5 w5 o5 g5 l5; have b5:=Own.below_grown B4.out R4.out g5 SZ.out; obtain ⟨gg,cc,rfl,_⟩:=Rl.own_slice o5 (by omega); have O5:=Lib.hid o5; have B5:=Lib.hid b5; clear o5 g5 l5 b5)
      go_roundg g'
      case measure=>omega
      case rel=>exact ⟨k + 1,_,L + 1,_,rfl,by go_num,by rw [HNX.out,tx_app]; exact O5,by rw [HNX.out]; show List.length _ = _; rw [List.length_append,HL.out]; rfl,B5,by omega,by omega⟩
  ·have hge:¬ (n:Int) < (n:Int):=by omega
   obtain rfl:n = k:=by omega
   rw [List.take_of_length_le (Nat.le_of_eq HN.out)] at HO HL
   go_wp2_with fail
   go_ret
   exact ⟨_,rfl,by rw [HL.out]; exact HO.out,HB.out⟩
end Un
end Go.Proofs.YtmhpjjjjgakpiaaGreatDoor

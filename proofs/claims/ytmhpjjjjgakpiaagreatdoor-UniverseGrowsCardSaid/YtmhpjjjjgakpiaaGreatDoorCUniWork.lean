/-
The names that have entered a worklist, and those that have not: in memory.
-/
import Derived.Test.YtmhpjjjjgakpiaaGreatDoorCUniDef
import Derived.Test.YtmhpjjjjgakpiaaGreatDoorCIxMap
import Derived.Test.YtmhpjjjjgakpiaaGreatDoorCIxDef
import Derived.Test.YtmhpjjjjgakpiaaGreatDoorCTextTexts
import Derived.Maps.OwnSet
namespace Go.Proofs.YtmhpjjjjgakpiaaGreatDoor
open Go.RowKit
set_option linter.unusedSimpArgs false
set_option linter.unusedVariables false
namespace Un
open Ver (Bs S S_size)
open Ix (law key_of LimS)
open Rc (In)
/-! ### a set of names -/
theorem zeroU (w:World):(zeroValue 94).run Tryz.prog w = .ok (.agg #[]) w:=by kernel_rfl
def SetM (w:World) (b n:Nat) (ks:Bs → Bool):Prop:=∃ D:DataW Value,w.ownsMap Tryz.prog 9 unitElem b n D ∧ ∀ nm,Maps.has D (.string nm) = ks nm
theorem mapOf {w:World} {b n:Nat} {D:DataW Value} (h:w.ownsMap Tryz.prog 9 unitElem b n D):Maps.IsMap D:=h.isMap
theorem SetM.chg {w w':World} {b n:Nat} {ks:Bs → Bool} {Q:Nat → Prop} (h:SetM w b n ks) (hc:Blk.Chg Q w w') (hn:¬ Q b):SetM w' b n ks:=by
 obtain ⟨D,⟨es,clock,h1,h2,h3,h4⟩,r⟩:=h
 exact ⟨D,⟨es,clock,(hc.block b (Array.getElem?_eq_some_iff.1 h1).1 hn).trans h1,h2,h3,h4⟩,r⟩
theorem SetM.below {w w':World} {b n:Nat} {ks:Bs → Bool} (h:SetM w b n ks) (hb:Below w.heap.size w w'):SetM w' b n ks:=h.chg (Blk.Chg.ofBelow' (S:=fun _=>False) hb) fun h=>h
theorem SetM.lt {w:World} {b n:Nat} {ks:Bs → Bool} (h:SetM w b n ks):b < w.heap.size:=by
 obtain ⟨D,h1,_⟩:=h
 exact h1.lt
theorem SetM.mono {w:World} {b n n':Nat} {ks:Bs → Bool} (h:SetM w b n ks) (hn:n ≤ n'):SetM w b n' ks:=by
 obtain ⟨D,h1,r⟩:=h
 exact ⟨D,h1.mono hn,r⟩
theorem SetM.made (w:World):SetM (w.alloc (.map #[] 0)) w.heap.size 0 (fun _=>false):=⟨.map [],World.ownsMap_made w _ _ _,fun nm=>rfl⟩
theorem SetM.look {w:World} {b n:Nat} {ks:Bs → Bool} (h:SetM w b n ks) {nm:Bs} (hs:LimS nm):(Instr.lookup 91 (.map (some b)) (.string (S nm)) true).run Tryz.prog w = .ok (.tuple #[.agg #[],.bool (ks nm)]) w:=by
 obtain ⟨D,h1,h2⟩:=h
 obtain ⟨v,ps,hr,hv⟩:=h1.look_ok law Tryz.underlying91 (zeroU w) unitElem_mk (key_of hs)
 obtain ⟨rfl,_⟩:=unitElem_inv hv
 rw [hr,h2 nm]
theorem SetM.drop {w:World} {b n:Nat} {ks:Bs → Bool} (h:SetM w b n ks) {nm:Bs} (hs:LimS nm) (ty:TypeId) :
  ∃ w',(Builtin.delete_ #[91,9] ty #[.map (some b),.string (S nm)]).run Tryz.prog w = .ok (.tuple #[]) w' ∧ SetM w' b n (fun x=>if x = nm then false else ks x) ∧ w.grownBy w' (some b):=by
 obtain ⟨D,h1,h2⟩:=h
 obtain ⟨w',hr,ho,ht⟩:=h1.drop law Tryz.underlying91 (key_of hs) ty
 refine ⟨w',hr,⟨_,ho,fun x=>?_⟩,ht.grown⟩
 show _ = (if x = nm then false else ks x)
 by_cases e:x = nm
 ·subst e
  rw [if_pos rfl,Maps.has_del_same]
 ·rw [if_neg e,Maps.has_del_other (fun hh=>e (by injection hh)),h2 x]
theorem SetM.put {w:World} {b n:Nat} {ks:Bs → Bool} (h:SetM w b n ks) {nm:Bs} (hs:LimS nm) (hn:n ≤ 100000) :
  ∃ w',(Instr.mapUpdate 91 (.map (some b)) (.string (S nm)) (.agg #[])).run Tryz.prog w = .ok () w' ∧ SetM w' b (n + 1) (fun x=>if x = nm then true else ks x) ∧ w.grownBy w' (some b):=by
 obtain ⟨D,h1,h2⟩:=h
 obtain ⟨w',hr,ho,hg⟩:=h1.update law Tryz.underlying91 (by unfold maxLen; omega) (key_of hs) (val:=.agg #[]) unitElem_mk
 refine ⟨w',hr,⟨_,ho,fun x=>?_⟩,hg⟩
 show _ = (if x = nm then true else ks x)
 by_cases e:x = nm
 ·subst e
  rw [if_pos rfl,Maps.has_put_same (mapOf h1) (law.key (key_of hs))]
 ·rw [if_neg e,Maps.has_put_other (fun hh=>e (by injection hh)),h2 x]
theorem SetM.eq {w:World} {b n:Nat} {ks ks':Bs → Bool} (h:SetM w b n ks) (e:∀ nm,ks nm = ks' nm):SetM w b n ks':=by
 have:ks = ks':=funext e
 rw [← this]; exact h
/-! ### texts of the call's own -/
def tx (l:List Bs):List Value:=l.map fun s=>Value.string (S s)
theorem tx_app (l:List Bs) (s:Bs):tx (l ++ [s]) = tx l ++ [.string (S s)]:=by unfold tx; rw [List.map_append]; rfl
theorem tx_map (l:List Bs):(l.map S).map Value.string = tx l:=by unfold tx; rw [List.map_map]; rfl
theorem infoTx:(Tryz.prog.info? 9).map (fun i=>(i.zero,i.size,i.bytes)) = some (some (.string ByteArray.empty),1,16):=by kernel_rfl
theorem append_tx {w:World} {ops:Array Oper} {rest:List Oper} {o:Oper} {a:Act} {Q:Exit → Act → World → Prop} (hgd:o.guard = none) (s x:Operand)
  (ho:o.op = .call { callee:=.builtin .append,args:=#[s,x],argTypes:=#[32,32] })
  (B:Nat) (v:Value) (n:Nat) (xs:List Value) (hv:a.eval s = v) (hown:w.ownsRow B 9 1 v n xs) (b c:Nat) (hx:a.eval x = .slice (some ⟨b,0,none⟩) 1 c) (u:Value) (hc:w.cell? ⟨b,0,none⟩ = some u) (ho1:u.oneCell' = true) (hn:n + 1 ≤ 70000) (hB:B ≤ w.heap.size)
  (h:∀ v' w',w'.ownsRow B 9 1 v' (n + 1) (xs ++ [u]) → w.grownBy w' v.ownBlock → (∀ k,v'.ownBlock = some k → v.ownBlock = some k ∨ w.heap.size ≤ k) → wpList Tryz.prog ops Q rest (a.put o.dst v') w'):wpList Tryz.prog ops Q (o :: rest) a w:=by
 obtain ⟨i0,hi,hz0,hz1,hz2⟩:=info_parts infoTx
 have hsrc:Src Tryz.prog 1 32 (.slice (some ⟨b,0,none⟩) 1 c) 1 [u] w:=by
  refine Src.ofSlice w Tryz.underlying32 ⟨b,0,none⟩ 1 c [u] rfl (fun j y hj=>?_) (fun y hy=>by simp only [List.mem_singleton] at hy; rw [hy]; exact ho1)
  cases j with
  | zero=>simp at hj; subst hj; simpa [Addr.add] using hc
  | succ j=>simp at hj
 refine wpList_plain hgd fun K hK=>?_
 obtain ⟨v',w',hr,h2,h3,h4⟩:=Own.run_append_src (P:=Tryz.prog) 32 32 o.type B 9 i0 _ 1 16 Tryz.underlying32 hi hz0 hz1 hz2 rfl v n xs hown _ 1 [u] hsrc (by simp only [maxLen]; omega) (by omega) hB
 unfold Oper.wp execOp
 simp only [ho,resolve,invoke,builtin,Sem.run_bind,Sem.run_pure,Result.andThen_ok,List.map_toArray,List.map_cons,List.map_nil,hv,hx,hr]
 exact hK _ _ (h v' w' h2 h3 h4)
/-! ### the worklist -/
def ent1 (NX W:List Bs) (n:Bs):List Bs:=if n ∈ NX ∧ n ∉ W then W ++ [n] else W
def ent (NX:List Bs):List Bs → List Bs → List Bs
 | W,[]=>W
 | W,n :: r=>ent NX (ent1 NX W n) r
theorem ent_snoc (NX:List Bs):∀ (ns W:List Bs) (n:Bs),ent NX W (ns ++ [n]) = ent1 NX (ent NX W ns) n
 | [],_,_=>rfl
 | m :: r,W,n=>ent_snoc NX r (ent1 NX W m) n
theorem ent_app (NX:List Bs):∀ (ns ms W:List Bs),ent NX W (ns ++ ms) = ent NX (ent NX W ns) ms
 | [],_,_=>rfl
 | m :: r,ms,W=>ent_app NX r ms (ent1 NX W m)
theorem ent1_mem {NX W:List Bs} {n x:Bs}:x ∈ ent1 NX W n ↔ x ∈ W ∨ (x = n ∧ n ∈ NX):=by
 unfold ent1
 split
 ·rename_i h
  rw [List.mem_append,List.mem_singleton]
  exact ⟨fun h'=>h'.imp id fun e=>⟨e,h.1⟩,fun h'=>h'.imp id fun e=>e.1⟩
 ·rename_i h
  refine ⟨.inl,fun h'=>?_⟩
  rcases h' with h' | ⟨rfl,h'⟩
  ·exact h'
  ·exact Decidable.of_not_not fun hn=>h ⟨h',hn⟩
theorem ent_mem {NX:List Bs}:∀ {ns W:List Bs} {x:Bs},x ∈ ent NX W ns ↔ x ∈ W ∨ (x ∈ ns ∧ x ∈ NX)
 | [],W,x=>by unfold ent; simp
 | n :: r,W,x=>by
  unfold ent
  rw [ent_mem,ent1_mem,List.mem_cons]
  constructor
  ·rintro ((h | ⟨rfl,h⟩) | h)
   ·exact .inl h
   ·exact .inr ⟨.inl rfl,h⟩
   ·exact .inr ⟨.inr h.1,h.2⟩
  ·rintro (h | ⟨rfl | h,h'⟩)
   ·exact .inl (.inl h)
   ·exact .inl (.inr ⟨rfl,h'⟩)
   ·exact .inr ⟨h,h'⟩
structure WL (w:World) (M wb ob pb:Nat) (v:Value) (NX W:List Bs):Prop where
 blk:Blk.Is w wb 93 #[.pointer (some ⟨pb,0,none⟩),v,.map (some ob)]
 set:SetM w ob 60000 (fun nm=>decide (nm ∈ NX ∧ nm ∉ W))
 row:w.ownsRow M 9 1 v W.length (tx W)
 wlt:wb < M
 olt:ob < M
 ne:wb ≠ ob
 le:M ≤ w.heap.size
 nd:W.Nodup
 sub:∀ n ∈ W,n ∈ NX
 few:NX.length ≤ 60000
theorem WL.len {w:World} {M wb ob pb:Nat} {v:Value} {NX W:List Bs} (h:WL w M wb ob pb v NX W):W.length ≤ 60000:=Nat.le_trans (Ix.len_le h.nd h.sub) h.few
def Own3 (wb ob:Nat) (v:Value) (k:Nat):Prop:=k = wb ∨ k = ob ∨ v.ownBlock = some k
theorem WL.chg {w w':World} {M wb ob pb:Nat} {v:Value} {NX W:List Bs} {Q:Nat → Prop} (h:WL w M wb ob pb v NX W) (hc:Blk.Chg Q w w') (hn:∀ k,Own3 wb ob v k → ¬ Q k):WL w' M wb ob pb v NX W :=
 ⟨hc.is h.blk (hn _ (.inl rfl)),h.set.chg hc (hn _ (.inr (.inl rfl))),hc.owns h.row fun k hk=>hn _ (.inr (.inr hk)),h.wlt,h.olt,h.ne,Nat.le_trans h.le hc.size,h.nd,h.sub,h.few⟩
theorem WL.below {w w':World} {M wb ob pb:Nat} {v:Value} {NX W:List Bs} (h:WL w M wb ob pb v NX W) (hb:Below w.heap.size w w'):WL w' M wb ob pb v NX W:=h.chg (Blk.Chg.ofBelow' (S:=fun _=>False) hb) fun _ _ h=>h
theorem WL.take {w1 w2 w3 w4:World} {M wb ob pb:Nat} {v v':Value} {NX W:List Bs} {n:Bs} (h:WL w1 M wb ob pb v NX W) (hn:n ∈ NX) (hW:n ∉ W)
  (hs:SetM w2 ob 60000 (fun x=>if x = n then false else decide (x ∈ NX ∧ x ∉ W))) (hg:w1.grownBy w2 (some ob))
  (ho:w3.ownsRow M 9 1 v' (W.length + 1) (tx W ++ [.string (S n)])) (c23:Blk.Chg (fun k=>v.ownBlock = some k) w2 w3) (hv:∀ k,v'.ownBlock = some k → v.ownBlock = some k ∨ w2.heap.size ≤ k)
  (h4:w4 = w3.setCell ⟨wb,1,none⟩ v') :
  WL w4 M wb ob pb v' NX (ent1 NX W n) ∧ Blk.Chg (Own3 wb ob v) w1 w4 ∧ ∀ k,v'.ownBlock = some k → v.ownBlock = some k ∨ w1.heap.size ≤ k:=by
 have e1:ent1 NX W n = W ++ [n]:=by unfold ent1; rw [if_pos ⟨hn,hW⟩]
 have hrow:∀ k,v.ownBlock = some k → M ≤ k:=fun k hk=>(Rl.own_lt h.row hk).1
 have c12:Blk.Chg (fun k=>k = ob) w1 w2:=(Blk.Chg.refl _ w1).grown hg fun k hk _=>(Option.some.inj hk).symm
 have c34:Blk.Chg (fun k=>k = wb) w3 w4:=by rw [h4]; exact (Blk.Chg.refl _ w3).setAt rfl
 have i3:=c23.is (c12.is h.blk h.ne) fun hk=>by have:=hrow _ hk; have:=h.wlt; omega
 have i4:=i3.set 1 v'
 rw [← h4] at i4
 refine ⟨⟨i4,?_,?_,h.wlt,h.olt,h.ne,Nat.le_trans h.le (Nat.le_trans c12.size (Nat.le_trans c23.size c34.size)),?_,?_,h.few⟩,?_,fun k hk=>(hv k hk).imp id fun h5=>Nat.le_trans c12.size h5⟩
 ·refine (((hs.chg c23 fun hk=>?_).chg c34 fun e=>h.ne e.symm)).eq fun x=>?_
  ·have:=hrow _ hk; have:=h.olt; omega
  ·rw [e1]
   by_cases e:x = n
   ·subst e
    simp
   ·rw [if_neg e]
    simp [e]
 ·rw [e1,tx_app,List.length_append]
  exact c34.owns ho fun k hk e=>by have:=(Rl.own_lt ho hk).1; have:=h.wlt; omega
 ·rw [e1,List.nodup_append]
  refine ⟨h.nd,by simp,fun a ha c hc e=>?_⟩
  rw [List.mem_singleton.1 hc] at e
  exact hW (e ▸ ha)
 ·intro x hx
  rw [e1] at hx
  rcases List.mem_append.1 hx with hx | hx
  ·exact h.sub x hx
  ·rw [List.mem_singleton.1 hx]; exact hn
 ·exact ((c12.mono fun k _ hk=>.inr (.inl hk)).trans (c23.mono fun k _ hk=>.inr (.inr hk))).trans (c34.mono fun k _ hk=>.inl hk)
theorem WL.stay {w:World} {M wb ob pb:Nat} {v:Value} {NX W:List Bs} {n:Bs} (h:WL w M wb ob pb v NX W) (hn:¬ (n ∈ NX ∧ n ∉ W)):WL w M wb ob pb v NX (ent1 NX W n):=by
 have e1:ent1 NX W n = W:=by unfold ent1; rw [if_neg hn]
 rw [e1]; exact h
def Apart (b m wb ob:Nat) (v:Value):Prop:=∀ k,Own3 wb ob v k → k < b ∨ m ≤ k
end Un
end Go.Proofs.YtmhpjjjjgakpiaaGreatDoor

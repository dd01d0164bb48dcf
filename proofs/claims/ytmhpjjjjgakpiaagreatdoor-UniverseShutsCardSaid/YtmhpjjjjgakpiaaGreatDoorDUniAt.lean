/-
The names that have entered a worklist, and those that have not: in memory. enter: names enter a worklist. Len, At. At tells a package whose lists are the call's own.
-/
import Derived.Test.YtmhpjjjjgakpiaaGreatDoorDUniDef
import Derived.Test.YtmhpjjjjgakpiaaGreatDoorDIxMap
import Derived.Test.YtmhpjjjjgakpiaaGreatDoorDTextTexts
import Derived.Maps.OwnSet
import Derived.StillTail
import Derived.StillTailTactics
import Derived.Test.YtmhpjjjjgakpiaaGreatDoorDIxIns
import Derived.Test.YtmhpjjjjgakpiaaGreatDoorDIxOwn2
namespace Go.Proofs.YtmhpjjjjgakpiaaGreatDoor
open Go.RowKit
set_option linter.unusedSimpArgs false
set_option linter.unusedVariables false
namespace Un
open Ver (Bs S S_size)
open Ix (law key_of LimS)
open Rc (In)
/-! ### a set of names -/
theorem zeroU (w:World):(zeroValue 94).run Tryz.prog w = .ok (.agg #[]) w:=by kernel_rfl
def SetM (w:World) (b n:Nat) (ks:Bs → Bool):Prop:=∃ D:DataW Value,w.ownsMap Tryz.prog 9 unitElem b n D ∧ ∀ nm,Maps.has D (.string nm) = ks nm
theorem mapOf {w:World} {b n:Nat} {D:DataW Value} (h:w.ownsMap Tryz.prog 9 unitElem b n D):Maps.IsMap D:=h.isMap
theorem SetM.chg {w w':World} {b n:Nat} {ks:Bs → Bool} {Q:Nat → Prop} (h:SetM w b n ks) (hc:Blk.Chg Q w w') (hn:¬ Q b):SetM w' b n ks:=by
 obtain ⟨D,⟨es,clock,h1,h2,h3,h4⟩,r⟩:=h
 exact ⟨D,⟨es,clock,(hc.block b (Array.getElem?_eq_some_iff.1 h1).1 hn).trans h1,h2,h3,h4⟩,r⟩
theorem SetM.below {w w':World} {b n:Nat} {ks:Bs → Bool} (h:SetM w b n ks) (hb:Below w.heap.size w w'):SetM w' b n ks:=h.chg (Blk.Chg.ofBelow' (S:=fun _=>False) hb) fun h=>h
theorem SetM.lt {w:World} {b n:Nat} {ks:Bs → Bool} (h:SetM w b n ks):b < w.heap.size:=by
 obtain ⟨D,h1,_⟩:=h
 exact h1.lt
theorem SetM.mono {w:World} {b n n':Nat} {ks:Bs → Bool} (h:SetM w b n ks) (hn:n ≤ n'):SetM w b n' ks:=by
 obtain ⟨D,h1,r⟩:=h
 exact ⟨D,h1.mono hn,r⟩
theorem SetM.made (w:World):SetM (w.alloc (.map #[] 0)) w.heap.size 0 (fun _=>false):=⟨.map [],World.ownsMap_made w _ _ _,fun nm=>rfl⟩
theorem SetM.look {w:World} {b n:Nat} {ks:Bs → Bool} (h:SetM w b n ks) {nm:Bs} (hs:LimS nm):(Instr.lookup 91 (.map (some b)) (.string (S nm)) true).run Tryz.prog w = .ok (.tuple #[.agg #[],.bool (ks nm)]) w:=by
 obtain ⟨D,h1,h2⟩:=h
 obtain ⟨v,ps,hr,hv⟩:=h1.look_ok law Tryz.underlying91 (zeroU w) unitElem_mk (key_of hs)
 obtain ⟨rfl,_⟩:=unitElem_inv hv
 rw [hr,h2 nm]
theorem SetM.drop {w:World} {b n:Nat} {ks:Bs → Bool} (h:SetM w b n ks) {nm:Bs} (hs:LimS nm) (ty:TypeId) :
  ∃ w',(Builtin.delete_ #[91,9] ty #[.map (some b),.string (S nm)]).run Tryz.prog w = .ok (.tuple #[]) w' ∧ SetM w' b n (fun x=>if x = nm then false else ks x) ∧ w.grownBy w' (some b):=by
 obtain ⟨D,h1,h2⟩:=h
 obtain ⟨w',hr,ho,ht⟩:=h1.drop law Tryz.underlying91 (key_of hs) ty
 refine ⟨w',hr,⟨_,ho,fun x=>?_⟩,ht.grown⟩
 show _ = (if x = nm then false else ks x)
 by_cases e:x = nm
 ·subst e
  rw [if_pos rfl,Maps.has_del_same]
 ·rw [if_neg e,Maps.has_del_other (fun hh=>e (by injection hh)),h2 x]
theorem SetM.put {w:World} {b n:Nat} {ks:Bs → Bool} (h:SetM w b n ks) {nm:Bs} (hs:LimS nm) (hn:n ≤ 100000) :
  ∃ w',(Instr.mapUpdate 91 (.map (some b)) (.string (S nm)) (.agg #[])).run Tryz.prog w = .ok () w' ∧ SetM w' b (n + 1) (fun x=>if x = nm then true else ks x) ∧ w.grownBy w' (some b):=by
 obtain ⟨D,h1,h2⟩:=h
 obtain ⟨w',hr,ho,hg⟩:=h1.update law Tryz.underlying91 (by unfold maxLen; omega) (key_of hs) (val:=.agg #[]) unitElem_mk
 refine ⟨w',hr,⟨_,ho,fun x=>?_⟩,hg⟩
 show _ = (if x = nm then true else ks x)
 by_cases e:x = nm
 ·subst e
  rw [if_pos rfl,Maps.has_put_same (mapOf h1) (law.key (key_of hs))]
 ·rw [if_neg e,Maps.has_put_other (fun hh=>e (by injection hh)),h2 x]
theorem SetM.eq {w:World} {b n:Nat} {ks ks':Bs → Bool} (h:SetM w b n ks) (e:∀ nm,ks nm = ks' nm):SetM w b n ks':=by
 have:ks = ks':=funext e
 rw [← this]; exact h
/-! ### texts of the call's own -/
def tx (l:List Bs):List Value:=l.map fun s=>Value.string (S s)
theorem tx_app (l:List Bs) (s:Bs):tx (l ++ [s]) = tx l ++ [.string (S s)]:=by unfold tx; rw [List.map_append]; rfl
theorem tx_map (l:List Bs):(l.map S).map Value.string = tx l:=by unfold tx; rw [List.map_map]; rfl
theorem infoTx:(Tryz.prog.info? 9).map (fun i=>(i.zero,i.size,i.bytes)) = some (some (.string ByteArray.empty),1,16):=by kernel_rfl
theorem append_tx {w:World} {ops:Array Oper} {rest:List Oper} {o:Oper} {a:Act} {Q:Exit → Act → World → Prop} (hgd:o.guard = none) (s x:Operand)
  (ho:o.op = .call { callee:=.builtin .append,args:=#[s,x],argTypes:=#[32,32] })
  (B:Nat) (v:Value) (n:Nat) (xs:List Value) (hv:a.eval s = v) (hown:w.ownsRow B 9 1 v n xs) (b c:Nat) (hx:a.eval x = .slice (some ⟨b,0,none⟩) 1 c) (u:Value) (hc:w.cell? ⟨b,0,none⟩ = some u) (ho1:u.oneCell' = true) (hn:n + 1 ≤ 70000) (hB:B ≤ w.heap.size)
  (h:∀ v' w',w'.ownsRow B 9 1 v' (n + 1) (xs ++ [u]) → w.grownBy w' v.ownBlock → (∀ k,v'.ownBlock = some k → v.ownBlock = some k ∨ w.heap.size ≤ k) → wpList Tryz.prog ops Q rest (a.put o.dst v') w'):wpList Tryz.prog ops Q (o :: rest) a w:=by
 obtain ⟨i0,hi,hz0,hz1,hz2⟩:=info_parts infoTx
 have hsrc:Src Tryz.prog 1 32 (.slice (some ⟨b,0,none⟩) 1 c) 1 [u] w:=by
  refine Src.ofSlice w Tryz.underlying32 ⟨b,0,none⟩ 1 c [u] rfl (fun j y hj=>?_) (fun y hy=>by simp only [List.mem_singleton] at hy; rw [hy]; exact ho1)
  cases j with
  | zero=>simp at hj; subst hj; simpa [Addr.add] using hc
  | succ j=>simp at hj
 refine wpList_plain hgd fun K hK=>?_
 obtain ⟨v',w',hr,h2,h3,h4⟩:=Own.run_append_src (P:=Tryz.prog) 32 32 o.type B 9 i0 _ 1 16 Tryz.underlying32 hi hz0 hz1 hz2 rfl v n xs hown _ 1 [u] hsrc (by simp only [maxLen]; omega) (by omega) hB
 unfold Oper.wp execOp
 simp only [ho,resolve,invoke,builtin,Sem.run_bind,Sem.run_pure,Result.andThen_ok,List.map_toArray,List.map_cons,List.map_nil,hv,hx,hr]
 exact hK _ _ (h v' w' h2 h3 h4)
/-! ### the worklist -/
def ent1 (NX W:List Bs) (n:Bs):List Bs:=if n ∈ NX ∧ n ∉ W then W ++ [n] else W
def ent (NX:List Bs):List Bs → List Bs → List Bs
 | W,[]=>W
 | W,n :: r=>ent NX (ent1 NX W n) r
theorem ent_snoc (NX:List Bs):∀ (ns W:List Bs) (n:Bs),ent NX W (ns ++ [n]) = ent1 NX (ent NX W ns) n
 | [],_,_=>rfl
 | m :: r,W,n=>ent_snoc NX r (ent1 NX W m) n
theorem ent_app (NX:List Bs):∀ (ns ms W:List Bs),ent NX W (ns ++ ms) = ent NX (ent NX W ns) ms
 | [],_,_=>rfl
 | m :: r,ms,W=>ent_app NX r ms (ent1 NX W m)
theorem ent1_mem {NX W:List Bs} {n x:Bs}:x ∈ ent1 NX W n ↔ x ∈ W ∨ (x = n ∧ n ∈ NX):=by
 unfold ent1
 split
 ·rename_i h
  rw [List.mem_append,List.mem_singleton]
  exact ⟨fun h'=>h'.imp id fun e=>⟨e,h.1⟩,fun h'=>h'.imp id fun e=>e.1⟩
 ·rename_i h
  refine ⟨.inl,fun h'=>?_⟩
  rcases h' with h' | ⟨rfl,h'⟩
  ·exact h'
  ·exact Decidable.of_not_not fun hn=>h ⟨h',hn⟩
theorem ent_mem {NX:List Bs}:∀ {ns W:List Bs} {x:Bs},x ∈ ent NX W ns ↔ x ∈ W ∨ (x ∈ ns ∧ x ∈ NX)
 | [],W,x=>by unfold ent; simp
 | n :: r,W,x=>by
  unfold ent
  rw [ent_mem,ent1_mem,List.mem_cons]
  constructor
  ·rintro ((h | ⟨rfl,h⟩) | h)
   ·exact .inl h
   ·exact .inr ⟨.inl rfl,h⟩
   ·exact .inr ⟨.inr h.1,h.2⟩
  ·rintro (h | ⟨rfl | h,h'⟩)
   ·exact .inl (.inl h)
   ·exact .inl (.inr ⟨rfl,h'⟩)
   ·exact .inr ⟨h,h'⟩
structure WL (w:World) (M wb ob pb:Nat) (v:Value) (NX W:List Bs):Prop where
 blk:Blk.Is w wb 93 #[.pointer (some ⟨pb,0,none⟩),v,.map (some ob)]
 set:SetM w ob 60000 (fun nm=>decide (nm ∈ NX ∧ nm ∉ W))
 row:w.ownsRow M 9 1 v W.length (tx W)
 wlt:wb < M
 olt:ob < M
 ne:wb ≠ ob
 le:M ≤ w.heap.size
 nd:W.Nodup
 sub:∀ n ∈ W,n ∈ NX
 few:NX.length ≤ 60000
theorem WL.len {w:World} {M wb ob pb:Nat} {v:Value} {NX W:List Bs} (h:WL w M wb ob pb v NX W):W.length ≤ 60000:=Nat.le_trans (Ix.len_le h.nd h.sub) h.few
def Own3 (wb ob:Nat) (v:Value) (k:Nat):Prop:=k = wb ∨ k = ob ∨ v.ownBlock = some k
theorem WL.chg {w w':World} {M wb ob pb:Nat} {v:Value} {NX W:List Bs} {Q:Nat → Prop} (h:WL w M wb ob pb v NX W) (hc:Blk.Chg Q w w') (hn:∀ k,Own3 wb ob v k → ¬ Q k):WL w' M wb ob pb v NX W :=
 ⟨hc.is h.blk (hn _ (.inl rfl)),h.set.chg hc (hn _ (.inr (.inl rfl))),hc.owns h.row fun k hk=>hn _ (.inr (.inr hk)),h.wlt,h.olt,h.ne,Nat.le_trans h.le hc.size,h.nd,h.sub,h.few⟩
theorem WL.below {w w':World} {M wb ob pb:Nat} {v:Value} {NX W:List Bs} (h:WL w M wb ob pb v NX W) (hb:Below w.heap.size w w'):WL w' M wb ob pb v NX W:=h.chg (Blk.Chg.ofBelow' (S:=fun _=>False) hb) fun _ _ h=>h
theorem WL.take {w1 w2 w3 w4:World} {M wb ob pb:Nat} {v v':Value} {NX W:List Bs} {n:Bs} (h:WL w1 M wb ob pb v NX W) (hn:n ∈ NX) (hW:n ∉ W)
  (hs:SetM w2 ob 60000 (fun x=>if x = n then false else decide (x ∈ NX ∧ x ∉ W))) (hg:w1.grownBy w2 (some ob))
  (ho:w3.ownsRow M 9 1 v' (W.length + 1) (tx W ++ [.string (S n)])) (c23:Blk.Chg (fun k=>v.ownBlock = some k) w2 w3) (hv:∀ k,v'.ownBlock = some k → v.ownBlock = some k ∨ w2.heap.size ≤ k)
  (h4:w4 = w3.setCell ⟨wb,1,none⟩ v') :
  WL w4 M wb ob pb v' NX (ent1 NX W n) ∧ Blk.Chg (Own3 wb ob v) w1 w4 ∧ ∀ k,v'.ownBlock = some k → v.ownBlock = some k ∨ w1.heap.size ≤ k:=by
 have e1:ent1 NX W n = W ++ [n]:=by unfold ent1; rw [if_pos ⟨hn,hW⟩]
 have hrow:∀ k,v.ownBlock = some k → M ≤ k:=fun k hk=>(Rl.own_lt h.row hk).1
 have c12:Blk.Chg (fun k=>k = ob) w1 w2:=(Blk.Chg.refl _ w1).grown hg fun k hk _=>(Option.some.inj hk).symm
 have c34:Blk.Chg (fun k=>k = wb) w3 w4:=by rw [h4]; exact (Blk.Chg.refl _ w3).setAt rfl
 have i3:=c23.is (c12.is h.blk h.ne) fun hk=>by have:=hrow _ hk; have:=h.wlt; omega
 have i4:=i3.set 1 v'
 rw [← h4] at i4
 refine ⟨⟨i4,?_,?_,h.wlt,h.olt,h.ne,Nat.le_trans h.le (Nat.le_trans c12.size (Nat.le_trans c23.size c34.size)),?_,?_,h.few⟩,?_,fun k hk=>(hv k hk).imp id fun h5=>Nat.le_trans c12.size h5⟩
 ·refine (((hs.chg c23 fun hk=>?_).chg c34 fun e=>h.ne e.symm)).eq fun x=>?_
  ·have:=hrow _ hk; have:=h.olt; omega
  ·rw [e1]
   by_cases e:x = n
   ·subst e
    simp
   ·rw [if_neg e]
    simp [e]
 ·rw [e1,tx_app,List.length_append]
  exact c34.owns ho fun k hk e=>by have:=(Rl.own_lt ho hk).1; have:=h.wlt; omega
 ·rw [e1,List.nodup_append]
  refine ⟨h.nd,by simp,fun a ha c hc e=>?_⟩
  rw [List.mem_singleton.1 hc] at e
  exact hW (e ▸ ha)
 ·intro x hx
  rw [e1] at hx
  rcases List.mem_append.1 hx with hx | hx
  ·exact h.sub x hx
  ·rw [List.mem_singleton.1 hx]; exact hn
 ·exact ((c12.mono fun k _ hk=>.inr (.inl hk)).trans (c23.mono fun k _ hk=>.inr (.inr hk))).trans (c34.mono fun k _ hk=>.inl hk)
theorem WL.stay {w:World} {M wb ob pb:Nat} {v:Value} {NX W:List Bs} {n:Bs} (h:WL w M wb ob pb v NX W) (hn:¬ (n ∈ NX ∧ n ∉ W)):WL w M wb ob pb v NX (ent1 NX W n):=by
 have e1:ent1 NX W n = W:=by unfold ent1; rw [if_neg hn]
 rw [e1]; exact h
def Apart (b m wb ob:Nat) (v:Value):Prop:=∀ k,Own3 wb ob v k → k < b ∨ m ≤ k
end Un
end Go.Proofs.YtmhpjjjjgakpiaaGreatDoor
namespace Go.Proofs.YtmhpjjjjgakpiaaGreatDoor
open Go.RowKit
set_option linter.unusedSimpArgs false
set_option linter.unusedVariables false
namespace Un
open Ver (Bs S S_size)
open Ix (LimS)
open Rc (In)
open Rl (mem_getD)
theorem take_snoc {α:Type} {l:List α} {z:α} {k:Nat} (hk:k < l.length):l.take (k + 1) = l.take k ++ [l.getD k z]:=by
 rw [List.getD_eq_getElem?_getD,List.getElem?_eq_getElem hk,Option.getD_some,List.take_append_getElem hk]
theorem own3_on {wb ob:Nat} {v vx:Value} {w wr:World} (hs:∀ j,vx.ownBlock = some j → v.ownBlock = some j ∨ w.heap.size ≤ j):∀ k,k < w.heap.size → Own3 wb ob vx k → Own3 wb ob v k:=fun k hk h=>by
 rcases h with h | h | h
 ·exact .inl h
 ·exact .inr (.inl h)
 ·rcases hs k h with h | h
  ·exact .inr (.inr h)
  ·omega
theorem chg_on {wb ob:Nat} {v vx:Value} {w wr wz:World} (h:Blk.Chg (Own3 wb ob v) w wr) (hs:∀ j,vx.ownBlock = some j → v.ownBlock = some j ∨ w.heap.size ≤ j) (k:Blk.Chg (Own3 wb ob vx) wr wz):Blk.Chg (Own3 wb ob v) w wz :=
 ⟨k.os.trans h.os,k.tape.trans h.tape,k.output.trans h.output,Nat.le_trans h.size k.size,fun j hj hn=>(k.block j (Nat.lt_of_lt_of_le hj h.size) fun h5=>hn (own3_on (w:=w) (wr:=wr) hs j hj h5)).trans (h.block j hj hn)⟩
set_option maxRecDepth 100000 in
set_option maxHeartbeats 8000000 in
theorem enter_any (wb ob pb M:Nat) (v:Value) (NX W ns:List Bs) (tv:Value) (w:World) (b m:Nat) (h:WL w M wb ob pb v NX W) (ht:In b m w (fun u=>Txt.Texts u tv (ns.map S))) (hm:m ≤ w.heap.size) (hf:Apart b m wb ob v) (hs:∀ n ∈ ns,LimS n) :
  Calls Tryz.prog 29 #[.pointer (some ⟨wb,0,none⟩),tv] w fun e w'=>e = .returned (.tuple #[]) ∧ ∃ v',WL w' M wb ob pb v' NX (ent NX W ns) ∧ Blk.Chg (Own3 wb ob v) w w' ∧ ∀ k,v'.ownBlock = some k → v.ownBlock = some k ∨ w.heap.size ≤ k:=by
 obtain ⟨hmx,sa,cap,rfl,hcap,_⟩:=ht.here
 rw [List.length_map] at hcap hmx ⊢
 have HT:=Lib.hid ht
 have HW:=Lib.hid h
 have HF:=Lib.hid hf
 have HS:=Lib.hid hs
 obtain ⟨n,hn⟩:∃ n,ns.length = n:=⟨_,rfl⟩
 have HN:=Lib.hid hn
 rw [List.length_map,hn] at HT
 rw [hn] at hcap hmx ⊢
 clear hn ht h hf hs
 go_enter Tryz.func29,Tryz.ntmps29
 go_wp2_with fail
 go_loopg [10] n (fun gf s10 wx=>∃ (k:Nat) (vx:Value),s10 = .int .i64 k ∧ Hid (WL wx M wb ob pb vx NX (ent NX W (ns.take k))) ∧ Hid (Blk.Chg (Own3 wb ob v) w wx) ∧ Hid (∀ j,vx.ownBlock = some j → v.ownBlock = some j ∨ w.heap.size ≤ j) ∧ k ≤ n ∧ n ≤ k + gf)
 case atStart=>exact ⟨0,v,rfl,HW,Lib.hid (Blk.Chg.refl _ _),Lib.hid (fun j hj=>.inl hj),by omega,by omega⟩
 case round =>
  obtain ⟨k,vx,rfl,HX,HC,HV,hkn,hfu⟩:=hrel
  by_cases hlt:k < n
  ·obtain ⟨g',rfl⟩:∃ g',gk = g' + 1:=⟨gk - 1,by omega⟩
   have hlt':(k:Int) < (n:Int):=by omega
   have hk0:(0:Int) ≤ k:=by omega
   have hkl:k < ns.length:=by rw [HN.out]; exact hlt
   have hin:=(HT.out.on (HC.out.mono fun j _ hj=>HF.out j hj)).here
   obtain ⟨_,a',cap',e1,_,hread⟩:=hin
   rw [List.length_map,HN.out] at e1 hread
   simp only [Value.slice.injEq,true_and] at e1
   obtain ⟨rfl,rfl⟩:=e1
   obtain ⟨kb,off,rfl,hat⟩:=hread (by omega)
   have x0:=hat k hlt
   have e0:(ns.map S).getD k ByteArray.empty = S (ns.getD k []):=by simp [List.getD_eq_getElem?_getD,hkl]
   rw [e0] at x0
   have hmem:=mem_getD (z:=([]:Bs)) hkl
   have htk:=take_snoc (z:=([]:Bs)) hkl
   obtain ⟨x,hx⟩:∃ x,ns.getD k [] = x:=⟨_,rfl⟩
   rw [hx] at x0 hmem htk
   have hlim:=HS.out x hmem
   obtain ⟨WK,hWK⟩:∃ WK,ent NX W (ns.take k) = WK:=⟨_,rfl⟩
   have hnext:ent NX W (ns.take (k + 1)) = ent1 NX WK x:=by rw [htk,ent_snoc,hWK]
   rw [hWK] at HX
   have HNX:=Lib.hid hnext
   have HL:=Lib.hid hlim
   have hblk:=HX.out.blk
   have hb2:=(Below.refl wr.heap.size wr).alloc (Nat.le_refl _) (.cells #[] 94)
   have X2:=Lib.hid (HX.out.below hb2)
   have q2:=hblk.at (i:=2) rfl
   have q1:=X2.out.blk.at (i:=1) rfl
   have q2':=X2.out.blk.at (i:=2) rfl
   have hlook:=HX.out.set.look hlim
   have B2:=Lib.hid hb2
   clear hat e0 hmem htk hx hread hWK hnext hlim hblk hb2
   by_cases hin:x ∈ NX ∧ x ∉ WK
   ·rw [decide_eq_true hin] at hlook
    have HIN:=Lib.hid hin
    have hwl:=X2.out.len
    obtain ⟨w3,hdel,hset3,hg3⟩:=X2.out.set.drop HL.out 0
    have c23:Blk.Chg (fun k=>k = ob) (wr.alloc (.cells #[] 94)) w3:=(Blk.Chg.refl _ _).grown hg3 fun k hk _=>(Option.some.inj hk).symm
    have i3:=c23.is X2.out.blk X2.out.ne
    have r3:=c23.owns X2.out.row fun k hk e=>by have:=(Rl.own_lt X2.out.row hk).1; have:=X2.out.olt; omega
    have q1':=i3.at (i:=1) rfl
    have hb4:=(Below.refl w3.heap.size w3).alloc (Nat.le_refl _) (.cells #[.string (S x)] 9)
    have i4:=Blk.Is.new w3 9 #[.string (S x)]
    have r4:=Own.owns_below r3 hb4
    have i34:=Rl.is_on i3 hb4
    obtain ⟨W4,hW4⟩:∃ W4,w3.alloc (.cells #[.string (S x)] 9) = W4:=⟨_,rfl⟩
    rw [hW4] at hb4 i4 r4 i34
    obtain ⟨va,vc,hvx,_⟩:=Rl.own_shape r4
    obtain ⟨L,hL⟩:∃ L,WK.length = L:=⟨_,rfl⟩
    rw [hL] at r4 hvx hwl
    have HLL:=Lib.hid hL
    have hle:M ≤ W4.heap.size:=Nat.le_trans (Nat.le_trans X2.out.le c23.size) hb4.size
    subst hvx
    have R4:=Lib.hid r4
    have LE:=Lib.hid hle
    have C0:=Lib.hid (i4.at (i:=0) rfl)
    have I34:=Lib.hid i34
    have S3:=Lib.hid hset3
    have G3:=Lib.hid hg3
    have HW4:=Lib.hid hW4
    have B4:=Lib.hid hb4
    have WLT:=Lib.hid X2.out.wlt
    have fin:∀ (v':Value) (w5:World),w5.ownsRow M 9 1 v' (L + 1) (tx WK ++ [.string (S x)]) → W4.grownBy w5 (Value.slice va L vc).ownBlock → (∀ j,v'.ownBlock = some j → (Value.slice va L vc).ownBlock = some j ∨ W4.heap.size ≤ j) →
      WL (w5.setCell ⟨wb,1,none⟩ v') M wb ob pb v' NX (ent1 NX WK x) ∧ Blk.Chg (Own3 wb ob v) w (w5.setCell ⟨wb,1,none⟩ v') ∧ (∀ j,v'.ownBlock = some j → v.ownBlock = some j ∨ w.heap.size ≤ j) ∧ ∃ g c,v' = .slice (some ⟨g,0,none⟩) (L + 1) c:=by
     intro v' w5 o5 g5 l5
     have c35:Blk.Chg (fun k=>(Value.slice va L vc).ownBlock = some k) w3 w5:=(Blk.Chg.ofBelow' B4.out).trans ((Blk.Chg.refl _ W4).grown g5 fun k hk _=>hk)
     have l5':∀ j,v'.ownBlock = some j → (Value.slice va L vc).ownBlock = some j ∨ w3.heap.size ≤ j:=fun j hj=>(l5 j hj).imp id fun h=>Nat.le_trans B4.out.size h
     obtain ⟨t1,t2,t3⟩:=X2.out.take HIN.out.1 HIN.out.2 S3.out G3.out (by rw [HLL.out]; exact o5) c35 l5' rfl
     have hsz:w.heap.size ≤ wr.heap.size:=HC.out.size
     have hsz2:wr.heap.size ≤ (wr.alloc (.cells #[] 94)).heap.size:=B2.out.size
     refine ⟨t1,chg_on (HC.out.trans (Blk.Chg.ofBelow' B2.out)) HV.out t2,fun j hj=>?_,?_⟩
     ·rcases t3 j hj with h | h
      ·exact HV.out j h
      ·exact .inr (by omega)
     ·obtain ⟨g,c,e,_⟩:=Rl.own_slice o5 (by omega)
      exact ⟨g,c,e⟩
    have FIN:=Lib.hid fin
    clear hin hset3 hg3 c23 i3 r3 hb4 i4 r4 i34 hW4 hle hL fin q1
    go_wp2_with (at_builtin; (try rw [HW4.out]); refine append_tx rfl (.tmp 33) (.tmp 35) rfl M (.slice va L vc) L (tx WK) rfl R4.out w3.heap.size 1 rfl (.string (S x)) C0.out rfl (by omega) LE.out ?_; intro v' w5 o5 g5 l5; obtain ⟨f1,f2,f3,g,c,rfl⟩:=FIN.out v' w5 o5 g5 l5; have i5:=((Blk.Chg.refl (fun k=>(Value.slice va L vc).ownBlock = some k) W4).grown g5 fun k hk _=>hk).is I34.out (fun hk=>by have:=(Rl.own_lt R4.out hk).1; have:=WLT.out; omega); have p1:=i5.at (i:=1) rfl; have p2:=i5.free 1; have F1:=Lib.hid f1; have F2:=Lib.hid f2; have F3:=Lib.hid f3; clear o5 g5 l5 f1 f2 f3 i5)
    go_roundg g'
    case measure=>omega
    case rel=>exact ⟨k + 1,_,by go_num,by rw [HNX.out]; exact F1,F2,F3,by omega,by omega⟩
   ·rw [decide_eq_false hin] at hlook
    have X3:=Lib.hid (X2.out.stay hin)
    have C3:Hid (Blk.Chg (Own3 wb ob v) w (wr.alloc (.cells #[] 94))):=HC.out.trans (Blk.Chg.ofBelow' B2.out)
    clear hin
    go_wp2_with fail
    go_roundg g'
    case measure=>omega
    case rel=>exact ⟨k + 1,vx,by go_num,by rw [HNX.out]; exact X3,C3,HV,by omega,by omega⟩
  ·obtain rfl:n = k:=by omega
   have hge:¬ (n:Int) < (n:Int):=by omega
   have hall:ent NX W (ns.take n) = ent NX W ns:=by rw [List.take_of_length_le (Nat.le_of_eq HN.out)]
   rw [hall] at HX
   clear hall
   go_wp2_with fail
   go_end0
   exact ⟨rfl,vx,HX.out,HC.out,HV.out⟩
end Un
end Go.Proofs.YtmhpjjjjgakpiaaGreatDoor
namespace Go.Proofs.YtmhpjjjjgakpiaaGreatDoor
open Go.RowKit
set_option linter.unusedSimpArgs false
set_option linter.unusedVariables false
namespace Ix
open Ver (S)
open Rl (At mem_getD)
open Rc (Pk nPk PkV Has)
set_option maxRecDepth 100000
theorem len_any (pb:Nat) (xs:List Pk) (w:World) (h:Idx w pb xs):Calls Tryz.prog 71 #[.pointer (some ⟨pb,0,none⟩)] w fun e w'=>e = .returned (.int .i64 xs.length) ∧ Below w.heap.size w w':=by
 obtain ⟨pv,bn,bs,h1,h2,_,_⟩:=h
 obtain ⟨pa,pc,rfl⟩:=h2.shape
 have c0:=h1.at (i:=0) rfl
 generalize xs.length = n at *
 clear h2 h1
 go_enter Tryz.func71,Tryz.ntmps71
 go_wp2_with fail
 go_ret
 exact ⟨rfl,Below.refl _ _⟩
end Ix
end Go.Proofs.YtmhpjjjjgakpiaaGreatDoor
namespace Go.Proofs.YtmhpjjjjgakpiaaGreatDoor
open Go.RowKit
set_option linter.unusedSimpArgs false
set_option linter.unusedVariables false
namespace Un
open Ver (S)
open Ix (Idx len_any Few ownPackage_any)
open Rl (At mem_getD)
open Rc (Pk nPk PkV Has In)
set_option maxRecDepth 100000
set_option maxHeartbeats 8000000 in
theorem at_in (pb:Nat) (xs:List Pk) (i:Nat) (w:World) (h:Idx w pb xs) (hF:∀ x ∈ xs,Few x) (hi:i < xs.length) :
  Calls Tryz.prog 43 #[.pointer (some ⟨pb,0,none⟩),.int .i64 i] w fun e w'=>∃ s1 m1 t1 s2 m2 t2 s3 m3 t3 s4 m4 t4 s5 m5 t5 s6 m6 t6,e = .returned (.tuple #[.agg #[.string (S (xs.getD i nPk).nm),.string (S (xs.getD i nPk).vs),.slice s1 m1 t1,.slice s2 m2 t2,.slice s3 m3 t3,.slice s4 m4 t4,.slice s5 m5 t5,.slice s6 m6 t6,.bool (xs.getD i nPk).ess],.bool true]) ∧ In w.heap.size w'.heap.size w' (fun u=>Has u (xs.getD i nPk) (.slice s1 m1 t1) (.slice s2 m2 t2) (.slice s3 m3 t3) (.slice s4 m4 t4) (.slice s5 m5 t5) (.slice s6 m6 t6)) ∧ Below w.heap.size w w':=by
 have hb1:=(Below.refl w.heap.size w).alloc (Nat.le_refl _) (.cells #[.string ⟨#[]⟩,.string ⟨#[]⟩,.slice none 0 0,.slice none 0 0,.slice none 0 0,.slice none 0 0,.slice none 0 0,.slice none 0 0,.bool false] 40)
 have i1:=Blk.Is.new w 40 #[.string ⟨#[]⟩,.string ⟨#[]⟩,.slice none 0 0,.slice none 0 0,.slice none 0 0,.slice none 0 0,.slice none 0 0,.slice none 0 0,.bool false]
 have HB:=Lib.hid hb1
 have cl:=len_any pb xs _ (Idx.below h hb1)
 have hx:=Idx.below h hb1
 obtain ⟨W,hW⟩:∃ W,w.alloc (.cells #[.string ⟨#[]⟩,.string ⟨#[]⟩,.slice none 0 0,.slice none 0 0,.slice none 0 0,.slice none 0 0,.slice none 0 0,.slice none 0 0,.bool false] 40) = W:=⟨_,rfl⟩
 rw [hW] at HB i1 cl hx
 have I1:=Lib.hid i1
 have HW:=Lib.hid hW
 have HX:=Lib.hid hx
 have hfe:=hF _ (mem_getD (z:=nPk) hi)
 obtain ⟨x,hxx⟩:∃ x,xs.getD i nPk = x:=⟨_,rfl⟩
 rw [hxx] at hfe ⊢
 have HXX:=Lib.hid hxx
 have HFE:=Lib.hid hfe
 have hlt:(i:Int) < (xs.length:Int):=by omega
 have h0:(0:Int) ≤ i:=by omega
 have hn0:¬ (xs.length:Int) ≤ (i:Int):=by omega
 obtain ⟨n,hn⟩:∃ n,xs.length = n:=⟨_,rfl⟩
 have HN:=Lib.hid hn
 have HI:=Lib.hid hi
 rw [hn] at cl hlt hn0
 clear hb1 i1 hW h hx hF hn hi hfe hxx
 go_enter Tryz.func43,Tryz.ntmps43
 go_wp2_with (rw [HW.out])
 refine cl.mono ?_
 rintro e w1 ⟨rfl,k1⟩
 have I2:=Lib.hid (Rl.is_on I1.out k1)
 have HB2:=Lib.hid (HB.out.trans (k1.mono HB.out.size))
 obtain ⟨pv,bn,bs,x1,x2,_,_⟩:=Idx.below HX.out k1
 have hpk:=x2
 obtain ⟨_,a',cap',e1,_,hcells⟩:=hpk
 rw [HN.out] at e1
 subst e1
 have c0:=x1.at (i:=0) rfl
 obtain ⟨kb,off,rfl,hcl2⟩:=hcells (by have:=HI.out; omega)
 obtain ⟨a1,n1,c1,a2,n2,c2,a3,n3,c3,a4,n4,c4,a5,n5,c5,a6,n6,c6,⟨y0,y1,y2,y3,y4,y5,y6,y7,y8⟩,hh⟩:=Rc.pk_read (hcl2 i HI.out)
 rw [Nat.mul_comm 9 i] at y0 y1 y2 y3 y4 y5 y6 y7 y8
 rw [HXX.out] at y0 y1 y8 hh
 have co:=ownPackage_any (.agg #[.string (S x.nm),.string (S x.vs),.slice a1 n1 c1,.slice a2 n2 c2,.slice a3 n3 c3,.slice a4 n4 c4,.slice a5 n5 c5,.slice a6 n6 c6,.bool x.ess]) x w1 ⟨_,_,_,_,_,_,rfl,hh⟩ HFE.out
 have S1:=Lib.hid k1.size
 clear cl k1 HX x1 x2 hcells hcl2 hh I1 HB HW HXX
 go_wp2_with fail
 clear c0 y0 y1 y2 y3 y4 y5 y6 y7 y8
 refine co.mono ?_
 rintro e w2 ⟨u1,u2,u3,u4,u5,u6,rfl,hHx,k2⟩
 have I3:=Lib.hid (Rl.is_on I2.out k2)
 have HB3:=Lib.hid (HB2.out.trans (k2.mono HB2.out.size))
 have hz:w.heap.size < w1.heap.size:=I2.out.lt
 have hHas:=hHx _ (Blk.Chg.refl _ _)
 have HH:=Lib.hid hHx
 obtain ⟨s1,t1,e1⟩:=hHas.pre.shape
 generalize x.pre.length = m1 at e1
 obtain ⟨s2,t2,e2⟩:=hHas.dep.shape
 generalize x.dep.length = m2 at e2
 obtain ⟨s3,t3,e3⟩:=hHas.rcm.shape
 generalize x.rcm.length = m3 at e3
 obtain ⟨s4,t4,e4⟩:=hHas.con.shape
 generalize x.con.length = m4 at e4
 obtain ⟨s5,t5,e5⟩:=hHas.brk.shape
 generalize x.brk.length = m5 at e5
 obtain ⟨s6,t6,e6⟩:=hHas.prv.shape
 generalize x.prv.length = m6 at e6
 subst e1 e2 e3 e4 e5 e6
 have hi9:(Tryz.prog.info? 40).map (·.size) = some 9:=by kernel_rfl
 clear co k2 hHx hHas I2 HB2
 go_wp2_with (refine wpList_store_row rfl 40 (.tmp 4) (.tmp 22) rfl w.heap.size #[.string (S x.nm),.string (S x.vs),.slice s1 m1 t1,.slice s2 m2 t2,.slice s3 m3 t3,.slice s4 m4 t4,.slice s5 m5 t5,.slice s6 m6 t6,.bool x.ess] rfl rfl 40 #[.string ⟨#[]⟩,.string ⟨#[]⟩,.slice none 0 0,.slice none 0 0,.slice none 0 0,.slice none 0 0,.slice none 0 0,.slice none 0 0,.bool false] I3.out hi9 (by rfl) (by simp [Value.oneCell']) ?_)
 have j1:=I3.out.row #[.string (S x.nm),.string (S x.vs),.slice s1 m1 t1,.slice s2 m2 t2,.slice s3 m3 t3,.slice s4 m4 t4,.slice s5 m5 t5,.slice s6 m6 t6,.bool x.ess]
 have hbr:Below w.heap.size w (w2.setRow w.heap.size #[.string (S x.nm),.string (S x.vs),.slice s1 m1 t1,.slice s2 m2 t2,.slice s3 m3 t3,.slice s4 m4 t4,.slice s5 m5 t5,.slice s6 m6 t6,.bool x.ess]):=HB3.out.trans ⟨rfl,rfl,rfl,by simp,fun k hk=>setRow_other w2 w.heap.size k _ (by omega)⟩
 have hch:Blk.Chg (fun k=>k = w.heap.size) w2 (w2.setRow w.heap.size #[.string (S x.nm),.string (S x.vs),.slice s1 m1 t1,.slice s2 m2 t2,.slice s3 m3 t3,.slice s4 m4 t4,.slice s5 m5 t5,.slice s6 m6 t6,.bool x.ess]):=(Blk.Chg.refl (fun k=>k = w.heap.size) w2).setRow (g:=w.heap.size) rfl _
 have hfin:In w.heap.size (w2.setRow w.heap.size #[.string (S x.nm),.string (S x.vs),.slice s1 m1 t1,.slice s2 m2 t2,.slice s3 m3 t3,.slice s4 m4 t4,.slice s5 m5 t5,.slice s6 m6 t6,.bool x.ess]).heap.size (w2.setRow w.heap.size #[.string (S x.nm),.string (S x.vs),.slice s1 m1 t1,.slice s2 m2 t2,.slice s3 m3 t3,.slice s4 m4 t4,.slice s5 m5 t5,.slice s6 m6 t6,.bool x.ess]) (fun u=>Has u x (.slice s1 m1 t1) (.slice s2 m2 t2) (.slice s3 m3 t3) (.slice s4 m4 t4) (.slice s5 m5 t5) (.slice s6 m6 t6)):=fun u hu=>HH.out _ ((hch.mono fun k _ hk=>by omega).trans (hu.mono fun k hk hs=>by omega))
 generalize w2.setRow w.heap.size #[.string (S x.nm),.string (S x.vs),.slice s1 m1 t1,.slice s2 m2 t2,.slice s3 m3 t3,.slice s4 m4 t4,.slice s5 m5 t5,.slice s6 m6 t6,.bool x.ess] = W2 at *
 have r0:=j1.at (i:=0) rfl
 have r1:=j1.at (i:=1) rfl
 have r2:=j1.at (i:=2) rfl
 have r3:=j1.at (i:=3) rfl
 have r4:=j1.at (i:=4) rfl
 have r5:=j1.at (i:=5) rfl
 have r6:=j1.at (i:=6) rfl
 have r7:=j1.at (i:=7) rfl
 have r8:=j1.at (i:=8) rfl
 refine bodyPost_ret (v:=.tuple #[.agg #[.string (S x.nm),.string (S x.vs),.slice s1 m1 t1,.slice s2 m2 t2,.slice s3 m3 t3,.slice s4 m4 t4,.slice s5 m5 t5,.slice s6 m6 t6,.bool x.ess],.bool true]) (by simp [results,Tryz.results43,go_sem,r0,r1,r2,r3,r4,r5,r6,r7,r8]) rfl ?_
 exact ⟨_,_,_,_,_,_,_,_,_,_,_,_,_,_,_,_,_,_,rfl,hfin,hbr⟩
end Un
end Go.Proofs.YtmhpjjjjgakpiaaGreatDoor

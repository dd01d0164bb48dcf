/-
The reference's SortedEntries.
-/
import Derived.Test.YtgpcilepkmckeaaGreatDoorEStaOrd
import Derived.Test.YtgpcilepkmckeaaGreatDoorEReg
import Derived.Test.YtgpcilepkmckeaaGreatDoorEIxDef
import Derived.OrdersHeld
import Derived.Deep.MidRow
namespace Go.Proofs.YtgpcilepkmckeaaGreatDoor
open Go.RowKit
set_option linter.unusedSimpArgs false
set_option linter.unusedVariables false
namespace Sa
open Ver (Bs S S_li S_size orr sgn)
open Rl (At Pv Vars isV mem_getD Slc)
open Rc (Pk En nEn Ens EnC Has infoEn)
open Ix (choose_list get_getD)
theorem cb_zero:∀ {a b:Bs},Lib.compareBytes a b = 0 → a = b
 | [],[],_=>rfl
 | [],_ :: _,h=>by rw [cb_nc] at h; cases h
 | _ :: _,[],h=>by rw [cb_cn] at h; cases h
 | x :: a,y :: b,h=>by
  rw [cb_cc] at h
  by_cases hs:sgn (x.toNat:Int) y.toNat = 0
  ·rw [hs,Ver.orr_zero] at h
   rw [cb_zero h]
   congr 1
   unfold sgn at hs
   have:x.toNat = y.toNat:=by
    split at hs
    ·cases hs
    ·split at hs
     ·cases hs
     ·omega
   exact UInt8.toNat_inj.1 this
  ·unfold orr at h
   rw [if_pos hs] at h
   exact absurd h hs
theorem less_cb:∀ a b:Bs,Go.Op.bytesLess a b = decide (Lib.compareBytes a b < 0)
 | [],[]=>by rw [cb_nn]; rfl
 | [],y :: b=>by rw [cb_nc]; rfl
 | x :: a,[]=>by rw [cb_cn]; rfl
 | x :: a,y :: b=>by
  rw [cb_cc]
  have ih:=less_cb a b
  show (decide (x < y) || (x == y && Go.Op.bytesLess a b)) = _
  rw [ih]
  rcases Nat.lt_trichotomy x.toNat y.toNat with h | h | h
  ·have e:sgn (x.toNat:Int) (y.toNat:Int) = -1:=by unfold sgn; rw [if_pos (by omega)]
   have h1:x < y:=h
   rw [e]
   simp [h1,orr]
  ·have e:sgn (x.toNat:Int) (y.toNat:Int) = 0:=by unfold sgn; rw [if_neg (by omega),if_neg (by omega)]
   have h1:x = y:=UInt8.toNat_inj.1 h
   subst h1
   rw [e]
   simp [orr]
  ·have e:sgn (x.toNat:Int) (y.toNat:Int) = 1:=by unfold sgn; rw [if_neg (by omega),if_pos (by omega)]
   have h1:¬ x < y:=fun hh=>by have:x.toNat < y.toNat:=hh; omega
   have h2:¬ x = y:=fun hh=>by rw [hh] at h; omega
   rw [e]
   simp [h1,h2,orr]
theorem less_nm (a b:Bs):Go.Op.bytesLess (Ver.S a).toList (Ver.S b).toList = decide (Lib.compareBytes a b < 0):=by
 have e:∀ l:Bs,(Ver.S l).toList = l:=fun l=>by
  rw [Lib.toList_data]
  exact Ver.S_li l
 rw [e,e,less_cb]
theorem append_en {w:World} {ops:Array Oper} {rest:List Oper} {o:Oper} {a:Act} {Q:Exit → Act → World → Prop} (hgd:o.guard = none) (s x:Operand)
  (ho:o.op = .call { callee:=.builtin .append,args:=#[s,x],argTypes:=#[26,26] })
  (B:Nat) (v:Value) (n:Nat) (xs:List Value) (hv:a.eval s = v) (hown:w.ownsRow B 45 11 v n xs) (k:Nat) (c:Nat) (hx:a.eval x = .slice (some ⟨k,0,none⟩) 1 c) (news:List Value) (hnl:news.length = 11) (hc:∀ (j:Nat) u,news[j]? = some u → w.cell? ⟨k,j,none⟩ = some u)
  (ho1:∀ u ∈ news,u.oneCell' = true) (hn:n + 1 ≤ 70000) (hB:B ≤ w.heap.size)
  (h:∀ v' w',w'.ownsRow B 45 11 v' (n + 1) (xs ++ news) → w.grownBy w' v.ownBlock → wpList Tryz.prog ops Q rest (a.put o.dst v') w'):wpList Tryz.prog ops Q (o :: rest) a w:=by
 obtain ⟨i0,hi,hz0,hz1,hz2⟩:=info_parts infoEn
 have hsrc:Src Tryz.prog 11 26 (.slice (some ⟨k,0,none⟩) 1 c) 1 news w:=by
  refine Src.ofSlice w Tryz.underlying26 ⟨k,0,none⟩ 1 c news (by rw [hnl]) (fun j u hj=>?_) ho1
  have:=hc j u hj
  have e:(⟨k,0,none⟩:Addr).add j = ⟨k,j,none⟩:=by cases j <;> simp [Addr.add]
  rw [e]; exact this
 have hmul:(n + 1) * 192 ≤ 70000 * 192:=Nat.mul_le_mul_right _ hn
 refine wpList_plain hgd fun K hK=>?_
 obtain ⟨v',w',hr,h2,h3,h4⟩:=Own.run_append_src (P:=Tryz.prog) 26 26 o.type B 45 i0 _ 11 192 Tryz.underlying26 hi hz0 hz1 hz2 rfl v n xs hown _ 1 news hsrc (by simp only [maxLen]; omega) (by omega) hB
 unfold Oper.wp execOp
 simp only [ho,resolve,invoke,builtin,Sem.run_bind,Sem.run_pure,Result.andThen_ok,List.map_toArray,List.map_cons,List.map_nil,hv,hx,hr]
 exact hK _ _ (h v' w' h2 h3)
theorem range_of {w:World} {g:Nat} {T:TypeId} {cs:Array Value} (hg:Blk.Is w g T cs):w.rangeAt g 0 cs.toList:=fun j v hj=>by
 rw [Nat.zero_add]
 exact hg.at (by rw [← Array.getElem?_toList]; exact hj)
theorem slot_of {p:En}:∀ {l:List En} {t:Nat},(∀ j y,j < t → l[j]? = some y → aheadE p y = true) → t ≤ l.length → (∀ y,l[t]? = some y → aheadE p y = false) → slotE p l = t
 | [],t,_,h,_=>by
  have h0:t = 0:=by simpa using h
  subst h0
  rfl
 | x :: r,0,_,_,h=>by
  have hx:=h x rfl
  unfold slotE
  rw [List.takeWhile_cons,hx]
  rfl
 | x :: r,t + 1,h1,h2,h3=>by
  have hx:=h1 0 x (by omega) rfl
  have ih:=slot_of (p:=p) (l:=r) (t:=t) (fun j y hj hy=>h1 (j + 1) y (by omega) (by simpa using hy)) (by simpa using h2) (fun y hy=>h3 y (by simpa using hy))
  unfold slotE at ih ⊢
  rw [List.takeWhile_cons,hx]
  simp [ih]
theorem slot_at {p:En} {ds:List Et} {t:Nat} {y:Et} (hy:ds[t]? = some y) (hn:aheadE p y.en = false) (h:∀ j y,j < t → ds[j]? = some y → aheadE p y.en = true):slotE p (ds.map Et.en) = t:=by
 have hl:=(List.getElem?_eq_some_iff.1 hy).1
 refine slot_of (fun j q hj hq=>?_) (by rw [List.length_map]; omega) fun q hq=>?_
 ·rw [List.getElem?_map] at hq
  obtain ⟨z,hz,rfl⟩:=Option.map_eq_some_iff.1 hq
  exact h j z hj hz
 ·rw [List.getElem?_map,hy] at hq
  obtain rfl:=Option.some.inj hq
  exact hn
theorem slot_end {p:En} {ds:List Et} {t:Nat} (hl:ds.length = t) (h:∀ j y,j < t → ds[j]? = some y → aheadE p y.en = true):slotE p (ds.map Et.en) = t:=by
 refine slot_of (fun j q hj hq=>?_) (by rw [List.length_map]; omega) fun q hq=>?_
 ·rw [List.getElem?_map] at hq
  obtain ⟨z,hz,rfl⟩:=Option.map_eq_some_iff.1 hq
  exact h j z hj hz
 ·rw [List.getElem?_eq_none (by rw [List.length_map]; omega)] at hq
  cases hq
theorem ins_els {d ds:List Et} {k t:Nat} {x:Et} (hx:d[k]? = some x) (h1:ds.length = k) (h2:ds.map Et.en = insAllE ((d.take k).map Et.en) []) (h3:∀ z ∈ ds,z ∈ d) (hxm:x ∈ d) (hs:slotE x.en (ds.map Et.en) = t) :
  (ds.take t ++ [x] ++ ds.drop t).length = k + 1 ∧ (ds.take t ++ [x] ++ ds.drop t).map Et.en = insAllE ((d.take (k + 1)).map Et.en) [] ∧ ∀ z ∈ ds.take t ++ [x] ++ ds.drop t,z ∈ d:=by
 refine ⟨?_,?_,fun z hz=>?_⟩
 ·simp only [List.length_append,List.length_take,List.length_drop,List.length_singleton]
  omega
 ·obtain ⟨hk,hk2⟩:=List.getElem?_eq_some_iff.1 hx
  have e:(d.take (k + 1)).map Et.en = (d.take k).map Et.en ++ [x.en]:=by
   rw [List.take_succ_eq_append_getElem hk,hk2,List.map_append]
   rfl
  rw [e,insAllE_snoc,← h2]
  unfold insE
  rw [hs]
  simp [List.map_take,List.map_drop]
 ·rcases List.mem_append.1 hz with hz | hz
  ·rcases List.mem_append.1 hz with hz | hz
   ·exact h3 z (List.mem_of_mem_take hz)
   ·rw [List.mem_singleton.1 hz]; exact hxm
  ·exact h3 z (List.mem_of_mem_drop hz)
theorem en_size (w:World):(sizeOf 45).run Tryz.prog w = .ok 11 w:=by
 obtain ⟨i0,hi,hz0,hz1,hz2⟩:=info_parts Rc.infoEn
 simp [sizeOf,typeInfo,hi,hz1]
theorem at_slice {x v:Value} {lo hi:Option Value} {w:World} (h:(Instr.slice 26 x lo hi none).run Tryz.prog w = .ok v w):(Instr.sliceAt 26 x lo hi none).run Tryz.prog w = .ok v w:=by
 have e:Tryz.prog.elem 26 = 45:=by kernel_rfl
 rw [run_sliceAt_slice w 26 x lo hi none (by rw [e]; exact Tryz.underlying26)]
 exact h
theorem slice_head (ra:Option Addr) (n rc t:Nat) (h:t ≤ rc) (w:World):(Instr.slice 26 (.slice ra n rc) none (some (.int .i64 (t:Int))) none).run Tryz.prog w = .ok (.slice ra t rc) w:=by
 have hsz:=en_size w
 have h0:∀ x:Addr,x.add 0 = x:=fun x=>by
  obtain ⟨b,o,p⟩:=x
  cases p <;> simp [Addr.add]
 cases ra <;> simp [h0,Instr.slice,Instr.sliceBounds,Instr.sliceBound,asIntOf,run_underlying Tryz.underlying26,hsz,h]
theorem slice_tail (R:Nat) (n rc t:Nat) (h:t ≤ n) (hn:n ≤ rc):∃ o,(∀ w,(Instr.slice 26 (.slice (some ⟨R,0,none⟩) n rc) (some (.int .i64 (t:Int))) none none).run Tryz.prog w = .ok (.slice (some ⟨R,o,none⟩) (n - t) (rc - t)) w) ∧ (t < rc → o = 11 * t):=by
 have h0:(0:Int) ≤ t:=by omega
 by_cases e:rc = t
 ·refine ⟨0,fun w=>?_,fun h=>by omega⟩
  have hsz:=en_size w
  simp [Instr.slice,Instr.sliceBounds,Instr.sliceBound,asIntOf,run_underlying Tryz.underlying26,hsz,h0,h,e]
 ·refine ⟨11 * t,fun w=>?_,fun _=>rfl⟩
  have hsz:=en_size w
  simp [Instr.slice,Instr.sliceBounds,Instr.sliceBound,asIntOf,run_underlying Tryz.underlying26,hsz,h0,h,e,Addr.add,Nat.mul_comm]
  omega
theorem slice_none (w:World):(Instr.slice 26 (.slice none 0 0) (some (.int .i64 0)) none none).run Tryz.prog w = .ok (.slice none 0 0) w:=by
 have hsz:=en_size w
 simp [Instr.slice,Instr.sliceBounds,Instr.sliceBound,asIntOf,run_underlying Tryz.underlying26,hsz]
theorem els_src {w:World} {v:Value} {ds:List Et} (h:Slc 11 default EtAt w v ds):Src Tryz.prog 11 26 v ds.length (ds.flatMap Et.enc) w :=
 Va.slc_src (by omega) Et.enc (fun _=>rfl) (fun w k o x hx j u hj=>hx j u hj) (fun x u hu=>Et.one x u hu) Tryz.underlying26 h
theorem row_at {w:World} {B:Nat} {R rc n:Nat} {ds:List Et} (h:w.ownsRow B 45 11 (.slice (some ⟨R,0,none⟩) n rc) n (ds.flatMap Et.enc)) {i:Nat} {x:Et} (hx:ds[i]? = some x) {j:Nat} {u:Value} (hj:x.enc[j]? = some u):w.cell? ⟨R,11 * i + j,none⟩ = some u :=
 Rl.own_cell h (by rw [Rl.flat_at Et.enc 11 (fun _=>rfl) ds i j x hx (List.getElem?_eq_some_iff.1 hj).1]; exact hj)
theorem els_ens {w:World} {v:Value} {ds:List Et} (h:Slc 11 default EtAt w v ds) (hh:∀ x ∈ ds,Has w x.pk x.u1 x.u2 x.u3 x.u4 x.u5 x.u6):Ens w v (ds.map Et.en):=by
 obtain ⟨h0,a,cap,h1,h2,h3⟩:=h
 refine ⟨by rw [List.length_map]; exact h0,a,cap,by rw [List.length_map]; exact h1,by rw [List.length_map]; exact h2,fun hl=>?_⟩
 rw [List.length_map] at hl
 obtain ⟨k,off,h4,h5⟩:=h3 hl
 refine ⟨k,off,h4,fun i hi=>?_⟩
 rw [List.length_map] at hi
 obtain ⟨x,hx⟩:∃ x,ds[i]? = some x:=⟨ds[i],List.getElem?_eq_getElem hi⟩
 have e:(ds.map Et.en).getD i nEn = x.en:=get_getD (by rw [List.getElem?_map,hx]; rfl) _
 have h6:=h5 i hi
 rw [get_getD hx] at h6
 rw [e]
 exact ⟨x.enc,⟨_,_,_,_,_,_,rfl,hh x (List.mem_of_getElem? hx)⟩,h6⟩
theorem head_slc {w:World} {B:Nat} {ra:Option Addr} {rc n t:Nat} {ds:List Et} (h:w.ownsRow B 45 11 (.slice ra n rc) n (ds.flatMap Et.enc)) (hd:ds.length = n) (ht:t ≤ n) (hn:n ≤ 60000):Slc 11 default EtAt w (.slice ra t rc) (ds.take t):=by
 obtain ⟨a,cap,e,hc⟩:=Rl.own_shape h
 simp only [Value.slice.injEq,true_and] at e
 obtain ⟨rfl,rfl⟩:=e
 have hl:(ds.take t).length = t:=by rw [List.length_take]; omega
 refine ⟨by rw [hl]; omega,ra,rc,by rw [hl],by rw [hl]; omega,fun h0=>?_⟩
 rw [hl] at h0
 obtain ⟨R,c2,e,_⟩:=Rl.own_slice h (by omega)
 simp only [Value.slice.injEq,true_and] at e
 obtain ⟨rfl,rfl⟩:=e
 refine ⟨R,0,rfl,fun i hi j u hj=>?_⟩
 rw [hl] at hi
 obtain ⟨x,hx⟩:∃ x,ds[i]? = some x:=⟨ds[i]'(by omega),List.getElem?_eq_getElem _⟩
 have e:(ds.take t).getD i default = x:=get_getD (by rw [List.getElem?_take,if_pos hi]; exact hx) _
 rw [e] at hj
 rw [Nat.zero_add]
 exact row_at h hx hj
theorem tail_slc {w:World} {B:Nat} {ra:Option Addr} {rc n t:Nat} {ds:List Et} (h:w.ownsRow B 45 11 (.slice ra n rc) n (ds.flatMap Et.enc)) (hd:ds.length = n) (ht:t ≤ n) (hn:n ≤ 60000):∃ vt,(∀ w,(Instr.slice 26 (.slice ra n rc) (some (.int .i64 (t:Int))) none none).run Tryz.prog w = .ok vt w) ∧ ∀ u,Below w.heap.size w u → Slc 11 default EtAt u vt (ds.drop t):=by
 have hl:(ds.drop t).length = n - t:=by rw [List.length_drop]; omega
 rcases h.2 with ⟨e,e0⟩ | ⟨R,cap,cur,e,_,_,hc,_⟩
 ·simp only [Value.slice.injEq] at e
  obtain ⟨rfl,_,rfl⟩:=e
  obtain rfl:t = 0:=by omega
  subst e0
  refine ⟨.slice none 0 0,slice_none,fun u _=>⟨by rw [hl]; omega,none,0,by rw [hl],by rw [hl]; omega,fun h0=>by rw [hl] at h0; omega⟩⟩
 ·simp only [Value.slice.injEq,true_and] at e
  obtain ⟨rfl,rfl⟩:=e
  obtain ⟨o,hrun,ho⟩:=slice_tail R n rc t ht hc
  refine ⟨_,hrun,fun u hu=>⟨by rw [hl]; omega,some ⟨R,o,none⟩,rc - t,by rw [hl],by rw [hl]; omega,fun h0=>⟨R,o,rfl,fun i hi j v hj=>?_⟩⟩⟩
  rw [hl] at hi
  obtain ⟨x,hx⟩:∃ x,ds[t + i]? = some x:=⟨ds[t + i]'(by omega),List.getElem?_eq_getElem _⟩
  have e:(ds.drop t).getD i default = x:=get_getD (by rw [List.getElem?_drop]; exact hx) _
  rw [e] at hj
  rw [ho (by omega)]
  have:=row_at (Own.owns_below h hu) hx hj
  rw [Nat.mul_add] at this
  exact this
set_option maxRecDepth 100000 in
set_option maxHeartbeats 16000000 in
theorem ysortedE_any (v:Value) (l:List En) (w:World) (h:Ens w v l) (hl:l.length ≤ 60000) :
  Calls Tryz.prog 15 #[v] w fun e w'=>∃ v',e = .returned v' ∧ Ens w' v' (insAllE l []) ∧ Below w.heap.size w w':=by
 obtain ⟨d,hd,ht,hs,hh⟩:=ets_of h
 have hdl:d.length = l.length:=by rw [← hd,List.length_map]
 obtain ⟨sa,scap,rfl⟩:=h.shape
 have HH:=Lib.hid hh
 have HD:=Lib.hid hd
 obtain ⟨N,hN⟩:∃ N,l.length = N:=⟨_,rfl⟩
 rw [hN] at hs
 have HS:=Lib.hid hs
 have HDL:=Lib.hid (hdl.trans hN)
 rw [hN] at hl ⊢
 clear hN h hs hd hdl hh ht
 go_enter Tryz.func15,Tryz.ntmps15
 go_wp2_with fail
 go_loopg [3,9] N (fun gf s3 s9 wx=>∃ (k:Nat) (ra:Option Addr) (rc:Nat) (ds:List Et),s3 = .slice ra k rc ∧ s9 = .int .i64 k ∧ Hid (wx.ownsRow w.heap.size 45 11 (.slice ra k rc) k (ds.flatMap Et.enc)) ∧ Hid (ds.length = k ∧ ds.map Et.en = insAllE ((d.take k).map Et.en) [] ∧ ∀ x ∈ ds,x ∈ d) ∧ Hid (Below w.heap.size w wx) ∧ k ≤ N ∧ N ≤ k + gf)
 case atStart=>exact ⟨0,none,0,[],rfl,rfl,Lib.hid (World.ownsRow_nil _ _ _ _),Lib.hid ⟨rfl,rfl,fun x hx=>by cases hx⟩,Lib.hid (Below.refl _ _),by omega,by omega⟩
 case round =>
  obtain ⟨k,ra,rc,ds,rfl,rfl,HO,HX,HB,hkn,hfu⟩:=hrel
  by_cases hlt:k < N
  ·obtain ⟨g',rfl⟩:∃ g',gk = g' + 1:=⟨gk - 1,by omega⟩
   have hlt':(k:Int) < (N:Int):=by omega
   have hk0:(0:Int) ≤ k:=by omega
   have hkd:k < d.length:=by rw [HDL.out]; exact hlt
   obtain ⟨x,hx⟩:∃ x,d[k]? = some x:=⟨d[k],List.getElem?_eq_getElem hkd⟩
   have hxm:x ∈ d:=List.mem_of_getElem? hx
   obtain ⟨_,a',cap',e1,_,hat⟩:=HS.out
   rw [HDL.out] at e1
   simp only [Value.slice.injEq,true_and] at e1
   obtain ⟨rfl,rfl⟩:=e1
   obtain ⟨kb,off,rfl,hcl⟩:=hat (by omega)
   have hc2:=hcl k hkd
   rw [get_getD hx] at hc2
   obtain ⟨s1,m1,t1,e1⟩:=x.sl x.u1 (by simp)
   obtain ⟨s2,m2,t2,e2⟩:=x.sl x.u2 (by simp)
   obtain ⟨s3,m3,t3,e3⟩:=x.sl x.u3 (by simp)
   obtain ⟨s4,m4,t4,e4⟩:=x.sl x.u4 (by simp)
   obtain ⟨s5,m5,t5,e5⟩:=x.sl x.u5 (by simp)
   obtain ⟨s6,m6,t6,e6⟩:=x.sl x.u6 (by simp)
   have henc:x.enc = [.string (S x.pk.nm),.string (S x.pk.vs),.slice s1 m1 t1,.slice s2 m2 t2,.slice s3 m3 t3,.slice s4 m4 t4,.slice s5 m5 t5,.slice s6 m6 t6,.bool x.pk.ess,.bool x.cfg,.bool x.hld]:=by unfold Et.enc; rw [e1,e2,e3,e4,e5,e6]
   have HENC:=Lib.hid henc
   rw [Nat.mul_comm 11 k] at hc2
   have x0:=Rl.cell_on (hc2 0 _ (by rw [henc]; rfl)) HB.out
   have x1:=Rl.cell_on (hc2 1 _ (by rw [henc]; rfl)) HB.out
   have x2:=Rl.cell_on (hc2 2 _ (by rw [henc]; rfl)) HB.out
   have x3:=Rl.cell_on (hc2 3 _ (by rw [henc]; rfl)) HB.out
   have x4:=Rl.cell_on (hc2 4 _ (by rw [henc]; rfl)) HB.out
   have x5:=Rl.cell_on (hc2 5 _ (by rw [henc]; rfl)) HB.out
   have x6:=Rl.cell_on (hc2 6 _ (by rw [henc]; rfl)) HB.out
   have x7:=Rl.cell_on (hc2 7 _ (by rw [henc]; rfl)) HB.out
   have x8:=Rl.cell_on (hc2 8 _ (by rw [henc]; rfl)) HB.out
   have x9:=Rl.cell_on (hc2 9 _ (by rw [henc]; rfl)) HB.out
   have x10:=Rl.cell_on (hc2 10 _ (by rw [henc]; rfl)) HB.out
   rw [Nat.add_zero] at x0
   have hba:=(Below.refl wr.heap.size wr).alloc (Nat.le_refl _) (.cells #[.string (S x.pk.nm),.string (S x.pk.vs),.slice s1 m1 t1,.slice s2 m2 t2,.slice s3 m3 t3,.slice s4 m4 t4,.slice s5 m5 t5,.slice s6 m6 t6,.bool x.pk.ess,.bool x.cfg,.bool x.hld] 45)
   have ia:=Blk.Is.new wr 45 #[.string (S x.pk.nm),.string (S x.pk.vs),.slice s1 m1 t1,.slice s2 m2 t2,.slice s3 m3 t3,.slice s4 m4 t4,.slice s5 m5 t5,.slice s6 m6 t6,.bool x.pk.ess,.bool x.cfg,.bool x.hld]
   obtain ⟨bx,hbx⟩:∃ bx,wr.heap.size = bx:=⟨_,rfl⟩
   obtain ⟨V,hV⟩:∃ V,wr.alloc (.cells #[.string (S x.pk.nm),.string (S x.pk.vs),.slice s1 m1 t1,.slice s2 m2 t2,.slice s3 m3 t3,.slice s4 m4 t4,.slice s5 m5 t5,.slice s6 m6 t6,.bool x.pk.ess,.bool x.cfg,.bool x.hld] 45) = V:=⟨_,rfl⟩
   rw [hV] at hba ia
   rw [hbx] at ia
   have HO2:=Lib.hid (Own.owns_below HO.out hba)
   have HB2:=Lib.hid (HB.out.trans (hba.mono HB.out.size))
   have HIA:=Lib.hid ia
   have HXX:=Lib.hid hx
   have HXM:=Lib.hid hxm
   have hu:=hV
   clear hkd hx hxm hat hcl hc2 henc hba ia hV e1 e2 e3 e4 e5 e6 HO HB
   go_wp2_with fail
   clear hu x0 x1 x2 x3 x4 x5 x6 x7 x8 x9 x10
   clear hbx
   go_loopg [6] k (fun gf s6 wx=>∃ t:Nat,s6 = .int .i64 t ∧ Hid (Below V.heap.size V wx) ∧ Hid (∀ j y,j < t → ds[j]? = some y → aheadE x.en y.en = true) ∧ t ≤ k ∧ k ≤ t + gf)
   case atStart=>exact ⟨0,rfl,Lib.hid (Below.refl _ _),Lib.hid (fun j y hj=>absurd hj (by omega)),by omega,by omega⟩
   case round =>
    obtain ⟨t,rfl,HBI,HE,htk,hfu2⟩:=hrel
    have ht0:(0:Int) ≤ t:=by omega
    have HO3:=Lib.hid (Own.owns_below HO2.out HBI.out)
    have HB3:=Lib.hid (HB2.out.trans (HBI.out.mono HB2.out.size))
    have HI3:=Lib.hid (Rl.is_on HIA.out HBI.out)
    by_cases htl:t < k
    ·have htl':(t:Int) < (k:Int):=by omega
     obtain ⟨y,hy⟩:∃ y,ds[t]? = some y:=⟨ds[t]'(by rw [HX.out.1]; exact htl),List.getElem?_eq_getElem _⟩
     obtain ⟨R,c2,e2,hcr⟩:=Rl.own_slice HO3.out (by omega)
     simp only [Value.slice.injEq,true_and] at e2
     obtain ⟨rfl,rfl⟩:=e2
     have hy0:=row_at HO3.out hy (j:=0) rfl
     rw [Nat.mul_comm 11 t] at hy0
     rw [Nat.add_zero] at hy0
     have CY0:Hid (∀ u,Below wr.heap.size wr u → u.cell? ⟨R,t * 11,none⟩ = some (.string (S y.pk.nm))):=Lib.hid fun u hu=>Rl.cell_on hy0 hu
     have CX0:Hid (∀ u,Below wr.heap.size wr u → u.cell? ⟨bx,0,none⟩ = some (.string (S x.pk.nm))):=Lib.hid fun u hu=>(Rl.is_on HI3.out hu).at (i:=0) rfl
     have hq:((S y.pk.nm).toList == (S x.pk.nm).toList) = decide (y.pk.nm = x.pk.nm):=Rl.S_beq _ _
     have hless:=less_nm y.pk.nm x.pk.nm
     have HY:=Lib.hid hy
     clear hy hy0
     by_cases hnl:Lib.compareBytes y.pk.nm x.pk.nm < 0
     ·rw [decide_eq_true hnl] at hless
      have hah:aheadE x.en y.en = true:=decide_eq_true (by show Lib.compareBytes y.pk.nm x.pk.nm ≤ 0; omega)
      obtain ⟨gk',rfl⟩:∃ gk',gk = gk' + 1:=⟨gk - 1,by omega⟩
      have HE2:Hid (∀ j y,j < t + 1 → ds[j]? = some y → aheadE x.en y.en = true):=Lib.hid fun j z hj hz=>by
       by_cases e:j = t
       ·subst e
        rw [HY.out] at hz
        obtain rfl:=Option.some.inj hz
        exact hah
       ·exact HE.out j z (by omega) hz
      clear HE hah
      clear hnl hq
      go_upto_region 6 with fail
      refine wp_region_held (S:=fun u=>Below wr.heap.size wr u) (by kernel_rfl) ?_
      have hS0:Below wr.heap.size wr wr.drew:=(Below.refl _ _).drew
      change wpAnyH _ _ _ _ _ 16 _ _ wr.drew
      generalize wr.drew = u0 at *
      refine wpAnyH_take (i:=0) (v:=.int .i64 t) rfl (by kernel_rfl) (by kernel_rfl) (by kernel_rfl) (fun _ _ _ h=>h) (.inl ⟨rfl,fun w _=>rfl⟩) hS0 ?_
      simp only [Act.put,List.getElem_toArray,List.getElem_cons_zero,List.getElem_cons_succ,List.setIfInBounds_toArray,List.set_cons_zero,List.set_cons_succ]
      refine wpAnyH_take (i:=1) (v:=.slice (some ⟨R,0,none⟩) k rc) rfl (by kernel_rfl) (by kernel_rfl) (by kernel_rfl) (fun _ _ _ h=>h) (.inl ⟨rfl,fun w _=>rfl⟩) hS0 ?_
      simp only [Act.put,List.getElem_toArray,List.getElem_cons_zero,List.getElem_cons_succ,List.setIfInBounds_toArray,List.set_cons_zero,List.set_cons_succ]
      refine wpAnyH_all (rs:=[2]) (by kernel_rfl) (by simp) ?_
      intro i hi
      obtain rfl:=List.mem_singleton.1 hi
      refine Reg.wpOp_list rfl ?_
      go_wp2_with fail
      change _ ∧ _
      refine ⟨hS0,?_⟩
      refine wpAnyH_all (rs:=[3]) (by kernel_rfl) (by simp) ?_
      intro i hi
      obtain rfl:=List.mem_singleton.1 hi
      refine Reg.wpOp_list rfl ?_
      go_wp2_with fail
      change _ ∧ _
      refine ⟨hS0,?_⟩
      refine wpAnyH_all (rs:=[4]) (by kernel_rfl) (by simp) ?_
      intro i hi
      obtain rfl:=List.mem_singleton.1 hi
      refine Reg.wpOp_list rfl ?_
      go_wp2_with fail
      change _ ∧ _
      refine ⟨hS0,?_⟩
      refine wpAnyH_take (i:=5) (v:=.slice (some ⟨R,0,none⟩) k rc) rfl (by kernel_rfl) (by kernel_rfl) (by kernel_rfl) (fun _ _ _ h=>h) (.inl ⟨rfl,fun w _=>rfl⟩) hS0 ?_
      simp only [Act.put,List.getElem_toArray,List.getElem_cons_zero,List.getElem_cons_succ,List.setIfInBounds_toArray,List.set_cons_zero,List.set_cons_succ]
      refine wpAnyH_take (i:=6) (v:=.int .i64 t) rfl (by kernel_rfl) (by kernel_rfl) (by kernel_rfl) (fun _ _ _ h=>h) (.inl ⟨rfl,fun w _=>rfl⟩) hS0 ?_
      simp only [Act.put,List.getElem_toArray,List.getElem_cons_zero,List.getElem_cons_succ,List.setIfInBounds_toArray,List.set_cons_zero,List.set_cons_succ]
      refine wpAnyH_take (i:=7) (v:=.pointer (some ⟨R,t * 11,none⟩)) rfl (by kernel_rfl) (by kernel_rfl) (by kernel_rfl) (fun _ _ _ h=>h) (.inl ⟨rfl,fun w _=>by simp [execOp,go_sem,Addr.add,htl] <;> first | omega | (intro h; omega) | (intro h; simp [h])⟩) hS0 ?_
      simp only [Act.put,List.getElem_toArray,List.getElem_cons_zero,List.getElem_cons_succ,List.setIfInBounds_toArray,List.set_cons_zero,List.set_cons_succ]
      refine wpAnyH_take (i:=8) (v:=.pointer (some ⟨R,t * 11,none⟩)) rfl (by kernel_rfl) (by kernel_rfl) (by kernel_rfl) (fun _ _ _ h=>h) (.inl ⟨rfl,fun w _=>rfl⟩) hS0 ?_
      simp only [Act.put,List.getElem_toArray,List.getElem_cons_zero,List.getElem_cons_succ,List.setIfInBounds_toArray,List.set_cons_zero,List.set_cons_succ]
      refine wpAnyH_take (i:=9) (v:=.pointer (some ⟨R,t * 11,none⟩)) rfl (by kernel_rfl) (by kernel_rfl) (by kernel_rfl) (fun _ _ _ h=>h) (.inl ⟨rfl,fun w _=>rfl⟩) hS0 ?_
      simp only [Act.put,List.getElem_toArray,List.getElem_cons_zero,List.getElem_cons_succ,List.setIfInBounds_toArray,List.set_cons_zero,List.set_cons_succ]
      refine wpAnyH_take (i:=10) (v:=.string (S y.pk.nm)) rfl (by kernel_rfl) (by kernel_rfl) (by kernel_rfl) (fun _ _ _ h=>h) (Held.load1 rfl 9 (.tmp 22) rfl R (t * 11) rfl _ _ CY0.out Tryz.underlying9 rfl) hS0 ?_
      simp only [Act.put,List.getElem_toArray,List.getElem_cons_zero,List.getElem_cons_succ,List.setIfInBounds_toArray,List.set_cons_zero,List.set_cons_succ]
      refine wpAnyH_take (i:=11) (v:=.pointer (some ⟨bx,0,none⟩)) rfl (by kernel_rfl) (by kernel_rfl) (by kernel_rfl) (fun _ _ _ h=>h) (.inl ⟨rfl,fun w _=>rfl⟩) hS0 ?_
      simp only [Act.put,List.getElem_toArray,List.getElem_cons_zero,List.getElem_cons_succ,List.setIfInBounds_toArray,List.set_cons_zero,List.set_cons_succ]
      refine wpAnyH_take (i:=12) (v:=.pointer (some ⟨bx,0,none⟩)) rfl (by kernel_rfl) (by kernel_rfl) (by kernel_rfl) (fun _ _ _ h=>h) (.inl ⟨rfl,fun w _=>rfl⟩) hS0 ?_
      simp only [Act.put,List.getElem_toArray,List.getElem_cons_zero,List.getElem_cons_succ,List.setIfInBounds_toArray,List.set_cons_zero,List.set_cons_succ]
      refine wpAnyH_take (i:=13) (v:=.string (S x.pk.nm)) rfl (by kernel_rfl) (by kernel_rfl) (by kernel_rfl) (fun _ _ _ h=>h) (Held.load1 rfl 9 (.tmp 25) rfl bx 0 rfl _ _ CX0.out Tryz.underlying9 rfl) hS0 ?_
      simp only [Act.put,List.getElem_toArray,List.getElem_cons_zero,List.getElem_cons_succ,List.setIfInBounds_toArray,List.set_cons_zero,List.set_cons_succ]
      refine wpAnyH_all (rs:=[14]) (by kernel_rfl) (by simp) ?_
      intro i hi
      obtain rfl:=List.mem_singleton.1 hi
      refine Reg.wpOp_list rfl ?_
      go_wp2_with fail
      change _ ∧ _
      refine ⟨hS0,?_⟩
      refine wpAnyH_all (rs:=[15]) (by kernel_rfl) (by simp) ?_
      intro i hi
      obtain rfl:=List.mem_singleton.1 hi
      refine Reg.wpOp_list rfl ?_
      go_wp2_with fail
      change _ ∧ _
      refine ⟨hS0,?_⟩
      refine wpAnyH_done (by kernel_rfl) ?_ _
      have BI:=Lib.hid (HBI.out.trans (hS0.mono HBI.out.size))
      clear hS0
      go_wp2_with fail
      go_roundg gk'
      case measure=>omega
      case rel=>exact ⟨t + 1,by go_num,BI,HE2,by omega,by omega⟩
     ·rw [decide_eq_false hnl] at hless
      by_cases hnm:y.pk.nm = x.pk.nm
      ·rw [decide_eq_true hnm] at hq
       have hah:aheadE x.en y.en = true:=decide_eq_true (by show Lib.compareBytes y.pk.nm x.pk.nm ≤ 0; rw [hnm,cb_self]; omega)
       obtain ⟨gk',rfl⟩:∃ gk',gk = gk' + 1:=⟨gk - 1,by omega⟩
       have HE2:Hid (∀ j y,j < t + 1 → ds[j]? = some y → aheadE x.en y.en = true):=Lib.hid fun j z hj hz=>by
        by_cases e:j = t
        ·subst e
         rw [HY.out] at hz
         obtain rfl:=Option.some.inj hz
         exact hah
        ·exact HE.out j z (by omega) hz
       clear HE hah
       clear hnl hnm
       go_upto_region 6 with fail
       refine wp_region_held (S:=fun u=>Below wr.heap.size wr u) (by kernel_rfl) ?_
       have hS0:Below wr.heap.size wr wr.drew:=(Below.refl _ _).drew
       change wpAnyH _ _ _ _ _ 16 _ _ wr.drew
       generalize wr.drew = u0 at *
       refine wpAnyH_take (i:=0) (v:=.int .i64 t) rfl (by kernel_rfl) (by kernel_rfl) (by kernel_rfl) (fun _ _ _ h=>h) (.inl ⟨rfl,fun w _=>rfl⟩) hS0 ?_
       simp only [Act.put,List.getElem_toArray,List.getElem_cons_zero,List.getElem_cons_succ,List.setIfInBounds_toArray,List.set_cons_zero,List.set_cons_succ]
       refine wpAnyH_take (i:=1) (v:=.slice (some ⟨R,0,none⟩) k rc) rfl (by kernel_rfl) (by kernel_rfl) (by kernel_rfl) (fun _ _ _ h=>h) (.inl ⟨rfl,fun w _=>rfl⟩) hS0 ?_
       simp only [Act.put,List.getElem_toArray,List.getElem_cons_zero,List.getElem_cons_succ,List.setIfInBounds_toArray,List.set_cons_zero,List.set_cons_succ]
       refine wpAnyH_all (rs:=[2]) (by kernel_rfl) (by simp) ?_
       intro i hi
       obtain rfl:=List.mem_singleton.1 hi
       refine Reg.wpOp_list rfl ?_
       go_wp2_with fail
       change _ ∧ _
       refine ⟨hS0,?_⟩
       refine wpAnyH_all (rs:=[3]) (by kernel_rfl) (by simp) ?_
       intro i hi
       obtain rfl:=List.mem_singleton.1 hi
       refine Reg.wpOp_list rfl ?_
       go_wp2_with fail
       change _ ∧ _
       refine ⟨hS0,?_⟩
       refine wpAnyH_all (rs:=[4]) (by kernel_rfl) (by simp) ?_
       intro i hi
       obtain rfl:=List.mem_singleton.1 hi
       refine Reg.wpOp_list rfl ?_
       go_wp2_with fail
       change _ ∧ _
       refine ⟨hS0,?_⟩
       refine wpAnyH_take (i:=5) (v:=.slice (some ⟨R,0,none⟩) k rc) rfl (by kernel_rfl) (by kernel_rfl) (by kernel_rfl) (fun _ _ _ h=>h) (.inl ⟨rfl,fun w _=>rfl⟩) hS0 ?_
       simp only [Act.put,List.getElem_toArray,List.getElem_cons_zero,List.getElem_cons_succ,List.setIfInBounds_toArray,List.set_cons_zero,List.set_cons_succ]
       refine wpAnyH_take (i:=6) (v:=.int .i64 t) rfl (by kernel_rfl) (by kernel_rfl) (by kernel_rfl) (fun _ _ _ h=>h) (.inl ⟨rfl,fun w _=>rfl⟩) hS0 ?_
       simp only [Act.put,List.getElem_toArray,List.getElem_cons_zero,List.getElem_cons_succ,List.setIfInBounds_toArray,List.set_cons_zero,List.set_cons_succ]
       refine wpAnyH_take (i:=7) (v:=.pointer (some ⟨R,t * 11,none⟩)) rfl (by kernel_rfl) (by kernel_rfl) (by kernel_rfl) (fun _ _ _ h=>h) (.inl ⟨rfl,fun w _=>by simp [execOp,go_sem,Addr.add,htl] <;> first | omega | (intro h; omega) | (intro h; simp [h])⟩) hS0 ?_
       simp only [Act.put,List.getElem_toArray,List.getElem_cons_zero,List.getElem_cons_succ,List.setIfInBounds_toArray,List.set_cons_zero,List.set_cons_succ]
       refine wpAnyH_take (i:=8) (v:=.pointer (some ⟨R,t * 11,none⟩)) rfl (by kernel_rfl) (by kernel_rfl) (by kernel_rfl) (fun _ _ _ h=>h) (.inl ⟨rfl,fun w _=>rfl⟩) hS0 ?_
       simp only [Act.put,List.getElem_toArray,List.getElem_cons_zero,List.getElem_cons_succ,List.setIfInBounds_toArray,List.set_cons_zero,List.set_cons_succ]
       refine wpAnyH_take (i:=9) (v:=.pointer (some ⟨R,t * 11,none⟩)) rfl (by kernel_rfl) (by kernel_rfl) (by kernel_rfl) (fun _ _ _ h=>h) (.inl ⟨rfl,fun w _=>rfl⟩) hS0 ?_
       simp only [Act.put,List.getElem_toArray,List.getElem_cons_zero,List.getElem_cons_succ,List.setIfInBounds_toArray,List.set_cons_zero,List.set_cons_succ]
       refine wpAnyH_take (i:=10) (v:=.string (S y.pk.nm)) rfl (by kernel_rfl) (by kernel_rfl) (by kernel_rfl) (fun _ _ _ h=>h) (Held.load1 rfl 9 (.tmp 22) rfl R (t * 11) rfl _ _ CY0.out Tryz.underlying9 rfl) hS0 ?_
       simp only [Act.put,List.getElem_toArray,List.getElem_cons_zero,List.getElem_cons_succ,List.setIfInBounds_toArray,List.set_cons_zero,List.set_cons_succ]
       refine wpAnyH_take (i:=11) (v:=.pointer (some ⟨bx,0,none⟩)) rfl (by kernel_rfl) (by kernel_rfl) (by kernel_rfl) (fun _ _ _ h=>h) (.inl ⟨rfl,fun w _=>rfl⟩) hS0 ?_
       simp only [Act.put,List.getElem_toArray,List.getElem_cons_zero,List.getElem_cons_succ,List.setIfInBounds_toArray,List.set_cons_zero,List.set_cons_succ]
       refine wpAnyH_take (i:=12) (v:=.pointer (some ⟨bx,0,none⟩)) rfl (by kernel_rfl) (by kernel_rfl) (by kernel_rfl) (fun _ _ _ h=>h) (.inl ⟨rfl,fun w _=>rfl⟩) hS0 ?_
       simp only [Act.put,List.getElem_toArray,List.getElem_cons_zero,List.getElem_cons_succ,List.setIfInBounds_toArray,List.set_cons_zero,List.set_cons_succ]
       refine wpAnyH_take (i:=13) (v:=.string (S x.pk.nm)) rfl (by kernel_rfl) (by kernel_rfl) (by kernel_rfl) (fun _ _ _ h=>h) (Held.load1 rfl 9 (.tmp 25) rfl bx 0 rfl _ _ CX0.out Tryz.underlying9 rfl) hS0 ?_
       simp only [Act.put,List.getElem_toArray,List.getElem_cons_zero,List.getElem_cons_succ,List.setIfInBounds_toArray,List.set_cons_zero,List.set_cons_succ]
       refine wpAnyH_all (rs:=[14]) (by kernel_rfl) (by simp) ?_
       intro i hi
       obtain rfl:=List.mem_singleton.1 hi
       refine Reg.wpOp_list rfl ?_
       go_wp2_with fail
       change _ ∧ _
       refine ⟨hS0,?_⟩
       refine wpAnyH_all (rs:=[15]) (by kernel_rfl) (by simp) ?_
       intro i hi
       obtain rfl:=List.mem_singleton.1 hi
       refine Reg.wpOp_list rfl ?_
       go_wp2_with fail
       change _ ∧ _
       refine ⟨hS0,?_⟩
       refine wpAnyH_done (by kernel_rfl) ?_ _
       have BI:=Lib.hid (HBI.out.trans (hS0.mono HBI.out.size))
       clear hS0
       go_wp2_with fail
       go_roundg gk'
       case measure=>omega
       case rel=>exact ⟨t + 1,by go_num,BI,HE2,by omega,by omega⟩
      ·rw [decide_eq_false hnm] at hq
       have hah:aheadE x.en y.en = false:=decide_eq_false (by show ¬ Lib.compareBytes y.pk.nm x.pk.nm ≤ 0; have:Lib.compareBytes y.pk.nm x.pk.nm ≠ 0:=fun e=>hnm (cb_zero e); omega)
       have HNA:Hid (slotE x.en (ds.map Et.en) = t):=slot_at HY.out hah HE.out
       clear hnl hnm
       go_upto_region 6 with fail
       refine wp_region_held (S:=fun u=>Below wr.heap.size wr u) (by kernel_rfl) ?_
       have hS0:Below wr.heap.size wr wr.drew:=(Below.refl _ _).drew
       change wpAnyH _ _ _ _ _ 16 _ _ wr.drew
       generalize wr.drew = u0 at *
       refine wpAnyH_take (i:=0) (v:=.int .i64 t) rfl (by kernel_rfl) (by kernel_rfl) (by kernel_rfl) (fun _ _ _ h=>h) (.inl ⟨rfl,fun w _=>rfl⟩) hS0 ?_
       simp only [Act.put,List.getElem_toArray,List.getElem_cons_zero,List.getElem_cons_succ,List.setIfInBounds_toArray,List.set_cons_zero,List.set_cons_succ]
       refine wpAnyH_take (i:=1) (v:=.slice (some ⟨R,0,none⟩) k rc) rfl (by kernel_rfl) (by kernel_rfl) (by kernel_rfl) (fun _ _ _ h=>h) (.inl ⟨rfl,fun w _=>rfl⟩) hS0 ?_
       simp only [Act.put,List.getElem_toArray,List.getElem_cons_zero,List.getElem_cons_succ,List.setIfInBounds_toArray,List.set_cons_zero,List.set_cons_succ]
       refine wpAnyH_all (rs:=[2]) (by kernel_rfl) (by simp) ?_
       intro i hi
       obtain rfl:=List.mem_singleton.1 hi
       refine Reg.wpOp_list rfl ?_
       go_wp2_with fail
       change _ ∧ _
       refine ⟨hS0,?_⟩
       refine wpAnyH_all (rs:=[3]) (by kernel_rfl) (by simp) ?_
       intro i hi
       obtain rfl:=List.mem_singleton.1 hi
       refine Reg.wpOp_list rfl ?_
       go_wp2_with fail
       change _ ∧ _
       refine ⟨hS0,?_⟩
       refine wpAnyH_all (rs:=[4]) (by kernel_rfl) (by simp) ?_
       intro i hi
       obtain rfl:=List.mem_singleton.1 hi
       refine Reg.wpOp_list rfl ?_
       go_wp2_with fail
       change _ ∧ _
       refine ⟨hS0,?_⟩
       refine wpAnyH_take (i:=5) (v:=.slice (some ⟨R,0,none⟩) k rc) rfl (by kernel_rfl) (by kernel_rfl) (by kernel_rfl) (fun _ _ _ h=>h) (.inl ⟨rfl,fun w _=>rfl⟩) hS0 ?_
       simp only [Act.put,List.getElem_toArray,List.getElem_cons_zero,List.getElem_cons_succ,List.setIfInBounds_toArray,List.set_cons_zero,List.set_cons_succ]
       refine wpAnyH_take (i:=6) (v:=.int .i64 t) rfl (by kernel_rfl) (by kernel_rfl) (by kernel_rfl) (fun _ _ _ h=>h) (.inl ⟨rfl,fun w _=>rfl⟩) hS0 ?_
       simp only [Act.put,List.getElem_toArray,List.getElem_cons_zero,List.getElem_cons_succ,List.setIfInBounds_toArray,List.set_cons_zero,List.set_cons_succ]
       refine wpAnyH_take (i:=7) (v:=.pointer (some ⟨R,t * 11,none⟩)) rfl (by kernel_rfl) (by kernel_rfl) (by kernel_rfl) (fun _ _ _ h=>h) (.inl ⟨rfl,fun w _=>by simp [execOp,go_sem,Addr.add,htl] <;> first | omega | (intro h; omega) | (intro h; simp [h])⟩) hS0 ?_
       simp only [Act.put,List.getElem_toArray,List.getElem_cons_zero,List.getElem_cons_succ,List.setIfInBounds_toArray,List.set_cons_zero,List.set_cons_succ]
       refine wpAnyH_take (i:=8) (v:=.pointer (some ⟨R,t * 11,none⟩)) rfl (by kernel_rfl) (by kernel_rfl) (by kernel_rfl) (fun _ _ _ h=>h) (.inl ⟨rfl,fun w _=>rfl⟩) hS0 ?_
       simp only [Act.put,List.getElem_toArray,List.getElem_cons_zero,List.getElem_cons_succ,List.setIfInBounds_toArray,List.set_cons_zero,List.set_cons_succ]
       refine wpAnyH_take (i:=9) (v:=.pointer (some ⟨R,t * 11,none⟩)) rfl (by kernel_rfl) (by kernel_rfl) (by kernel_rfl) (fun _ _ _ h=>h) (.inl ⟨rfl,fun w _=>rfl⟩) hS0 ?_
       simp only [Act.put,List.getElem_toArray,List.getElem_cons_zero,List.getElem_cons_succ,List.setIfInBounds_toArray,List.set_cons_zero,List.set_cons_succ]
       refine wpAnyH_take (i:=10) (v:=.string (S y.pk.nm)) rfl (by kernel_rfl) (by kernel_rfl) (by kernel_rfl) (fun _ _ _ h=>h) (Held.load1 rfl 9 (.tmp 22) rfl R (t * 11) rfl _ _ CY0.out Tryz.underlying9 rfl) hS0 ?_
       simp only [Act.put,List.getElem_toArray,List.getElem_cons_zero,List.getElem_cons_succ,List.setIfInBounds_toArray,List.set_cons_zero,List.set_cons_succ]
       refine wpAnyH_take (i:=11) (v:=.pointer (some ⟨bx,0,none⟩)) rfl (by kernel_rfl) (by kernel_rfl) (by kernel_rfl) (fun _ _ _ h=>h) (.inl ⟨rfl,fun w _=>rfl⟩) hS0 ?_
       simp only [Act.put,List.getElem_toArray,List.getElem_cons_zero,List.getElem_cons_succ,List.setIfInBounds_toArray,List.set_cons_zero,List.set_cons_succ]
       refine wpAnyH_take (i:=12) (v:=.pointer (some ⟨bx,0,none⟩)) rfl (by kernel_rfl) (by kernel_rfl) (by kernel_rfl) (fun _ _ _ h=>h) (.inl ⟨rfl,fun w _=>rfl⟩) hS0 ?_
       simp only [Act.put,List.getElem_toArray,List.getElem_cons_zero,List.getElem_cons_succ,List.setIfInBounds_toArray,List.set_cons_zero,List.set_cons_succ]
       refine wpAnyH_take (i:=13) (v:=.string (S x.pk.nm)) rfl (by kernel_rfl) (by kernel_rfl) (by kernel_rfl) (fun _ _ _ h=>h) (Held.load1 rfl 9 (.tmp 25) rfl bx 0 rfl _ _ CX0.out Tryz.underlying9 rfl) hS0 ?_
       simp only [Act.put,List.getElem_toArray,List.getElem_cons_zero,List.getElem_cons_succ,List.setIfInBounds_toArray,List.set_cons_zero,List.set_cons_succ]
       refine wpAnyH_all (rs:=[14]) (by kernel_rfl) (by simp) ?_
       intro i hi
       obtain rfl:=List.mem_singleton.1 hi
       refine Reg.wpOp_list rfl ?_
       go_wp2_with fail
       change _ ∧ _
       refine ⟨hS0,?_⟩
       refine wpAnyH_all (rs:=[15]) (by kernel_rfl) (by simp) ?_
       intro i hi
       obtain rfl:=List.mem_singleton.1 hi
       refine Reg.wpOp_list rfl ?_
       go_wp2_with fail
       change _ ∧ _
       refine ⟨hS0,?_⟩
       refine wpAnyH_done (by kernel_rfl) ?_ _
       have B6:=Lib.hid hS0
       skip
       generalize u0 = wb at *
       go_upto_region 8 with fail
       have hbW:=HB3.out.trans (B6.out.mono HB3.out.size)
       have hob:=Own.owns_below HO3.out B6.out
       have hib:=Rl.is_on HI3.out B6.out
       have hle:t ≤ k:=by omega
       have h60:k ≤ 60000:=by omega
       obtain ⟨_,_,eo,hrc⟩:=Rl.own_shape hob
       simp only [Value.slice.injEq,true_and] at eo
       obtain ⟨hx9,rfl⟩:=eo
       clear hx9
       obtain ⟨vt,hrun,hslt⟩:=tail_slc hob HX.out.1 hle h60
       obtain ⟨HC,hHC⟩:∃ HC,(ds.take t).flatMap Et.enc = HC:=⟨_,rfl⟩
       obtain ⟨TC,hTC⟩:∃ TC,(ds.drop t).flatMap Et.enc = TC:=⟨_,rfl⟩
       have SH:Hid (∀ u,Below wb.heap.size wb u → Src Tryz.prog 11 26 (.slice (some ⟨R,0,none⟩) t rc) t HC u):=Lib.hid fun u hu=>by
        have h:=els_src (head_slc (Own.owns_below hob hu) HX.out.1 hle h60)
        rw [hHC,List.length_take,HX.out.1,Nat.min_eq_left hle] at h
        exact h
       have ST:Hid (∀ u,Below wb.heap.size wb u → Src Tryz.prog 11 26 vt (k - t) TC u):=Lib.hid fun u hu=>by
        have h:=els_src (hslt u hu)
        rw [hTC,List.length_drop,HX.out.1] at h
        exact h
       have KX:Hid (∀ u,Below wb.heap.size wb u → u.rangeAt bx 0 [.string (S x.pk.nm),.string (S x.pk.vs),.slice s1 m1 t1,.slice s2 m2 t2,.slice s3 m3 t3,.slice s4 m4 t4,.slice s5 m5 t5,.slice s6 m6 t6,.bool x.pk.ess,.bool x.cfg,.bool x.hld]):=Lib.hid fun u hu=>range_of (Rl.is_on hib hu)
       have z9:(Tryz.prog.info? 45).map (·.size) = some 11:=by kernel_rfl
       have Z9:=Lib.hid z9
       have HEADH:=Lib.hid (fun w=>at_slice (w:=w) (slice_head (some ⟨R,0,none⟩) k rc t (by omega) w))
       have TAILH:=Lib.hid (fun w=>at_slice (hrun w))
       have BW:=Lib.hid hbW
       have HHC:=Lib.hid hHC
       have HTC:=Lib.hid hTC
       have INS:=Lib.hid (ins_els HXX.out HX.out.1 HX.out.2.1 HX.out.2.2 HXM.out HNA.out)
       obtain ⟨i0,hi0,hz0,hz1,hz2⟩:=info_parts Rc.infoEn
       have HI0:=Lib.hid hi0
       clear hbW hob hib hrun hslt hHC hTC z9 hi0
       refine wp_region_held (S:=fun u=>Below wb.heap.size wb u) (by kernel_rfl) ?_
       have hS0:Below wb.heap.size wb wb.drew:=(Below.refl _ _).drew
       change wpAnyH _ _ _ _ _ 12 _ _ wb.drew
       generalize wb.drew = u0 at *
       refine wpAnyH_take (i:=0) (v:=.slice (some ⟨R,0,none⟩) k rc) rfl (by kernel_rfl) (by kernel_rfl) (by kernel_rfl) (fun _ _ _ h=>h) (.inl ⟨rfl,fun w _=>rfl⟩) hS0 ?_
       simp only [Act.put,List.getElem_toArray,List.getElem_cons_zero,List.getElem_cons_succ,List.setIfInBounds_toArray,List.set_cons_zero,List.set_cons_succ]
       refine wpAnyH_take (i:=1) (v:=.int .i64 t) rfl (by kernel_rfl) (by kernel_rfl) (by kernel_rfl) (fun _ _ _ h=>h) (.inl ⟨rfl,fun w _=>rfl⟩) hS0 ?_
       simp only [Act.put,List.getElem_toArray,List.getElem_cons_zero,List.getElem_cons_succ,List.setIfInBounds_toArray,List.set_cons_zero,List.set_cons_succ]
       refine wpAnyH_take (i:=7) (v:=.slice (some ⟨R,0,none⟩) k rc) rfl (by kernel_rfl) (by kernel_rfl) (by kernel_rfl) (fun _ _ _ h=>h) (.inl ⟨rfl,fun w _=>rfl⟩) hS0 ?_
       simp only [Act.put,List.getElem_toArray,List.getElem_cons_zero,List.getElem_cons_succ,List.setIfInBounds_toArray,List.set_cons_zero,List.set_cons_succ]
       refine wpAnyH_take (i:=8) (v:=.int .i64 t) rfl (by kernel_rfl) (by kernel_rfl) (by kernel_rfl) (fun _ _ _ h=>h) (.inl ⟨rfl,fun w _=>rfl⟩) hS0 ?_
       simp only [Act.put,List.getElem_toArray,List.getElem_cons_zero,List.getElem_cons_succ,List.setIfInBounds_toArray,List.set_cons_zero,List.set_cons_succ]
       refine wpAnyH_take (i:=2) (v:=.slice (some ⟨R,0,none⟩) t rc) rfl (by kernel_rfl) (by kernel_rfl) (by kernel_rfl) (fun _ _ _ h=>h) (.inl ⟨rfl,fun w _=>by simp [execOp]; erw [HEADH.out w]; rfl⟩) hS0 ?_
       simp only [Act.put,List.getElem_toArray,List.getElem_cons_zero,List.getElem_cons_succ,List.setIfInBounds_toArray,List.set_cons_zero,List.set_cons_succ]
       refine wpAnyH_take (i:=9) (v:=vt) rfl (by kernel_rfl) (by kernel_rfl) (by kernel_rfl) (fun _ _ _ h=>h) (.inl ⟨rfl,fun w _=>by simp [execOp]; erw [TAILH.out w]; rfl⟩) hS0 ?_
       simp only [Act.put,List.getElem_toArray,List.getElem_cons_zero,List.getElem_cons_succ,List.setIfInBounds_toArray,List.set_cons_zero,List.set_cons_succ]
       refine wpAnyH_take (i:=4) (v:=.agg [.string (S x.pk.nm),.string (S x.pk.vs),.slice s1 m1 t1,.slice s2 m2 t2,.slice s3 m3 t3,.slice s4 m4 t4,.slice s5 m5 t5,.slice s6 m6 t6,.bool x.pk.ess,.bool x.cfg,.bool x.hld].toArray) rfl (by kernel_rfl) (by kernel_rfl) (by kernel_rfl) (fun _ _ _ h=>h) (yieldsIf_load_mid rfl 45 (.tmp 5) rfl bx 0 rfl _ _ KX.out Tryz.underlying45 rfl Z9.out) hS0 ?_
       simp only [Act.put,List.getElem_toArray,List.getElem_cons_zero,List.getElem_cons_succ,List.setIfInBounds_toArray,List.set_cons_zero,List.set_cons_succ]
       refine wpAnyH_all (rs:=[3,5]) (by kernel_rfl) (by simp) ?_
       intro i hi
       simp only [List.mem_cons,List.not_mem_nil,or_false] at hi
       rcases hi with rfl | rfl
       ·have hz:=hS0.size
        refine Reg.wpOp_list rfl ?_
        (refine Own.wpList_append_src rfl (.const (.slice none 0 0)) (.tmp 33) 26 26 rfl wb.heap.size 45 i0 _ 11 192 Tryz.underlying26 HI0.out hz0 hz1 hz2 rfl _ 0 [] rfl (World.ownsRow_nil _ _ _ _) _ t HC rfl (SH.out _ hS0) (by simp only [maxLen]; omega) (by omega) hz ?_; intro v3 u1 o3 g3)
        go_wp2_with fail
        change _ ∧ _
        have hS1:Below wb.heap.size wb u1:=Own.below_grown hS0 (World.ownsRow_nil u0 wb.heap.size 45 9) g3 hz
        rw [Nat.zero_add,List.nil_append] at o3
        have O3:=Lib.hid o3



        refine ⟨hS1,?_⟩
        clear o3 g3 hz
        have hba:=(Below.refl u1.heap.size u1).alloc (Nat.le_refl _) (.cells #[.string (S x.pk.nm),.string (S x.pk.vs),.slice s1 m1 t1,.slice s2 m2 t2,.slice s3 m3 t3,.slice s4 m4 t4,.slice s5 m5 t5,.slice s6 m6 t6,.bool x.pk.ess,.bool x.cfg,.bool x.hld] 45)
        have ia5:=Blk.Is.new u1 45 #[.string (S x.pk.nm),.string (S x.pk.vs),.slice s1 m1 t1,.slice s2 m2 t2,.slice s3 m3 t3,.slice s4 m4 t4,.slice s5 m5 t5,.slice s6 m6 t6,.bool x.pk.ess,.bool x.cfg,.bool x.hld]
        obtain ⟨u2,hu2⟩:∃ u2,u1.alloc (.cells #[.string (S x.pk.nm),.string (S x.pk.vs),.slice s1 m1 t1,.slice s2 m2 t2,.slice s3 m3 t3,.slice s4 m4 t4,.slice s5 m5 t5,.slice s6 m6 t6,.bool x.pk.ess,.bool x.cfg,.bool x.hld] 45) = u2:=⟨_,rfl⟩
        rw [hu2] at hba ia5
        have hS2:Below wb.heap.size wb u2:=hS1.trans (hba.mono hS1.size)
        have I5:=Lib.hid ia5
        obtain ⟨b5,hb5⟩:∃ b5,u1.heap.size = b5:=⟨_,rfl⟩
        rw [hb5] at I5
        have O3':=Lib.hid (Own.owns_below O3.out hba)
        clear O3
        have O3:=O3'
        clear O3'
        refine wpAnyH_all (rs:=[5]) (by kernel_rfl) (by simp) ?_
        intro i hi
        obtain rfl:=List.mem_singleton.1 hi
        refine Reg.wpOp_list rfl ?_
        go_wp2_with fail
        change _ ∧ _
        refine ⟨hS2,?_⟩
        clear hu2 hba ia5 hb5
        refine wpAnyH_all (rs:=[6]) (by kernel_rfl) (by simp) ?_
        intro i hi
        obtain rfl:=List.mem_singleton.1 hi
        have hz:=hS2.size
        have h70:t + 1 ≤ 70000:=by omega
        refine Reg.wpOp_list rfl ?_
        (refine append_en rfl (.tmp 34) (.tmp 36) rfl wb.heap.size v3 t HC rfl O3.out b5 1 rfl [.string (S x.pk.nm),.string (S x.pk.vs),.slice s1 m1 t1,.slice s2 m2 t2,.slice s3 m3 t3,.slice s4 m4 t4,.slice s5 m5 t5,.slice s6 m6 t6,.bool x.pk.ess,.bool x.cfg,.bool x.hld] rfl (fun j u hj=>I5.out.at (by rw [← Array.getElem?_toList]; exact hj)) (fun u hu=>by simp only [List.mem_cons,List.not_mem_nil,or_false] at hu; rcases hu with rfl | rfl | rfl | rfl | rfl | rfl | rfl | rfl | rfl | rfl | rfl <;> rfl) h70 hz ?_; intro v6 u3 o6 g6)
        go_wp2_with fail
        change _ ∧ _
        have hS3:Below wb.heap.size wb u3:=Own.below_grown hS2 O3.out g6 hz
        have O6:=Lib.hid o6
        refine ⟨hS3,?_⟩
        clear o6 g6 hz O3 I5
        refine wpAnyH_all (rs:=[10]) (by kernel_rfl) (by simp) ?_
        intro i hi
        obtain rfl:=List.mem_singleton.1 hi
        have hz:=hS3.size
        refine Reg.wpOp_list rfl ?_
        (refine Own.wpList_append_src rfl (.tmp 37) (.tmp 40) 26 26 rfl wb.heap.size 45 i0 _ 11 192 Tryz.underlying26 HI0.out hz0 hz1 hz2 rfl v6 (t + 1) (HC ++ [.string (S x.pk.nm),.string (S x.pk.vs),.slice s1 m1 t1,.slice s2 m2 t2,.slice s3 m3 t3,.slice s4 m4 t4,.slice s5 m5 t5,.slice s6 m6 t6,.bool x.pk.ess,.bool x.cfg,.bool x.hld]) rfl O6.out vt (k - t) TC rfl (ST.out _ hS3) (by simp only [maxLen]; omega) (by omega) hz ?_; intro v10 u4 o10 g10)
        go_wp2_with fail
        change _ ∧ _
        have hS4:Below wb.heap.size wb u4:=Own.below_grown hS3 O6.out g10 hz
        rw [show t + 1 + (k - t) = k + 1 by omega] at o10
        obtain ⟨a10,c10,rfl,_⟩:=Rl.own_shape o10
        have O10:=Lib.hid o10
        refine ⟨hS4,?_⟩
        clear o10 g10 hz O6
        refine wpAnyH_all (rs:=[11]) (by kernel_rfl) (by simp) ?_
        intro i hi
        obtain rfl:=List.mem_singleton.1 hi
        refine Reg.wpOp_list rfl ?_
        go_wp2_with fail
        change _ ∧ _
        refine ⟨hS4,?_⟩
        refine wpAnyH_done (by kernel_rfl) ?_ _
        have hbz:=BW.out.trans (hS4.mono BW.out.size)
        have hfin:=Rl.own_mono O10.out BW.out.size
        have hcat:(HC ++ [.string (S x.pk.nm),.string (S x.pk.vs),.slice s1 m1 t1,.slice s2 m2 t2,.slice s3 m3 t3,.slice s4 m4 t4,.slice s5 m5 t5,.slice s6 m6 t6,.bool x.pk.ess,.bool x.cfg,.bool x.hld]) ++ TC = (ds.take t ++ [x] ++ ds.drop t).flatMap Et.enc:=by
         rw [List.flatMap_append,List.flatMap_append,HHC.out,HTC.out,← HENC.out]
         simp
        rw [hcat] at hfin
        have HFIN:=Lib.hid hfin
        have BZ:=Lib.hid hbz
        clear hS0 hS1 hS2 hS3 hS4 hbz hfin hcat
        go_wp2_with fail
        go_roundg g'
        case measure=>omega
        case rel=>exact ⟨k + 1,a10,c10,ds.take t ++ [x] ++ ds.drop t,rfl,by go_num,HFIN,INS,BZ,by omega,by omega⟩
       ·have hba:=(Below.refl u0.heap.size u0).alloc (Nat.le_refl _) (.cells #[.string (S x.pk.nm),.string (S x.pk.vs),.slice s1 m1 t1,.slice s2 m2 t2,.slice s3 m3 t3,.slice s4 m4 t4,.slice s5 m5 t5,.slice s6 m6 t6,.bool x.pk.ess,.bool x.cfg,.bool x.hld] 45)
        have ia5:=Blk.Is.new u0 45 #[.string (S x.pk.nm),.string (S x.pk.vs),.slice s1 m1 t1,.slice s2 m2 t2,.slice s3 m3 t3,.slice s4 m4 t4,.slice s5 m5 t5,.slice s6 m6 t6,.bool x.pk.ess,.bool x.cfg,.bool x.hld]
        obtain ⟨u1,hu1⟩:∃ u1,u0.alloc (.cells #[.string (S x.pk.nm),.string (S x.pk.vs),.slice s1 m1 t1,.slice s2 m2 t2,.slice s3 m3 t3,.slice s4 m4 t4,.slice s5 m5 t5,.slice s6 m6 t6,.bool x.pk.ess,.bool x.cfg,.bool x.hld] 45) = u1:=⟨_,rfl⟩
        rw [hu1] at hba ia5
        have hS1:Below wb.heap.size wb u1:=hS0.trans (hba.mono hS0.size)
        have I5:=Lib.hid ia5
        obtain ⟨b5,hb5⟩:∃ b5,u0.heap.size = b5:=⟨_,rfl⟩
        rw [hb5] at I5
        refine Reg.wpOp_list rfl ?_
        go_wp2_with fail
        change _ ∧ _
        refine ⟨hS1,?_⟩
        clear hu1 hba ia5 hb5
        refine wpAnyH_all (rs:=[3]) (by kernel_rfl) (by simp) ?_
        intro i hi
        obtain rfl:=List.mem_singleton.1 hi
        have hz:=hS1.size
        refine Reg.wpOp_list rfl ?_
        (refine Own.wpList_append_src rfl (.const (.slice none 0 0)) (.tmp 33) 26 26 rfl wb.heap.size 45 i0 _ 11 192 Tryz.underlying26 HI0.out hz0 hz1 hz2 rfl _ 0 [] rfl (World.ownsRow_nil _ _ _ _) _ t HC rfl (SH.out _ hS1) (by simp only [maxLen]; omega) (by omega) hz ?_; intro v3 u2 o3 g3)
        go_wp2_with fail
        change _ ∧ _
        have hS2:Below wb.heap.size wb u2:=Own.below_grown hS1 (World.ownsRow_nil u1 wb.heap.size 45 9) g3 hz
        rw [Nat.zero_add,List.nil_append] at o3
        have O3:=Lib.hid o3
        have I5':=Rl.is_on I5.out (Own.below_grown (Below.refl u1.heap.size u1) (World.ownsRow_nil u1 u1.heap.size 45 9) g3 (Nat.le_refl _))
        clear I5
        have I5:=Lib.hid I5'
        refine ⟨hS2,?_⟩
        clear o3 g3 hz
        refine wpAnyH_all (rs:=[6]) (by kernel_rfl) (by simp) ?_
        intro i hi
        obtain rfl:=List.mem_singleton.1 hi
        have hz:=hS2.size
        have h70:t + 1 ≤ 70000:=by omega
        refine Reg.wpOp_list rfl ?_
        (refine append_en rfl (.tmp 34) (.tmp 36) rfl wb.heap.size v3 t HC rfl O3.out b5 1 rfl [.string (S x.pk.nm),.string (S x.pk.vs),.slice s1 m1 t1,.slice s2 m2 t2,.slice s3 m3 t3,.slice s4 m4 t4,.slice s5 m5 t5,.slice s6 m6 t6,.bool x.pk.ess,.bool x.cfg,.bool x.hld] rfl (fun j u hj=>I5.out.at (by rw [← Array.getElem?_toList]; exact hj)) (fun u hu=>by simp only [List.mem_cons,List.not_mem_nil,or_false] at hu; rcases hu with rfl | rfl | rfl | rfl | rfl | rfl | rfl | rfl | rfl | rfl | rfl <;> rfl) h70 hz ?_; intro v6 u3 o6 g6)
        go_wp2_with fail
        change _ ∧ _
        have hS3:Below wb.heap.size wb u3:=Own.below_grown hS2 O3.out g6 hz
        have O6:=Lib.hid o6
        refine ⟨hS3,?_⟩
        clear o6 g6 hz O3 I5
        refine wpAnyH_all (rs:=[10]) (by kernel_rfl) (by simp) ?_
        intro i hi
        obtain rfl:=List.mem_singleton.1 hi
        have hz:=hS3.size
        refine Reg.wpOp_list rfl ?_
        (refine Own.wpList_append_src rfl (.tmp 37) (.tmp 40) 26 26 rfl wb.heap.size 45 i0 _ 11 192 Tryz.underlying26 HI0.out hz0 hz1 hz2 rfl v6 (t + 1) (HC ++ [.string (S x.pk.nm),.string (S x.pk.vs),.slice s1 m1 t1,.slice s2 m2 t2,.slice s3 m3 t3,.slice s4 m4 t4,.slice s5 m5 t5,.slice s6 m6 t6,.bool x.pk.ess,.bool x.cfg,.bool x.hld]) rfl O6.out vt (k - t) TC rfl (ST.out _ hS3) (by simp only [maxLen]; omega) (by omega) hz ?_; intro v10 u4 o10 g10)
        go_wp2_with fail
        change _ ∧ _
        have hS4:Below wb.heap.size wb u4:=Own.below_grown hS3 O6.out g10 hz
        rw [show t + 1 + (k - t) = k + 1 by omega] at o10
        obtain ⟨a10,c10,rfl,_⟩:=Rl.own_shape o10
        have O10:=Lib.hid o10
        refine ⟨hS4,?_⟩
        clear o10 g10 hz O6
        refine wpAnyH_all (rs:=[11]) (by kernel_rfl) (by simp) ?_
        intro i hi
        obtain rfl:=List.mem_singleton.1 hi
        refine Reg.wpOp_list rfl ?_
        go_wp2_with fail
        change _ ∧ _
        refine ⟨hS4,?_⟩
        refine wpAnyH_done (by kernel_rfl) ?_ _
        have hbz:=BW.out.trans (hS4.mono BW.out.size)
        have hfin:=Rl.own_mono O10.out BW.out.size
        have hcat:(HC ++ [.string (S x.pk.nm),.string (S x.pk.vs),.slice s1 m1 t1,.slice s2 m2 t2,.slice s3 m3 t3,.slice s4 m4 t4,.slice s5 m5 t5,.slice s6 m6 t6,.bool x.pk.ess,.bool x.cfg,.bool x.hld]) ++ TC = (ds.take t ++ [x] ++ ds.drop t).flatMap Et.enc:=by
         rw [List.flatMap_append,List.flatMap_append,HHC.out,HTC.out,← HENC.out]
         simp
        rw [hcat] at hfin
        have HFIN:=Lib.hid hfin
        have BZ:=Lib.hid hbz
        clear hS0 hS1 hS2 hS3 hS4 hbz hfin hcat
        go_wp2_with fail
        go_roundg g'
        case measure=>omega
        case rel=>exact ⟨k + 1,a10,c10,ds.take t ++ [x] ++ ds.drop t,rfl,by go_num,HFIN,INS,BZ,by omega,by omega⟩
    ·obtain rfl:t = k:=by omega
     have hge:¬ (t:Int) < (t:Int):=by omega
     have HNA:Hid (slotE x.en (ds.map Et.en) = t):=slot_end HX.out.1 HE.out
     go_upto_region 6 with fail
     refine wp_region_held (S:=fun u=>Below wr.heap.size wr u) (by kernel_rfl) ?_
     have hS0:Below wr.heap.size wr wr.drew:=(Below.refl _ _).drew
     change wpAnyH _ _ _ _ _ 16 _ _ wr.drew
     generalize wr.drew = u0 at *
     refine wpAnyH_take (i:=0) (v:=.int .i64 t) rfl (by kernel_rfl) (by kernel_rfl) (by kernel_rfl) (fun _ _ _ h=>h) (.inl ⟨rfl,fun w _=>rfl⟩) hS0 ?_
     simp only [Act.put,List.getElem_toArray,List.getElem_cons_zero,List.getElem_cons_succ,List.setIfInBounds_toArray,List.set_cons_zero,List.set_cons_succ]
     refine wpAnyH_take (i:=1) (v:=.slice ra t rc) rfl (by kernel_rfl) (by kernel_rfl) (by kernel_rfl) (fun _ _ _ h=>h) (.inl ⟨rfl,fun w _=>rfl⟩) hS0 ?_
     simp only [Act.put,List.getElem_toArray,List.getElem_cons_zero,List.getElem_cons_succ,List.setIfInBounds_toArray,List.set_cons_zero,List.set_cons_succ]
     refine wpAnyH_all (rs:=[2]) (by kernel_rfl) (by simp) ?_
     intro i hi
     obtain rfl:=List.mem_singleton.1 hi
     refine Reg.wpOp_list rfl ?_
     go_wp2_with fail
     change _ ∧ _
     refine ⟨hS0,?_⟩
     refine wpAnyH_all (rs:=[3]) (by kernel_rfl) (by simp) ?_
     intro i hi
     obtain rfl:=List.mem_singleton.1 hi
     refine Reg.wpOp_list rfl ?_
     go_wp2_with fail
     change _ ∧ _
     refine ⟨hS0,?_⟩
     refine wpAnyH_all (rs:=[4]) (by kernel_rfl) (by simp) ?_
     intro i hi
     obtain rfl:=List.mem_singleton.1 hi
     refine Reg.wpOp_list rfl ?_
     go_wp2_with fail
     change _ ∧ _
     refine ⟨hS0,?_⟩
     refine wpAnyH_take (i:=5) (v:=undef) rfl (by kernel_rfl) (by kernel_rfl) (by kernel_rfl) (fun _ _ _ h=>h) (.inr ⟨by kernel_rfl,rfl⟩) hS0 ?_
     simp only [Act.put,List.getElem_toArray,List.getElem_cons_zero,List.getElem_cons_succ,List.setIfInBounds_toArray,List.set_cons_zero,List.set_cons_succ]
     refine wpAnyH_take (i:=6) (v:=undef) rfl (by kernel_rfl) (by kernel_rfl) (by kernel_rfl) (fun _ _ _ h=>h) (.inr ⟨by kernel_rfl,rfl⟩) hS0 ?_
     simp only [Act.put,List.getElem_toArray,List.getElem_cons_zero,List.getElem_cons_succ,List.setIfInBounds_toArray,List.set_cons_zero,List.set_cons_succ]
     refine wpAnyH_take (i:=7) (v:=undef) rfl (by kernel_rfl) (by kernel_rfl) (by kernel_rfl) (fun _ _ _ h=>h) (.inr ⟨by kernel_rfl,rfl⟩) hS0 ?_
     simp only [Act.put,List.getElem_toArray,List.getElem_cons_zero,List.getElem_cons_succ,List.setIfInBounds_toArray,List.set_cons_zero,List.set_cons_succ]
     refine wpAnyH_take (i:=8) (v:=undef) rfl (by kernel_rfl) (by kernel_rfl) (by kernel_rfl) (fun _ _ _ h=>h) (.inr ⟨by kernel_rfl,rfl⟩) hS0 ?_
     simp only [Act.put,List.getElem_toArray,List.getElem_cons_zero,List.getElem_cons_succ,List.setIfInBounds_toArray,List.set_cons_zero,List.set_cons_succ]
     refine wpAnyH_take (i:=9) (v:=undef) rfl (by kernel_rfl) (by kernel_rfl) (by kernel_rfl) (fun _ _ _ h=>h) (.inr ⟨by kernel_rfl,rfl⟩) hS0 ?_
     simp only [Act.put,List.getElem_toArray,List.getElem_cons_zero,List.getElem_cons_succ,List.setIfInBounds_toArray,List.set_cons_zero,List.set_cons_succ]
     refine wpAnyH_take (i:=10) (v:=undef) rfl (by kernel_rfl) (by kernel_rfl) (by kernel_rfl) (fun _ _ _ h=>h) (.inr ⟨by kernel_rfl,rfl⟩) hS0 ?_
     simp only [Act.put,List.getElem_toArray,List.getElem_cons_zero,List.getElem_cons_succ,List.setIfInBounds_toArray,List.set_cons_zero,List.set_cons_succ]
     refine wpAnyH_take (i:=11) (v:=undef) rfl (by kernel_rfl) (by kernel_rfl) (by kernel_rfl) (fun _ _ _ h=>h) (.inr ⟨by kernel_rfl,rfl⟩) hS0 ?_
     simp only [Act.put,List.getElem_toArray,List.getElem_cons_zero,List.getElem_cons_succ,List.setIfInBounds_toArray,List.set_cons_zero,List.set_cons_succ]
     refine wpAnyH_take (i:=12) (v:=undef) rfl (by kernel_rfl) (by kernel_rfl) (by kernel_rfl) (fun _ _ _ h=>h) (.inr ⟨by kernel_rfl,rfl⟩) hS0 ?_
     simp only [Act.put,List.getElem_toArray,List.getElem_cons_zero,List.getElem_cons_succ,List.setIfInBounds_toArray,List.set_cons_zero,List.set_cons_succ]
     refine wpAnyH_take (i:=13) (v:=undef) rfl (by kernel_rfl) (by kernel_rfl) (by kernel_rfl) (fun _ _ _ h=>h) (.inr ⟨by kernel_rfl,rfl⟩) hS0 ?_
     simp only [Act.put,List.getElem_toArray,List.getElem_cons_zero,List.getElem_cons_succ,List.setIfInBounds_toArray,List.set_cons_zero,List.set_cons_succ]
     refine wpAnyH_take (i:=14) (v:=undef) rfl (by kernel_rfl) (by kernel_rfl) (by kernel_rfl) (fun _ _ _ h=>h) (.inr ⟨by kernel_rfl,rfl⟩) hS0 ?_
     simp only [Act.put,List.getElem_toArray,List.getElem_cons_zero,List.getElem_cons_succ,List.setIfInBounds_toArray,List.set_cons_zero,List.set_cons_succ]
     refine wpAnyH_all (rs:=[15]) (by kernel_rfl) (by simp) ?_
     intro i hi
     obtain rfl:=List.mem_singleton.1 hi
     refine Reg.wpOp_list rfl ?_
     go_wp2_with fail
     change _ ∧ _
     refine ⟨hS0,?_⟩
     refine wpAnyH_done (by kernel_rfl) ?_ _
     have B6:=Lib.hid hS0
     skip
     generalize u0 = wb at *
     go_upto_region 8 with fail
     have hbW:=HB3.out.trans (B6.out.mono HB3.out.size)
     have hob:=Own.owns_below HO3.out B6.out
     have hib:=Rl.is_on HI3.out B6.out
     have hle:t ≤ t:=by omega
     have h60:t ≤ 60000:=by omega
     obtain ⟨_,_,eo,hrc⟩:=Rl.own_shape hob
     simp only [Value.slice.injEq,true_and] at eo
     obtain ⟨hx9,rfl⟩:=eo
     clear hx9
     obtain ⟨vt,hrun,hslt⟩:=tail_slc hob HX.out.1 hle h60
     obtain ⟨HC,hHC⟩:∃ HC,(ds.take t).flatMap Et.enc = HC:=⟨_,rfl⟩
     obtain ⟨TC,hTC⟩:∃ TC,(ds.drop t).flatMap Et.enc = TC:=⟨_,rfl⟩
     have SH:Hid (∀ u,Below wb.heap.size wb u → Src Tryz.prog 11 26 (.slice ra t rc) t HC u):=Lib.hid fun u hu=>by
      have h:=els_src (head_slc (Own.owns_below hob hu) HX.out.1 hle h60)
      rw [hHC,List.length_take,HX.out.1,Nat.min_eq_left hle] at h
      exact h
     have ST:Hid (∀ u,Below wb.heap.size wb u → Src Tryz.prog 11 26 vt (t - t) TC u):=Lib.hid fun u hu=>by
      have h:=els_src (hslt u hu)
      rw [hTC,List.length_drop,HX.out.1] at h
      exact h
     have KX:Hid (∀ u,Below wb.heap.size wb u → u.rangeAt bx 0 [.string (S x.pk.nm),.string (S x.pk.vs),.slice s1 m1 t1,.slice s2 m2 t2,.slice s3 m3 t3,.slice s4 m4 t4,.slice s5 m5 t5,.slice s6 m6 t6,.bool x.pk.ess,.bool x.cfg,.bool x.hld]):=Lib.hid fun u hu=>range_of (Rl.is_on hib hu)
     have z9:(Tryz.prog.info? 45).map (·.size) = some 11:=by kernel_rfl
     have Z9:=Lib.hid z9
     have HEADH:=Lib.hid (fun w=>at_slice (w:=w) (slice_head ra t rc t (by omega) w))
     have TAILH:=Lib.hid (fun w=>at_slice (hrun w))
     have BW:=Lib.hid hbW
     have HHC:=Lib.hid hHC
     have HTC:=Lib.hid hTC
     have INS:=Lib.hid (ins_els HXX.out HX.out.1 HX.out.2.1 HX.out.2.2 HXM.out HNA.out)
     obtain ⟨i0,hi0,hz0,hz1,hz2⟩:=info_parts Rc.infoEn
     have HI0:=Lib.hid hi0
     clear hbW hob hib hrun hslt hHC hTC z9 hi0
     refine wp_region_held (S:=fun u=>Below wb.heap.size wb u) (by kernel_rfl) ?_
     have hS0:Below wb.heap.size wb wb.drew:=(Below.refl _ _).drew
     change wpAnyH _ _ _ _ _ 12 _ _ wb.drew
     generalize wb.drew = u0 at *
     refine wpAnyH_take (i:=0) (v:=.slice ra t rc) rfl (by kernel_rfl) (by kernel_rfl) (by kernel_rfl) (fun _ _ _ h=>h) (.inl ⟨rfl,fun w _=>rfl⟩) hS0 ?_
     simp only [Act.put,List.getElem_toArray,List.getElem_cons_zero,List.getElem_cons_succ,List.setIfInBounds_toArray,List.set_cons_zero,List.set_cons_succ]
     refine wpAnyH_take (i:=1) (v:=.int .i64 t) rfl (by kernel_rfl) (by kernel_rfl) (by kernel_rfl) (fun _ _ _ h=>h) (.inl ⟨rfl,fun w _=>rfl⟩) hS0 ?_
     simp only [Act.put,List.getElem_toArray,List.getElem_cons_zero,List.getElem_cons_succ,List.setIfInBounds_toArray,List.set_cons_zero,List.set_cons_succ]
     refine wpAnyH_take (i:=7) (v:=.slice ra t rc) rfl (by kernel_rfl) (by kernel_rfl) (by kernel_rfl) (fun _ _ _ h=>h) (.inl ⟨rfl,fun w _=>rfl⟩) hS0 ?_
     simp only [Act.put,List.getElem_toArray,List.getElem_cons_zero,List.getElem_cons_succ,List.setIfInBounds_toArray,List.set_cons_zero,List.set_cons_succ]
     refine wpAnyH_take (i:=8) (v:=.int .i64 t) rfl (by kernel_rfl) (by kernel_rfl) (by kernel_rfl) (fun _ _ _ h=>h) (.inl ⟨rfl,fun w _=>rfl⟩) hS0 ?_
     simp only [Act.put,List.getElem_toArray,List.getElem_cons_zero,List.getElem_cons_succ,List.setIfInBounds_toArray,List.set_cons_zero,List.set_cons_succ]
     refine wpAnyH_take (i:=2) (v:=.slice ra t rc) rfl (by kernel_rfl) (by kernel_rfl) (by kernel_rfl) (fun _ _ _ h=>h) (.inl ⟨rfl,fun w _=>by simp [execOp]; erw [HEADH.out w]; rfl⟩) hS0 ?_
     simp only [Act.put,List.getElem_toArray,List.getElem_cons_zero,List.getElem_cons_succ,List.setIfInBounds_toArray,List.set_cons_zero,List.set_cons_succ]
     refine wpAnyH_take (i:=9) (v:=vt) rfl (by kernel_rfl) (by kernel_rfl) (by kernel_rfl) (fun _ _ _ h=>h) (.inl ⟨rfl,fun w _=>by simp [execOp]; erw [TAILH.out w]; rfl⟩) hS0 ?_
     simp only [Act.put,List.getElem_toArray,List.getElem_cons_zero,List.getElem_cons_succ,List.setIfInBounds_toArray,List.set_cons_zero,List.set_cons_succ]
     refine wpAnyH_take (i:=4) (v:=.agg [.string (S x.pk.nm),.string (S x.pk.vs),.slice s1 m1 t1,.slice s2 m2 t2,.slice s3 m3 t3,.slice s4 m4 t4,.slice s5 m5 t5,.slice s6 m6 t6,.bool x.pk.ess,.bool x.cfg,.bool x.hld].toArray) rfl (by kernel_rfl) (by kernel_rfl) (by kernel_rfl) (fun _ _ _ h=>h) (yieldsIf_load_mid rfl 45 (.tmp 5) rfl bx 0 rfl _ _ KX.out Tryz.underlying45 rfl Z9.out) hS0 ?_
     simp only [Act.put,List.getElem_toArray,List.getElem_cons_zero,List.getElem_cons_succ,List.setIfInBounds_toArray,List.set_cons_zero,List.set_cons_succ]
     refine wpAnyH_all (rs:=[3,5]) (by kernel_rfl) (by simp) ?_
     intro i hi
     simp only [List.mem_cons,List.not_mem_nil,or_false] at hi
     rcases hi with rfl | rfl
     ·have hz:=hS0.size
      refine Reg.wpOp_list rfl ?_
      (refine Own.wpList_append_src rfl (.const (.slice none 0 0)) (.tmp 33) 26 26 rfl wb.heap.size 45 i0 _ 11 192 Tryz.underlying26 HI0.out hz0 hz1 hz2 rfl _ 0 [] rfl (World.ownsRow_nil _ _ _ _) _ t HC rfl (SH.out _ hS0) (by simp only [maxLen]; omega) (by omega) hz ?_; intro v3 u1 o3 g3)
      go_wp2_with fail
      change _ ∧ _
      have hS1:Below wb.heap.size wb u1:=Own.below_grown hS0 (World.ownsRow_nil u0 wb.heap.size 45 9) g3 hz
      rw [Nat.zero_add,List.nil_append] at o3
      have O3:=Lib.hid o3



      refine ⟨hS1,?_⟩
      clear o3 g3 hz
      have hba:=(Below.refl u1.heap.size u1).alloc (Nat.le_refl _) (.cells #[.string (S x.pk.nm),.string (S x.pk.vs),.slice s1 m1 t1,.slice s2 m2 t2,.slice s3 m3 t3,.slice s4 m4 t4,.slice s5 m5 t5,.slice s6 m6 t6,.bool x.pk.ess,.bool x.cfg,.bool x.hld] 45)
      have ia5:=Blk.Is.new u1 45 #[.string (S x.pk.nm),.string (S x.pk.vs),.slice s1 m1 t1,.slice s2 m2 t2,.slice s3 m3 t3,.slice s4 m4 t4,.slice s5 m5 t5,.slice s6 m6 t6,.bool x.pk.ess,.bool x.cfg,.bool x.hld]
      obtain ⟨u2,hu2⟩:∃ u2,u1.alloc (.cells #[.string (S x.pk.nm),.string (S x.pk.vs),.slice s1 m1 t1,.slice s2 m2 t2,.slice s3 m3 t3,.slice s4 m4 t4,.slice s5 m5 t5,.slice s6 m6 t6,.bool x.pk.ess,.bool x.cfg,.bool x.hld] 45) = u2:=⟨_,rfl⟩
      rw [hu2] at hba ia5
      have hS2:Below wb.heap.size wb u2:=hS1.trans (hba.mono hS1.size)
      have I5:=Lib.hid ia5
      obtain ⟨b5,hb5⟩:∃ b5,u1.heap.size = b5:=⟨_,rfl⟩
      rw [hb5] at I5
      have O3':=Lib.hid (Own.owns_below O3.out hba)
      clear O3
      have O3:=O3'
      clear O3'
      refine wpAnyH_all (rs:=[5]) (by kernel_rfl) (by simp) ?_
      intro i hi
      obtain rfl:=List.mem_singleton.1 hi
      refine Reg.wpOp_list rfl ?_
      go_wp2_with fail
      change _ ∧ _
      refine ⟨hS2,?_⟩
      clear hu2 hba ia5 hb5
      refine wpAnyH_all (rs:=[6]) (by kernel_rfl) (by simp) ?_
      intro i hi
      obtain rfl:=List.mem_singleton.1 hi
      have hz:=hS2.size
      have h70:t + 1 ≤ 70000:=by omega
      refine Reg.wpOp_list rfl ?_
      (refine append_en rfl (.tmp 34) (.tmp 36) rfl wb.heap.size v3 t HC rfl O3.out b5 1 rfl [.string (S x.pk.nm),.string (S x.pk.vs),.slice s1 m1 t1,.slice s2 m2 t2,.slice s3 m3 t3,.slice s4 m4 t4,.slice s5 m5 t5,.slice s6 m6 t6,.bool x.pk.ess,.bool x.cfg,.bool x.hld] rfl (fun j u hj=>I5.out.at (by rw [← Array.getElem?_toList]; exact hj)) (fun u hu=>by simp only [List.mem_cons,List.not_mem_nil,or_false] at hu; rcases hu with rfl | rfl | rfl | rfl | rfl | rfl | rfl | rfl | rfl | rfl | rfl <;> rfl) h70 hz ?_; intro v6 u3 o6 g6)
      go_wp2_with fail
      change _ ∧ _
      have hS3:Below wb.heap.size wb u3:=Own.below_grown hS2 O3.out g6 hz
      have O6:=Lib.hid o6
      refine ⟨hS3,?_⟩
      clear o6 g6 hz O3 I5
      refine wpAnyH_all (rs:=[10]) (by kernel_rfl) (by simp) ?_
      intro i hi
      obtain rfl:=List.mem_singleton.1 hi
      have hz:=hS3.size
      refine Reg.wpOp_list rfl ?_
      (refine Own.wpList_append_src rfl (.tmp 37) (.tmp 40) 26 26 rfl wb.heap.size 45 i0 _ 11 192 Tryz.underlying26 HI0.out hz0 hz1 hz2 rfl v6 (t + 1) (HC ++ [.string (S x.pk.nm),.string (S x.pk.vs),.slice s1 m1 t1,.slice s2 m2 t2,.slice s3 m3 t3,.slice s4 m4 t4,.slice s5 m5 t5,.slice s6 m6 t6,.bool x.pk.ess,.bool x.cfg,.bool x.hld]) rfl O6.out vt (t - t) TC rfl (ST.out _ hS3) (by simp only [maxLen]; omega) (by omega) hz ?_; intro v10 u4 o10 g10)
      go_wp2_with fail
      change _ ∧ _
      have hS4:Below wb.heap.size wb u4:=Own.below_grown hS3 O6.out g10 hz
      rw [show t + 1 + (t - t) = t + 1 by omega] at o10
      obtain ⟨a10,c10,rfl,_⟩:=Rl.own_shape o10
      have O10:=Lib.hid o10
      refine ⟨hS4,?_⟩
      clear o10 g10 hz O6
      refine wpAnyH_all (rs:=[11]) (by kernel_rfl) (by simp) ?_
      intro i hi
      obtain rfl:=List.mem_singleton.1 hi
      refine Reg.wpOp_list rfl ?_
      go_wp2_with fail
      change _ ∧ _
      refine ⟨hS4,?_⟩
      refine wpAnyH_done (by kernel_rfl) ?_ _
      have hbz:=BW.out.trans (hS4.mono BW.out.size)
      have hfin:=Rl.own_mono O10.out BW.out.size
      have hcat:(HC ++ [.string (S x.pk.nm),.string (S x.pk.vs),.slice s1 m1 t1,.slice s2 m2 t2,.slice s3 m3 t3,.slice s4 m4 t4,.slice s5 m5 t5,.slice s6 m6 t6,.bool x.pk.ess,.bool x.cfg,.bool x.hld]) ++ TC = (ds.take t ++ [x] ++ ds.drop t).flatMap Et.enc:=by
       rw [List.flatMap_append,List.flatMap_append,HHC.out,HTC.out,← HENC.out]
       simp
      rw [hcat] at hfin
      have HFIN:=Lib.hid hfin
      have BZ:=Lib.hid hbz
      clear hS0 hS1 hS2 hS3 hS4 hbz hfin hcat
      go_wp2_with fail
      go_roundg g'
      case measure=>omega
      case rel=>exact ⟨t + 1,a10,c10,ds.take t ++ [x] ++ ds.drop t,rfl,by go_num,HFIN,INS,BZ,by omega,by omega⟩
     ·have hba:=(Below.refl u0.heap.size u0).alloc (Nat.le_refl _) (.cells #[.string (S x.pk.nm),.string (S x.pk.vs),.slice s1 m1 t1,.slice s2 m2 t2,.slice s3 m3 t3,.slice s4 m4 t4,.slice s5 m5 t5,.slice s6 m6 t6,.bool x.pk.ess,.bool x.cfg,.bool x.hld] 45)
      have ia5:=Blk.Is.new u0 45 #[.string (S x.pk.nm),.string (S x.pk.vs),.slice s1 m1 t1,.slice s2 m2 t2,.slice s3 m3 t3,.slice s4 m4 t4,.slice s5 m5 t5,.slice s6 m6 t6,.bool x.pk.ess,.bool x.cfg,.bool x.hld]
      obtain ⟨u1,hu1⟩:∃ u1,u0.alloc (.cells #[.string (S x.pk.nm),.string (S x.pk.vs),.slice s1 m1 t1,.slice s2 m2 t2,.slice s3 m3 t3,.slice s4 m4 t4,.slice s5 m5 t5,.slice s6 m6 t6,.bool x.pk.ess,.bool x.cfg,.bool x.hld] 45) = u1:=⟨_,rfl⟩
      rw [hu1] at hba ia5
      have hS1:Below wb.heap.size wb u1:=hS0.trans (hba.mono hS0.size)
      have I5:=Lib.hid ia5
      obtain ⟨b5,hb5⟩:∃ b5,u0.heap.size = b5:=⟨_,rfl⟩
      rw [hb5] at I5
      refine Reg.wpOp_list rfl ?_
      go_wp2_with fail
      change _ ∧ _
      refine ⟨hS1,?_⟩
      clear hu1 hba ia5 hb5
      refine wpAnyH_all (rs:=[3]) (by kernel_rfl) (by simp) ?_
      intro i hi
      obtain rfl:=List.mem_singleton.1 hi
      have hz:=hS1.size
      refine Reg.wpOp_list rfl ?_
      (refine Own.wpList_append_src rfl (.const (.slice none 0 0)) (.tmp 33) 26 26 rfl wb.heap.size 45 i0 _ 11 192 Tryz.underlying26 HI0.out hz0 hz1 hz2 rfl _ 0 [] rfl (World.ownsRow_nil _ _ _ _) _ t HC rfl (SH.out _ hS1) (by simp only [maxLen]; omega) (by omega) hz ?_; intro v3 u2 o3 g3)
      go_wp2_with fail
      change _ ∧ _
      have hS2:Below wb.heap.size wb u2:=Own.below_grown hS1 (World.ownsRow_nil u1 wb.heap.size 45 9) g3 hz
      rw [Nat.zero_add,List.nil_append] at o3
      have O3:=Lib.hid o3
      have I5':=Rl.is_on I5.out (Own.below_grown (Below.refl u1.heap.size u1) (World.ownsRow_nil u1 u1.heap.size 45 9) g3 (Nat.le_refl _))
      clear I5
      have I5:=Lib.hid I5'
      refine ⟨hS2,?_⟩
      clear o3 g3 hz
      refine wpAnyH_all (rs:=[6]) (by kernel_rfl) (by simp) ?_
      intro i hi
      obtain rfl:=List.mem_singleton.1 hi
      have hz:=hS2.size
      have h70:t + 1 ≤ 70000:=by omega
      refine Reg.wpOp_list rfl ?_
      (refine append_en rfl (.tmp 34) (.tmp 36) rfl wb.heap.size v3 t HC rfl O3.out b5 1 rfl [.string (S x.pk.nm),.string (S x.pk.vs),.slice s1 m1 t1,.slice s2 m2 t2,.slice s3 m3 t3,.slice s4 m4 t4,.slice s5 m5 t5,.slice s6 m6 t6,.bool x.pk.ess,.bool x.cfg,.bool x.hld] rfl (fun j u hj=>I5.out.at (by rw [← Array.getElem?_toList]; exact hj)) (fun u hu=>by simp only [List.mem_cons,List.not_mem_nil,or_false] at hu; rcases hu with rfl | rfl | rfl | rfl | rfl | rfl | rfl | rfl | rfl | rfl | rfl <;> rfl) h70 hz ?_; intro v6 u3 o6 g6)
      go_wp2_with fail
      change _ ∧ _
      have hS3:Below wb.heap.size wb u3:=Own.below_grown hS2 O3.out g6 hz
      have O6:=Lib.hid o6
      refine ⟨hS3,?_⟩
      clear o6 g6 hz O3 I5
      refine wpAnyH_all (rs:=[10]) (by kernel_rfl) (by simp) ?_
      intro i hi
      obtain rfl:=List.mem_singleton.1 hi
      have hz:=hS3.size
      refine Reg.wpOp_list rfl ?_
      (refine Own.wpList_append_src rfl (.tmp 37) (.tmp 40) 26 26 rfl wb.heap.size 45 i0 _ 11 192 Tryz.underlying26 HI0.out hz0 hz1 hz2 rfl v6 (t + 1) (HC ++ [.string (S x.pk.nm),.string (S x.pk.vs),.slice s1 m1 t1,.slice s2 m2 t2,.slice s3 m3 t3,.slice s4 m4 t4,.slice s5 m5 t5,.slice s6 m6 t6,.bool x.pk.ess,.bool x.cfg,.bool x.hld]) rfl O6.out vt (t - t) TC rfl (ST.out _ hS3) (by simp only [maxLen]; omega) (by omega) hz ?_; intro v10 u4 o10 g10)
      go_wp2_with fail
      change _ ∧ _
      have hS4:Below wb.heap.size wb u4:=Own.below_grown hS3 O6.out g10 hz
      rw [show t + 1 + (t - t) = t + 1 by omega] at o10
      obtain ⟨a10,c10,rfl,_⟩:=Rl.own_shape o10
      have O10:=Lib.hid o10
      refine ⟨hS4,?_⟩
      clear o10 g10 hz O6
      refine wpAnyH_all (rs:=[11]) (by kernel_rfl) (by simp) ?_
      intro i hi
      obtain rfl:=List.mem_singleton.1 hi
      refine Reg.wpOp_list rfl ?_
      go_wp2_with fail
      change _ ∧ _
      refine ⟨hS4,?_⟩
      refine wpAnyH_done (by kernel_rfl) ?_ _
      have hbz:=BW.out.trans (hS4.mono BW.out.size)
      have hfin:=Rl.own_mono O10.out BW.out.size
      have hcat:(HC ++ [.string (S x.pk.nm),.string (S x.pk.vs),.slice s1 m1 t1,.slice s2 m2 t2,.slice s3 m3 t3,.slice s4 m4 t4,.slice s5 m5 t5,.slice s6 m6 t6,.bool x.pk.ess,.bool x.cfg,.bool x.hld]) ++ TC = (ds.take t ++ [x] ++ ds.drop t).flatMap Et.enc:=by
       rw [List.flatMap_append,List.flatMap_append,HHC.out,HTC.out,← HENC.out]
       simp
      rw [hcat] at hfin
      have HFIN:=Lib.hid hfin
      have BZ:=Lib.hid hbz
      clear hS0 hS1 hS2 hS3 hS4 hbz hfin hcat
      go_wp2_with fail
      go_roundg g'
      case measure=>omega
      case rel=>exact ⟨t + 1,a10,c10,ds.take t ++ [x] ++ ds.drop t,rfl,by go_num,HFIN,INS,BZ,by omega,by omega⟩
  ·obtain rfl:k = N:=by omega
   have hge:¬ (k:Int) < (k:Int):=by omega
   have hslc:=head_slc HO.out HX.out.1 (Nat.le_refl k) hl
   rw [List.take_of_length_le (Nat.le_of_eq HX.out.1)] at hslc
   have hpk:=els_ens hslc fun x hx=>(HH.out x (HX.out.2.2 x hx)).below HB.out
   have hmap:ds.map Et.en = insAllE l []:=by rw [HX.out.2.1,List.take_of_length_le (Nat.le_of_eq HDL.out),HD.out]
   rw [hmap] at hpk
   have HPK:=Lib.hid hpk
   clear hslc hpk hmap HO
   go_wp2_with fail
   go_ret
   exact ⟨_,rfl,HPK.out,HB.out⟩
end Sa
end Go.Proofs.YtgpcilepkmckeaaGreatDoor

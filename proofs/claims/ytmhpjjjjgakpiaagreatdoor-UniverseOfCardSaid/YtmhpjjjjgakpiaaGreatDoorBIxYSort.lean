/-
The reference's Sorted.
-/
import Derived.Test.YtmhpjjjjgakpiaaGreatDoorBStaMath
import Derived.Test.YtmhpjjjjgakpiaaGreatDoorBIxBack
import Derived.Test.YtmhpjjjjgakpiaaGreatDoorBVerRefCompare
import Derived.Test.YtmhpjjjjgakpiaaGreatDoorBReg
import Derived.Test.YtmhpjjjjgakpiaaGreatDoorBTextTexts
import Derived.OrdersHeld
import Derived.Deep.MidRow
namespace Go.Proofs.YtmhpjjjjgakpiaaGreatDoor
open Go.RowKit
set_option linter.unusedSimpArgs false
set_option linter.unusedVariables false
namespace Ix
open Ver (S S_li S_size cmpV orr)
open Rl (Slc)
open Rc (Pk nPk Pks Has)
theorem ahead_less {p x:Pk} (h:Lib.compareBytes x.nm p.nm < 0):ahead p x = true:=by
 unfold ahead cmpP
 rw [decide_eq_true_eq]
 unfold orr
 rw [if_pos (by omega)]
 omega
theorem ahead_same {p x:Pk} (hn:x.nm = p.nm) (h:0 ≤ cmpV x.vs p.vs):ahead p x = true:=by
 unfold ahead cmpP
 rw [decide_eq_true_eq,hn,cb_self]
 have:=Ver.cmpV_turn x.vs p.vs
 unfold orr
 rw [if_neg (by simp)]
 omega
theorem not_ahead_same {p x:Pk} (hn:x.nm = p.nm) (h:¬ 0 ≤ cmpV x.vs p.vs):ahead p x = false:=by
 unfold ahead cmpP
 rw [decide_eq_false_iff_not,hn,cb_self]
 have:=Ver.cmpV_turn x.vs p.vs
 unfold orr
 rw [if_neg (by simp)]
 omega
theorem not_ahead_other {p x:Pk} (h:¬ Lib.compareBytes x.nm p.nm < 0) (hn:¬ x.nm = p.nm):ahead p x = false:=by
 have h0:Lib.compareBytes x.nm p.nm ≠ 0:=fun e=>hn (cb_zero e)
 unfold ahead cmpP
 rw [decide_eq_false_iff_not]
 unfold orr
 rw [if_pos h0]
 omega
theorem slot_of {p:Pk}:∀ {l:List Pk} {t:Nat},(∀ j y,j < t → l[j]? = some y → ahead p y = true) → t ≤ l.length → (∀ y,l[t]? = some y → ahead p y = false) → slot p l = t
 | [],t,_,h,_=>by
  have h0:t = 0:=by simpa using h
  subst h0
  rfl
 | x :: r,0,_,_,h=>by
  have hx:=h x rfl
  unfold slot
  rw [List.takeWhile_cons,hx]
  rfl
 | x :: r,t + 1,h1,h2,h3=>by
  have hx:=h1 0 x (by omega) rfl
  have ih:=slot_of (p:=p) (l:=r) (t:=t) (fun j y hj hy=>h1 (j + 1) y (by omega) (by simpa using hy)) (by simpa using h2) (fun y hy=>h3 y (by simpa using hy))
  unfold slot at ih ⊢
  rw [List.takeWhile_cons,hx]
  simp [ih]
theorem slot_at {p:Pk} {ds:List El} {t:Nat} {y:El} (hy:ds[t]? = some y) (hn:ahead p y.pk = false) (h:∀ j y,j < t → ds[j]? = some y → ahead p y.pk = true):slot p (ds.map El.pk) = t:=by
 have hl:=(List.getElem?_eq_some_iff.1 hy).1
 refine slot_of (fun j q hj hq=>?_) (by rw [List.length_map]; omega) fun q hq=>?_
 ·rw [List.getElem?_map] at hq
  obtain ⟨z,hz,rfl⟩:=Option.map_eq_some_iff.1 hq
  exact h j z hj hz
 ·rw [List.getElem?_map,hy] at hq
  obtain rfl:=Option.some.inj hq
  exact hn
theorem slot_end {p:Pk} {ds:List El} {t:Nat} (hl:ds.length = t) (h:∀ j y,j < t → ds[j]? = some y → ahead p y.pk = true):slot p (ds.map El.pk) = t:=by
 refine slot_of (fun j q hj hq=>?_) (by rw [List.length_map]; omega) fun q hq=>?_
 ·rw [List.getElem?_map] at hq
  obtain ⟨z,hz,rfl⟩:=Option.map_eq_some_iff.1 hq
  exact h j z hj hz
 ·rw [List.getElem?_eq_none (by rw [List.length_map]; omega)] at hq
  cases hq
theorem ins_els {d ds:List El} {k t:Nat} {x:El} (hx:d[k]? = some x) (h1:ds.length = k) (h2:ds.map El.pk = insAll ((d.take k).map El.pk) []) (h3:∀ z ∈ ds,z ∈ d) (hxm:x ∈ d) (hs:slot x.pk (ds.map El.pk) = t) :
  (ds.take t ++ [x] ++ ds.drop t).length = k + 1 ∧ (ds.take t ++ [x] ++ ds.drop t).map El.pk = insAll ((d.take (k + 1)).map El.pk) [] ∧ ∀ z ∈ ds.take t ++ [x] ++ ds.drop t,z ∈ d:=by
 refine ⟨?_,?_,fun z hz=>?_⟩
 ·simp only [List.length_append,List.length_take,List.length_drop,List.length_singleton]
  omega
 ·obtain ⟨hk,hk2⟩:=List.getElem?_eq_some_iff.1 hx
  have e:(d.take (k + 1)).map El.pk = (d.take k).map El.pk ++ [x.pk]:=by
   rw [List.take_succ_eq_append_getElem hk,hk2,List.map_append]
   rfl
  rw [e,insAll_snoc,← h2]
  unfold ins
  rw [hs]
  simp [List.map_take,List.map_drop]
 ·rcases List.mem_append.1 hz with hz | hz
  ·rcases List.mem_append.1 hz with hz | hz
   ·exact h3 z (List.mem_of_mem_take hz)
   ·rw [List.mem_singleton.1 hz]; exact hxm
  ·exact h3 z (List.mem_of_mem_drop hz)
theorem pk_size (w:World):(sizeOf 40).run Tryz.prog w = .ok 9 w:=by
 obtain ⟨i0,hi,hz0,hz1,hz2⟩:=info_parts Rc.infoPk
 simp [sizeOf,typeInfo,hi,hz1]
theorem at_slice {x v:Value} {lo hi:Option Value} {w:World} (h:(Instr.slice 22 x lo hi none).run Tryz.prog w = .ok v w):(Instr.sliceAt 22 x lo hi none).run Tryz.prog w = .ok v w:=by
 have e:Tryz.prog.elem 22 = 40:=by kernel_rfl
 rw [run_sliceAt_slice w 22 x lo hi none (by rw [e]; exact Tryz.underlying22)]
 exact h
theorem slice_head (ra:Option Addr) (n rc t:Nat) (h:t ≤ rc) (w:World):(Instr.slice 22 (.slice ra n rc) none (some (.int .i64 (t:Int))) none).run Tryz.prog w = .ok (.slice ra t rc) w:=by
 have hsz:=pk_size w
 have h0:∀ x:Addr,x.add 0 = x:=fun x=>by
  obtain ⟨b,o,p⟩:=x
  cases p <;> simp [Addr.add]
 cases ra <;> simp [h0,Instr.slice,Instr.sliceBounds,Instr.sliceBound,asIntOf,run_underlying Tryz.underlying22,hsz,h]
theorem slice_tail (R:Nat) (n rc t:Nat) (h:t ≤ n) (hn:n ≤ rc):∃ o,(∀ w,(Instr.slice 22 (.slice (some ⟨R,0,none⟩) n rc) (some (.int .i64 (t:Int))) none none).run Tryz.prog w = .ok (.slice (some ⟨R,o,none⟩) (n - t) (rc - t)) w) ∧ (t < rc → o = 9 * t):=by
 have h0:(0:Int) ≤ t:=by omega
 by_cases e:rc = t
 ·refine ⟨0,fun w=>?_,fun h=>by omega⟩
  have hsz:=pk_size w
  simp [Instr.slice,Instr.sliceBounds,Instr.sliceBound,asIntOf,run_underlying Tryz.underlying22,hsz,h0,h,e]
 ·refine ⟨9 * t,fun w=>?_,fun _=>rfl⟩
  have hsz:=pk_size w
  simp [Instr.slice,Instr.sliceBounds,Instr.sliceBound,asIntOf,run_underlying Tryz.underlying22,hsz,h0,h,e,Addr.add,Nat.mul_comm]
  omega
theorem slice_none (w:World):(Instr.slice 22 (.slice none 0 0) (some (.int .i64 0)) none none).run Tryz.prog w = .ok (.slice none 0 0) w:=by
 have hsz:=pk_size w
 simp [Instr.slice,Instr.sliceBounds,Instr.sliceBound,asIntOf,run_underlying Tryz.underlying22,hsz]
theorem els_src {w:World} {v:Value} {ds:List El} (h:Slc 9 default ElAt w v ds):Src Tryz.prog 9 22 v ds.length (ds.flatMap El.enc) w :=
 Va.slc_src (by omega) El.enc (fun _=>rfl) (fun w k o x hx j u hj=>hx j u hj) (fun x u hu=>El.one x u hu) Tryz.underlying22 h
theorem row_at {w:World} {B:Nat} {R rc n:Nat} {ds:List El} (h:w.ownsRow B 40 9 (.slice (some ⟨R,0,none⟩) n rc) n (ds.flatMap El.enc)) {i:Nat} {x:El} (hx:ds[i]? = some x) {j:Nat} {u:Value} (hj:x.enc[j]? = some u):w.cell? ⟨R,9 * i + j,none⟩ = some u :=
 Rl.own_cell h (by rw [Rl.flat_at El.enc 9 (fun _=>rfl) ds i j x hx (List.getElem?_eq_some_iff.1 hj).1]; exact hj)
theorem els_pks {w:World} {v:Value} {ds:List El} (h:Slc 9 default ElAt w v ds) (hh:∀ x ∈ ds,Has w x.pk x.u1 x.u2 x.u3 x.u4 x.u5 x.u6):Pks w v (ds.map El.pk):=by
 obtain ⟨h0,a,cap,h1,h2,h3⟩:=h
 refine ⟨by rw [List.length_map]; exact h0,a,cap,by rw [List.length_map]; exact h1,by rw [List.length_map]; exact h2,fun hl=>?_⟩
 rw [List.length_map] at hl
 obtain ⟨k,off,h4,h5⟩:=h3 hl
 refine ⟨k,off,h4,fun i hi=>?_⟩
 rw [List.length_map] at hi
 obtain ⟨x,hx⟩:∃ x,ds[i]? = some x:=⟨ds[i],List.getElem?_eq_getElem hi⟩
 have e:(ds.map El.pk).getD i nPk = x.pk:=get_getD (by rw [List.getElem?_map,hx]; rfl) _
 have h6:=h5 i hi
 rw [get_getD hx] at h6
 rw [e]
 exact ⟨x.enc,⟨_,_,_,_,_,_,rfl,hh x (List.mem_of_getElem? hx)⟩,h6⟩
theorem head_slc {w:World} {B:Nat} {ra:Option Addr} {rc n t:Nat} {ds:List El} (h:w.ownsRow B 40 9 (.slice ra n rc) n (ds.flatMap El.enc)) (hd:ds.length = n) (ht:t ≤ n) (hn:n ≤ 60000):Slc 9 default ElAt w (.slice ra t rc) (ds.take t):=by
 obtain ⟨a,cap,e,hc⟩:=Rl.own_shape h
 simp only [Value.slice.injEq,true_and] at e
 obtain ⟨rfl,rfl⟩:=e
 have hl:(ds.take t).length = t:=by rw [List.length_take]; omega
 refine ⟨by rw [hl]; omega,ra,rc,by rw [hl],by rw [hl]; omega,fun h0=>?_⟩
 rw [hl] at h0
 obtain ⟨R,c2,e,_⟩:=Rl.own_slice h (by omega)
 simp only [Value.slice.injEq,true_and] at e
 obtain ⟨rfl,rfl⟩:=e
 refine ⟨R,0,rfl,fun i hi j u hj=>?_⟩
 rw [hl] at hi
 obtain ⟨x,hx⟩:∃ x,ds[i]? = some x:=⟨ds[i]'(by omega),List.getElem?_eq_getElem _⟩
 have e:(ds.take t).getD i default = x:=get_getD (by rw [List.getElem?_take,if_pos hi]; exact hx) _
 rw [e] at hj
 rw [Nat.zero_add]
 exact row_at h hx hj
theorem tail_slc {w:World} {B:Nat} {ra:Option Addr} {rc n t:Nat} {ds:List El} (h:w.ownsRow B 40 9 (.slice ra n rc) n (ds.flatMap El.enc)) (hd:ds.length = n) (ht:t ≤ n) (hn:n ≤ 60000):∃ vt,(∀ w,(Instr.slice 22 (.slice ra n rc) (some (.int .i64 (t:Int))) none none).run Tryz.prog w = .ok vt w) ∧ ∀ u,Below w.heap.size w u → Slc 9 default ElAt u vt (ds.drop t):=by
 have hl:(ds.drop t).length = n - t:=by rw [List.length_drop]; omega
 rcases h.2 with ⟨e,e0⟩ | ⟨R,cap,cur,e,_,_,hc,_⟩
 ·simp only [Value.slice.injEq] at e
  obtain ⟨rfl,_,rfl⟩:=e
  obtain rfl:t = 0:=by omega
  subst e0
  refine ⟨.slice none 0 0,slice_none,fun u _=>⟨by rw [hl]; omega,none,0,by rw [hl],by rw [hl]; omega,fun h0=>by rw [hl] at h0; omega⟩⟩
 ·simp only [Value.slice.injEq,true_and] at e
  obtain ⟨rfl,rfl⟩:=e
  obtain ⟨o,hrun,ho⟩:=slice_tail R n rc t ht hc
  refine ⟨_,hrun,fun u hu=>⟨by rw [hl]; omega,some ⟨R,o,none⟩,rc - t,by rw [hl],by rw [hl]; omega,fun h0=>⟨R,o,rfl,fun i hi j v hj=>?_⟩⟩⟩
  rw [hl] at hi
  obtain ⟨x,hx⟩:∃ x,ds[t + i]? = some x:=⟨ds[t + i]'(by omega),List.getElem?_eq_getElem _⟩
  have e:(ds.drop t).getD i default = x:=get_getD (by rw [List.getElem?_drop]; exact hx) _
  rw [e] at hj
  rw [ho (by omega)]
  have:=row_at (Own.owns_below h hu) hx hj
  rw [Nat.mul_add] at this
  exact this
set_option maxRecDepth 100000 in
set_option maxHeartbeats 16000000 in
theorem ysorted_any (v:Value) (l:List Pk) (w:World) (h:Pks w v l) (hf:∀ p ∈ l,Fit p) (hl:l.length ≤ 60000) :
  Calls Tryz.prog 27 #[v] w fun e w'=>∃ v',e = .returned v' ∧ Pks w' v' (insAll l []) ∧ Below w.heap.size w w':=by
 obtain ⟨d,hd,hs,hh⟩:=els_of h hf
 have hdl:d.length = l.length:=by rw [← hd,List.length_map]
 obtain ⟨sa,scap,rfl⟩:=h.shape
 have HH:=Lib.hid hh
 have HD:=Lib.hid hd
 obtain ⟨N,hN⟩:∃ N,l.length = N:=⟨_,rfl⟩
 rw [hN] at hs
 have HS:=Lib.hid hs
 have HDL:=Lib.hid (hdl.trans hN)
 rw [hN] at hl ⊢
 clear hN h hs hd hdl hf hh
 go_enter Tryz.func27,Tryz.ntmps27
 go_wp2_with fail
 go_loopg [3,9] N (fun gf s3 s9 wx=>∃ (k:Nat) (ra:Option Addr) (rc:Nat) (ds:List El),s3 = .slice ra k rc ∧ s9 = .int .i64 k ∧ Hid (wx.ownsRow w.heap.size 40 9 (.slice ra k rc) k (ds.flatMap El.enc)) ∧ Hid (ds.length = k ∧ ds.map El.pk = insAll ((d.take k).map El.pk) [] ∧ ∀ x ∈ ds,x ∈ d) ∧ Hid (Below w.heap.size w wx) ∧ k ≤ N ∧ N ≤ k + gf)
 case atStart=>exact ⟨0,none,0,[],rfl,rfl,Lib.hid (World.ownsRow_nil _ _ _ _),Lib.hid ⟨rfl,rfl,fun x hx=>by cases hx⟩,Lib.hid (Below.refl _ _),by omega,by omega⟩
 case round =>
  obtain ⟨k,ra,rc,ds,rfl,rfl,HO,HX,HB,hkn,hfu⟩:=hrel
  by_cases hlt:k < N
  ·obtain ⟨g',rfl⟩:∃ g',gk = g' + 1:=⟨gk - 1,by omega⟩
   have hlt':(k:Int) < (N:Int):=by omega
   have hk0:(0:Int) ≤ k:=by omega
   have hkd:k < d.length:=by rw [HDL.out]; exact hlt
   obtain ⟨x,hx⟩:∃ x,d[k]? = some x:=⟨d[k],List.getElem?_eq_getElem hkd⟩
   have hxm:x ∈ d:=List.mem_of_getElem? hx
   obtain ⟨_,a',cap',e1,_,hat⟩:=HS.out
   rw [HDL.out] at e1
   simp only [Value.slice.injEq,true_and] at e1
   obtain ⟨rfl,rfl⟩:=e1
   obtain ⟨kb,off,rfl,hcl⟩:=hat (by omega)
   have hc2:=hcl k hkd
   rw [get_getD hx] at hc2
   obtain ⟨s1,m1,t1,e1⟩:=x.sl x.u1 (by simp)
   obtain ⟨s2,m2,t2,e2⟩:=x.sl x.u2 (by simp)
   obtain ⟨s3,m3,t3,e3⟩:=x.sl x.u3 (by simp)
   obtain ⟨s4,m4,t4,e4⟩:=x.sl x.u4 (by simp)
   obtain ⟨s5,m5,t5,e5⟩:=x.sl x.u5 (by simp)
   obtain ⟨s6,m6,t6,e6⟩:=x.sl x.u6 (by simp)
   have henc:x.enc = [.string (S x.pk.nm),.string (S x.pk.vs),.slice s1 m1 t1,.slice s2 m2 t2,.slice s3 m3 t3,.slice s4 m4 t4,.slice s5 m5 t5,.slice s6 m6 t6,.bool x.pk.ess]:=by unfold El.enc; rw [e1,e2,e3,e4,e5,e6]
   have HENC:=Lib.hid henc
   rw [Nat.mul_comm 9 k] at hc2
   have x0:=Rl.cell_on (hc2 0 _ (by rw [henc]; rfl)) HB.out
   have x1:=Rl.cell_on (hc2 1 _ (by rw [henc]; rfl)) HB.out
   have x2:=Rl.cell_on (hc2 2 _ (by rw [henc]; rfl)) HB.out
   have x3:=Rl.cell_on (hc2 3 _ (by rw [henc]; rfl)) HB.out
   have x4:=Rl.cell_on (hc2 4 _ (by rw [henc]; rfl)) HB.out
   have x5:=Rl.cell_on (hc2 5 _ (by rw [henc]; rfl)) HB.out
   have x6:=Rl.cell_on (hc2 6 _ (by rw [henc]; rfl)) HB.out
   have x7:=Rl.cell_on (hc2 7 _ (by rw [henc]; rfl)) HB.out
   have x8:=Rl.cell_on (hc2 8 _ (by rw [henc]; rfl)) HB.out
   rw [Nat.add_zero] at x0
   have hba:=(Below.refl wr.heap.size wr).alloc (Nat.le_refl _) (.cells #[.string (S x.pk.nm),.string (S x.pk.vs),.slice s1 m1 t1,.slice s2 m2 t2,.slice s3 m3 t3,.slice s4 m4 t4,.slice s5 m5 t5,.slice s6 m6 t6,.bool x.pk.ess] 40)
   have ia:=Blk.Is.new wr 40 #[.string (S x.pk.nm),.string (S x.pk.vs),.slice s1 m1 t1,.slice s2 m2 t2,.slice s3 m3 t3,.slice s4 m4 t4,.slice s5 m5 t5,.slice s6 m6 t6,.bool x.pk.ess]
   obtain ⟨bx,hbx⟩:∃ bx,wr.heap.size = bx:=⟨_,rfl⟩
   obtain ⟨V,hV⟩:∃ V,wr.alloc (.cells #[.string (S x.pk.nm),.string (S x.pk.vs),.slice s1 m1 t1,.slice s2 m2 t2,.slice s3 m3 t3,.slice s4 m4 t4,.slice s5 m5 t5,.slice s6 m6 t6,.bool x.pk.ess] 40) = V:=⟨_,rfl⟩
   rw [hV] at hba ia
   rw [hbx] at ia
   have HO2:=Lib.hid (Own.owns_below HO.out hba)
   have HB2:=Lib.hid (HB.out.trans (hba.mono HB.out.size))
   have HIA:=Lib.hid ia
   have HXX:=Lib.hid hx
   have HXM:=Lib.hid hxm
   have hu:=hV
   clear hkd hx hxm hat hcl hc2 henc hba ia hV e1 e2 e3 e4 e5 e6 HO HB
   go_wp2_with fail
   clear hu x0 x1 x2 x3 x4 x5 x6 x7 x8
   clear hbx
   go_loopg [6] k (fun gf s6 wx=>∃ t:Nat,s6 = .int .i64 t ∧ Hid (Below V.heap.size V wx) ∧ Hid (∀ j y,j < t → ds[j]? = some y → ahead x.pk y.pk = true) ∧ t ≤ k ∧ k ≤ t + gf)
   case atStart=>exact ⟨0,rfl,Lib.hid (Below.refl _ _),Lib.hid (fun j y hj=>absurd hj (by omega)),by omega,by omega⟩
   case round =>
    obtain ⟨t,rfl,HBI,HE,htk,hfu2⟩:=hrel
    have ht0:(0:Int) ≤ t:=by omega
    have HO3:=Lib.hid (Own.owns_below HO2.out HBI.out)
    have HB3:=Lib.hid (HB2.out.trans (HBI.out.mono HB2.out.size))
    have HI3:=Lib.hid (Rl.is_on HIA.out HBI.out)
    by_cases htl:t < k
    ·have htl':(t:Int) < (k:Int):=by omega
     obtain ⟨y,hy⟩:∃ y,ds[t]? = some y:=⟨ds[t]'(by rw [HX.out.1]; exact htl),List.getElem?_eq_getElem _⟩
     obtain ⟨R,c2,e2,hcr⟩:=Rl.own_slice HO3.out (by omega)
     simp only [Value.slice.injEq,true_and] at e2
     obtain ⟨rfl,rfl⟩:=e2
     have hy0:=row_at HO3.out hy (j:=0) rfl
     have hy1:=row_at HO3.out hy (j:=1) rfl
     rw [Nat.mul_comm 9 t] at hy0 hy1
     rw [Nat.add_zero] at hy0
     have CY0:Hid (∀ u,Below wr.heap.size wr u → u.cell? ⟨R,t * 9,none⟩ = some (.string (S y.pk.nm))):=Lib.hid fun u hu=>Rl.cell_on hy0 hu
     have CY1:Hid (∀ u,Below wr.heap.size wr u → u.cell? ⟨R,t * 9 + 1,none⟩ = some (.string (S y.pk.vs))):=Lib.hid fun u hu=>Rl.cell_on hy1 hu
     have CX0:Hid (∀ u,Below wr.heap.size wr u → u.cell? ⟨bx,0,none⟩ = some (.string (S x.pk.nm))):=Lib.hid fun u hu=>(Rl.is_on HI3.out hu).at (i:=0) rfl
     have CX1:Hid (∀ u,Below wr.heap.size wr u → u.cell? ⟨bx,1,none⟩ = some (.string (S x.pk.vs))):=Lib.hid fun u hu=>(Rl.is_on HI3.out hu).at (i:=1) rfl
     have hq:((S y.pk.nm).toList == (S x.pk.nm).toList) = decide (y.pk.nm = x.pk.nm):=Rl.S_beq _ _
     have hless:=less_nm y.pk.nm x.pk.nm
     have HY:=Lib.hid hy
     have CV:=Lib.hid (fun u=>Ver.ycompare_any (S y.pk.vs) (S x.pk.vs) u (by rw [S_size]; have:=y.vs; omega) (by rw [S_size]; have:=x.vs; omega))
     clear hy hy0 hy1
     by_cases hnl:Lib.compareBytes y.pk.nm x.pk.nm < 0
     ·rw [decide_eq_true hnl] at hless
      have hah:ahead x.pk y.pk = true:=ahead_less hnl
      obtain ⟨gk',rfl⟩:∃ gk',gk = gk' + 1:=⟨gk - 1,by omega⟩
      have HE2:Hid (∀ j y,j < t + 1 → ds[j]? = some y → ahead x.pk y.pk = true):=Lib.hid fun j z hj hz=>by
       by_cases e:j = t
       ·subst e
        rw [HY.out] at hz
        obtain rfl:=Option.some.inj hz
        exact hah
       ·exact HE.out j z (by omega) hz
      clear HE hah
      clear hnl
      go_upto_region 6 with fail
      refine wp_region_held (S:=fun u=>Below wr.heap.size wr u) (by kernel_rfl) ?_
      have hS0:Below wr.heap.size wr wr.drew:=(Below.refl _ _).drew
      change wpAnyH _ _ _ _ _ 35 _ _ wr.drew
      generalize wr.drew = u0 at *
      refine wpAnyH_take (i:=0) (v:=.int .i64 t) rfl (by kernel_rfl) (by kernel_rfl) (by kernel_rfl) (fun _ _ _ h=>h) (.inl ⟨rfl,fun w _=>rfl⟩) hS0 ?_
      simp only [Act.put,List.getElem_toArray,List.getElem_cons_zero,List.getElem_cons_succ,List.setIfInBounds_toArray,List.set_cons_zero,List.set_cons_succ]
      refine wpAnyH_take (i:=1) (v:=.slice (some ⟨R,0,none⟩) k rc) rfl (by kernel_rfl) (by kernel_rfl) (by kernel_rfl) (fun _ _ _ h=>h) (.inl ⟨rfl,fun w _=>rfl⟩) hS0 ?_
      simp only [Act.put,List.getElem_toArray,List.getElem_cons_zero,List.getElem_cons_succ,List.setIfInBounds_toArray,List.set_cons_zero,List.set_cons_succ]
      refine wpAnyH_all (rs:=[2]) (by kernel_rfl) (by simp) ?_
      intro i hi
      obtain rfl:=List.mem_singleton.1 hi
      refine Reg.wpOp_list rfl ?_
      go_wp2_with fail
      change _ ∧ _
      refine ⟨hS0,?_⟩
      refine wpAnyH_all (rs:=[3]) (by kernel_rfl) (by simp) ?_
      intro i hi
      obtain rfl:=List.mem_singleton.1 hi
      refine Reg.wpOp_list rfl ?_
      go_wp2_with fail
      change _ ∧ _
      refine ⟨hS0,?_⟩
      refine wpAnyH_all (rs:=[4]) (by kernel_rfl) (by simp) ?_
      intro i hi
      obtain rfl:=List.mem_singleton.1 hi
      refine Reg.wpOp_list rfl ?_
      go_wp2_with fail
      change _ ∧ _
      refine ⟨hS0,?_⟩
      refine wpAnyH_take (i:=5) (v:=.slice (some ⟨R,0,none⟩) k rc) rfl (by kernel_rfl) (by kernel_rfl) (by kernel_rfl) (fun _ _ _ h=>h) (.inl ⟨rfl,fun w _=>rfl⟩) hS0 ?_
      simp only [Act.put,List.getElem_toArray,List.getElem_cons_zero,List.getElem_cons_succ,List.setIfInBounds_toArray,List.set_cons_zero,List.set_cons_succ]
      refine wpAnyH_take (i:=6) (v:=.int .i64 t) rfl (by kernel_rfl) (by kernel_rfl) (by kernel_rfl) (fun _ _ _ h=>h) (.inl ⟨rfl,fun w _=>rfl⟩) hS0 ?_
      simp only [Act.put,List.getElem_toArray,List.getElem_cons_zero,List.getElem_cons_succ,List.setIfInBounds_toArray,List.set_cons_zero,List.set_cons_succ]
      refine wpAnyH_take (i:=7) (v:=.pointer (some ⟨R,t * 9,none⟩)) rfl (by kernel_rfl) (by kernel_rfl) (by kernel_rfl) (fun _ _ _ h=>h) (.inl ⟨rfl,fun w _=>by simp [execOp,go_sem,Addr.add,htl] <;> first | omega | (intro h; omega) | (intro h; simp [h])⟩) hS0 ?_
      simp only [Act.put,List.getElem_toArray,List.getElem_cons_zero,List.getElem_cons_succ,List.setIfInBounds_toArray,List.set_cons_zero,List.set_cons_succ]
      refine wpAnyH_take (i:=8) (v:=.pointer (some ⟨R,t * 9,none⟩)) rfl (by kernel_rfl) (by kernel_rfl) (by kernel_rfl) (fun _ _ _ h=>h) (.inl ⟨rfl,fun w _=>rfl⟩) hS0 ?_
      simp only [Act.put,List.getElem_toArray,List.getElem_cons_zero,List.getElem_cons_succ,List.setIfInBounds_toArray,List.set_cons_zero,List.set_cons_succ]
      refine wpAnyH_take (i:=9) (v:=.string (S y.pk.nm)) rfl (by kernel_rfl) (by kernel_rfl) (by kernel_rfl) (fun _ _ _ h=>h) (Held.load1 rfl 9 (.tmp 21) rfl R (t * 9) rfl _ _ CY0.out Tryz.underlying9 rfl) hS0 ?_
      simp only [Act.put,List.getElem_toArray,List.getElem_cons_zero,List.getElem_cons_succ,List.setIfInBounds_toArray,List.set_cons_zero,List.set_cons_succ]
      refine wpAnyH_take (i:=10) (v:=.pointer (some ⟨bx,0,none⟩)) rfl (by kernel_rfl) (by kernel_rfl) (by kernel_rfl) (fun _ _ _ h=>h) (.inl ⟨rfl,fun w _=>rfl⟩) hS0 ?_
      simp only [Act.put,List.getElem_toArray,List.getElem_cons_zero,List.getElem_cons_succ,List.setIfInBounds_toArray,List.set_cons_zero,List.set_cons_succ]
      refine wpAnyH_take (i:=11) (v:=.string (S x.pk.nm)) rfl (by kernel_rfl) (by kernel_rfl) (by kernel_rfl) (fun _ _ _ h=>h) (Held.load1 rfl 9 (.tmp 23) rfl bx 0 rfl _ _ CX0.out Tryz.underlying9 rfl) hS0 ?_
      simp only [Act.put,List.getElem_toArray,List.getElem_cons_zero,List.getElem_cons_succ,List.setIfInBounds_toArray,List.set_cons_zero,List.set_cons_succ]
      refine wpAnyH_all (rs:=[12]) (by kernel_rfl) (by simp) ?_
      intro i hi
      obtain rfl:=List.mem_singleton.1 hi
      refine Reg.wpOp_list rfl ?_
      go_wp2_with fail
      change _ ∧ _
      refine ⟨hS0,?_⟩
      refine wpAnyH_all (rs:=[13]) (by kernel_rfl) (by simp) ?_
      intro i hi
      obtain rfl:=List.mem_singleton.1 hi
      refine Reg.wpOp_list rfl ?_
      go_wp2_with fail
      change _ ∧ _
      refine ⟨hS0,?_⟩
      refine wpAnyH_take (i:=14) (v:=undef) rfl (by kernel_rfl) (by kernel_rfl) (by kernel_rfl) (fun _ _ _ h=>h) (.inr ⟨by kernel_rfl,rfl⟩) hS0 ?_
      simp only [Act.put,List.getElem_toArray,List.getElem_cons_zero,List.getElem_cons_succ,List.setIfInBounds_toArray,List.set_cons_zero,List.set_cons_succ]
      refine wpAnyH_take (i:=15) (v:=undef) rfl (by kernel_rfl) (by kernel_rfl) (by kernel_rfl) (fun _ _ _ h=>h) (.inr ⟨by kernel_rfl,rfl⟩) hS0 ?_
      simp only [Act.put,List.getElem_toArray,List.getElem_cons_zero,List.getElem_cons_succ,List.setIfInBounds_toArray,List.set_cons_zero,List.set_cons_succ]
      refine wpAnyH_take (i:=16) (v:=undef) rfl (by kernel_rfl) (by kernel_rfl) (by kernel_rfl) (fun _ _ _ h=>h) (.inr ⟨by kernel_rfl,rfl⟩) hS0 ?_
      simp only [Act.put,List.getElem_toArray,List.getElem_cons_zero,List.getElem_cons_succ,List.setIfInBounds_toArray,List.set_cons_zero,List.set_cons_succ]
      refine wpAnyH_take (i:=17) (v:=undef) rfl (by kernel_rfl) (by kernel_rfl) (by kernel_rfl) (fun _ _ _ h=>h) (.inr ⟨by kernel_rfl,rfl⟩) hS0 ?_
      simp only [Act.put,List.getElem_toArray,List.getElem_cons_zero,List.getElem_cons_succ,List.setIfInBounds_toArray,List.set_cons_zero,List.set_cons_succ]
      refine wpAnyH_take (i:=18) (v:=undef) rfl (by kernel_rfl) (by kernel_rfl) (by kernel_rfl) (fun _ _ _ h=>h) (.inr ⟨by kernel_rfl,rfl⟩) hS0 ?_
      simp only [Act.put,List.getElem_toArray,List.getElem_cons_zero,List.getElem_cons_succ,List.setIfInBounds_toArray,List.set_cons_zero,List.set_cons_succ]
      refine wpAnyH_take (i:=19) (v:=undef) rfl (by kernel_rfl) (by kernel_rfl) (by kernel_rfl) (fun _ _ _ h=>h) (.inr ⟨by kernel_rfl,rfl⟩) hS0 ?_
      simp only [Act.put,List.getElem_toArray,List.getElem_cons_zero,List.getElem_cons_succ,List.setIfInBounds_toArray,List.set_cons_zero,List.set_cons_succ]
      refine wpAnyH_take (i:=20) (v:=undef) rfl (by kernel_rfl) (by kernel_rfl) (by kernel_rfl) (fun _ _ _ h=>h) (.inr ⟨by kernel_rfl,rfl⟩) hS0 ?_
      simp only [Act.put,List.getElem_toArray,List.getElem_cons_zero,List.getElem_cons_succ,List.setIfInBounds_toArray,List.set_cons_zero,List.set_cons_succ]
      refine wpAnyH_take (i:=21) (v:=undef) rfl (by kernel_rfl) (by kernel_rfl) (by kernel_rfl) (fun _ _ _ h=>h) (.inr ⟨by kernel_rfl,rfl⟩) hS0 ?_
      simp only [Act.put,List.getElem_toArray,List.getElem_cons_zero,List.getElem_cons_succ,List.setIfInBounds_toArray,List.set_cons_zero,List.set_cons_succ]
      refine wpAnyH_take (i:=22) (v:=undef) rfl (by kernel_rfl) (by kernel_rfl) (by kernel_rfl) (fun _ _ _ h=>h) (.inr ⟨by kernel_rfl,rfl⟩) hS0 ?_
      simp only [Act.put,List.getElem_toArray,List.getElem_cons_zero,List.getElem_cons_succ,List.setIfInBounds_toArray,List.set_cons_zero,List.set_cons_succ]
      refine wpAnyH_take (i:=23) (v:=undef) rfl (by kernel_rfl) (by kernel_rfl) (by kernel_rfl) (fun _ _ _ h=>h) (.inr ⟨by kernel_rfl,rfl⟩) hS0 ?_
      simp only [Act.put,List.getElem_toArray,List.getElem_cons_zero,List.getElem_cons_succ,List.setIfInBounds_toArray,List.set_cons_zero,List.set_cons_succ]
      refine wpAnyH_take (i:=24) (v:=undef) rfl (by kernel_rfl) (by kernel_rfl) (by kernel_rfl) (fun _ _ _ h=>h) (.inr ⟨by kernel_rfl,rfl⟩) hS0 ?_
      simp only [Act.put,List.getElem_toArray,List.getElem_cons_zero,List.getElem_cons_succ,List.setIfInBounds_toArray,List.set_cons_zero,List.set_cons_succ]
      refine wpAnyH_take (i:=25) (v:=undef) rfl (by kernel_rfl) (by kernel_rfl) (by kernel_rfl) (fun _ _ _ h=>h) (.inr ⟨by kernel_rfl,rfl⟩) hS0 ?_
      simp only [Act.put,List.getElem_toArray,List.getElem_cons_zero,List.getElem_cons_succ,List.setIfInBounds_toArray,List.set_cons_zero,List.set_cons_succ]
      refine wpAnyH_take (i:=26) (v:=undef) rfl (by kernel_rfl) (by kernel_rfl) (by kernel_rfl) (fun _ _ _ h=>h) (.inr ⟨by kernel_rfl,rfl⟩) hS0 ?_
      simp only [Act.put,List.getElem_toArray,List.getElem_cons_zero,List.getElem_cons_succ,List.setIfInBounds_toArray,List.set_cons_zero,List.set_cons_succ]
      refine wpAnyH_take (i:=27) (v:=undef) rfl (by kernel_rfl) (by kernel_rfl) (by kernel_rfl) (fun _ _ _ h=>h) (.inr ⟨by kernel_rfl,rfl⟩) hS0 ?_
      simp only [Act.put,List.getElem_toArray,List.getElem_cons_zero,List.getElem_cons_succ,List.setIfInBounds_toArray,List.set_cons_zero,List.set_cons_succ]
      refine wpAnyH_take (i:=28) (v:=undef) rfl (by kernel_rfl) (by kernel_rfl) (by kernel_rfl) (fun _ _ _ h=>h) (.inr ⟨by kernel_rfl,rfl⟩) hS0 ?_
      simp only [Act.put,List.getElem_toArray,List.getElem_cons_zero,List.getElem_cons_succ,List.setIfInBounds_toArray,List.set_cons_zero,List.set_cons_succ]
      refine wpAnyH_take (i:=29) (v:=undef) rfl (by kernel_rfl) (by kernel_rfl) (by kernel_rfl) (fun _ _ _ h=>h) (.inr ⟨by kernel_rfl,rfl⟩) hS0 ?_
      simp only [Act.put,List.getElem_toArray,List.getElem_cons_zero,List.getElem_cons_succ,List.setIfInBounds_toArray,List.set_cons_zero,List.set_cons_succ]
      refine wpAnyH_take (i:=30) (v:=undef) rfl (by kernel_rfl) (by kernel_rfl) (by kernel_rfl) (fun _ _ _ h=>h) (.inr ⟨by kernel_rfl,rfl⟩) hS0 ?_
      simp only [Act.put,List.getElem_toArray,List.getElem_cons_zero,List.getElem_cons_succ,List.setIfInBounds_toArray,List.set_cons_zero,List.set_cons_succ]
      refine wpAnyH_take (i:=31) (v:=undef) rfl (by kernel_rfl) (by kernel_rfl) (by kernel_rfl) (fun _ _ _ h=>h) (.inr ⟨by kernel_rfl,rfl⟩) hS0 ?_
      simp only [Act.put,List.getElem_toArray,List.getElem_cons_zero,List.getElem_cons_succ,List.setIfInBounds_toArray,List.set_cons_zero,List.set_cons_succ]
      refine wpAnyH_take (i:=32) (v:=undef) rfl (by kernel_rfl) (by kernel_rfl) (by kernel_rfl) (fun _ _ _ h=>h) (.inr ⟨by kernel_rfl,rfl⟩) hS0 ?_
      simp only [Act.put,List.getElem_toArray,List.getElem_cons_zero,List.getElem_cons_succ,List.setIfInBounds_toArray,List.set_cons_zero,List.set_cons_succ]
      refine wpAnyH_all (rs:=[33]) (by kernel_rfl) (by simp) ?_
      intro i hi
      obtain rfl:=List.mem_singleton.1 hi
      refine Reg.wpOp_list rfl ?_
      go_wp2_with fail
      change _ ∧ _
      refine ⟨hS0,?_⟩
      refine wpAnyH_all (rs:=[34]) (by kernel_rfl) (by simp) ?_
      intro i hi
      obtain rfl:=List.mem_singleton.1 hi
      refine Reg.wpOp_list rfl ?_
      go_wp2_with fail
      change _ ∧ _
      refine ⟨hS0,?_⟩
      refine wpAnyH_done (by kernel_rfl) ?_ _
      have BI:=Lib.hid (HBI.out.trans (hS0.mono HBI.out.size))
      clear hS0
      go_wp2_with fail
      go_roundg gk'
      case measure=>omega
      case rel=>exact ⟨t + 1,by go_num,BI,HE2,by omega,by omega⟩
     ·rw [decide_eq_false hnl] at hless
      by_cases hnm:y.pk.nm = x.pk.nm
      ·rw [decide_eq_true hnm] at hq
       obtain ⟨C,hC⟩:∃ C,cmpV y.pk.vs x.pk.vs = C:=⟨_,rfl⟩
       have HC:=Lib.hid hC
       by_cases hc:0 ≤ C
       ·have hah:ahead x.pk y.pk = true:=ahead_same hnm (by rw [hC]; exact hc)
        obtain ⟨gk',rfl⟩:∃ gk',gk = gk' + 1:=⟨gk - 1,by omega⟩
        have HE2:Hid (∀ j y,j < t + 1 → ds[j]? = some y → ahead x.pk y.pk = true):=Lib.hid fun j z hj hz=>by
         by_cases e:j = t
         ·subst e
          rw [HY.out] at hz
          obtain rfl:=Option.some.inj hz
          exact hah
         ·exact HE.out j z (by omega) hz
        clear HE hah
        clear hC hnm hnl
        go_upto_region 6 with fail
        refine wp_region_held (S:=fun u=>Below wr.heap.size wr u) (by kernel_rfl) ?_
        have hS0:Below wr.heap.size wr wr.drew:=(Below.refl _ _).drew
        change wpAnyH _ _ _ _ _ 35 _ _ wr.drew
        generalize wr.drew = u0 at *
        refine wpAnyH_take (i:=0) (v:=.int .i64 t) rfl (by kernel_rfl) (by kernel_rfl) (by kernel_rfl) (fun _ _ _ h=>h) (.inl ⟨rfl,fun w _=>rfl⟩) hS0 ?_
        simp only [Act.put,List.getElem_toArray,List.getElem_cons_zero,List.getElem_cons_succ,List.setIfInBounds_toArray,List.set_cons_zero,List.set_cons_succ]
        refine wpAnyH_take (i:=1) (v:=.slice (some ⟨R,0,none⟩) k rc) rfl (by kernel_rfl) (by kernel_rfl) (by kernel_rfl) (fun _ _ _ h=>h) (.inl ⟨rfl,fun w _=>rfl⟩) hS0 ?_
        simp only [Act.put,List.getElem_toArray,List.getElem_cons_zero,List.getElem_cons_succ,List.setIfInBounds_toArray,List.set_cons_zero,List.set_cons_succ]
        refine wpAnyH_all (rs:=[2]) (by kernel_rfl) (by simp) ?_
        intro i hi
        obtain rfl:=List.mem_singleton.1 hi
        refine Reg.wpOp_list rfl ?_
        go_wp2_with fail
        change _ ∧ _
        refine ⟨hS0,?_⟩
        refine wpAnyH_all (rs:=[3]) (by kernel_rfl) (by simp) ?_
        intro i hi
        obtain rfl:=List.mem_singleton.1 hi
        refine Reg.wpOp_list rfl ?_
        go_wp2_with fail
        change _ ∧ _
        refine ⟨hS0,?_⟩
        refine wpAnyH_all (rs:=[4]) (by kernel_rfl) (by simp) ?_
        intro i hi
        obtain rfl:=List.mem_singleton.1 hi
        refine Reg.wpOp_list rfl ?_
        go_wp2_with fail
        change _ ∧ _
        refine ⟨hS0,?_⟩
        refine wpAnyH_take (i:=5) (v:=.slice (some ⟨R,0,none⟩) k rc) rfl (by kernel_rfl) (by kernel_rfl) (by kernel_rfl) (fun _ _ _ h=>h) (.inl ⟨rfl,fun w _=>rfl⟩) hS0 ?_
        simp only [Act.put,List.getElem_toArray,List.getElem_cons_zero,List.getElem_cons_succ,List.setIfInBounds_toArray,List.set_cons_zero,List.set_cons_succ]
        refine wpAnyH_take (i:=6) (v:=.int .i64 t) rfl (by kernel_rfl) (by kernel_rfl) (by kernel_rfl) (fun _ _ _ h=>h) (.inl ⟨rfl,fun w _=>rfl⟩) hS0 ?_
        simp only [Act.put,List.getElem_toArray,List.getElem_cons_zero,List.getElem_cons_succ,List.setIfInBounds_toArray,List.set_cons_zero,List.set_cons_succ]
        refine wpAnyH_take (i:=7) (v:=.pointer (some ⟨R,t * 9,none⟩)) rfl (by kernel_rfl) (by kernel_rfl) (by kernel_rfl) (fun _ _ _ h=>h) (.inl ⟨rfl,fun w _=>by simp [execOp,go_sem,Addr.add,htl] <;> first | omega | (intro h; omega) | (intro h; simp [h])⟩) hS0 ?_
        simp only [Act.put,List.getElem_toArray,List.getElem_cons_zero,List.getElem_cons_succ,List.setIfInBounds_toArray,List.set_cons_zero,List.set_cons_succ]
        refine wpAnyH_take (i:=8) (v:=.pointer (some ⟨R,t * 9,none⟩)) rfl (by kernel_rfl) (by kernel_rfl) (by kernel_rfl) (fun _ _ _ h=>h) (.inl ⟨rfl,fun w _=>rfl⟩) hS0 ?_
        simp only [Act.put,List.getElem_toArray,List.getElem_cons_zero,List.getElem_cons_succ,List.setIfInBounds_toArray,List.set_cons_zero,List.set_cons_succ]
        refine wpAnyH_take (i:=9) (v:=.string (S y.pk.nm)) rfl (by kernel_rfl) (by kernel_rfl) (by kernel_rfl) (fun _ _ _ h=>h) (Held.load1 rfl 9 (.tmp 21) rfl R (t * 9) rfl _ _ CY0.out Tryz.underlying9 rfl) hS0 ?_
        simp only [Act.put,List.getElem_toArray,List.getElem_cons_zero,List.getElem_cons_succ,List.setIfInBounds_toArray,List.set_cons_zero,List.set_cons_succ]
        refine wpAnyH_take (i:=10) (v:=.pointer (some ⟨bx,0,none⟩)) rfl (by kernel_rfl) (by kernel_rfl) (by kernel_rfl) (fun _ _ _ h=>h) (.inl ⟨rfl,fun w _=>rfl⟩) hS0 ?_
        simp only [Act.put,List.getElem_toArray,List.getElem_cons_zero,List.getElem_cons_succ,List.setIfInBounds_toArray,List.set_cons_zero,List.set_cons_succ]
        refine wpAnyH_take (i:=11) (v:=.string (S x.pk.nm)) rfl (by kernel_rfl) (by kernel_rfl) (by kernel_rfl) (fun _ _ _ h=>h) (Held.load1 rfl 9 (.tmp 23) rfl bx 0 rfl _ _ CX0.out Tryz.underlying9 rfl) hS0 ?_
        simp only [Act.put,List.getElem_toArray,List.getElem_cons_zero,List.getElem_cons_succ,List.setIfInBounds_toArray,List.set_cons_zero,List.set_cons_succ]
        refine wpAnyH_all (rs:=[12]) (by kernel_rfl) (by simp) ?_
        intro i hi
        obtain rfl:=List.mem_singleton.1 hi
        refine Reg.wpOp_list rfl ?_
        go_wp2_with fail
        change _ ∧ _
        refine ⟨hS0,?_⟩
        refine wpAnyH_all (rs:=[13]) (by kernel_rfl) (by simp) ?_
        intro i hi
        obtain rfl:=List.mem_singleton.1 hi
        refine Reg.wpOp_list rfl ?_
        go_wp2_with fail
        change _ ∧ _
        refine ⟨hS0,?_⟩
        refine wpAnyH_take (i:=14) (v:=.slice (some ⟨R,0,none⟩) k rc) rfl (by kernel_rfl) (by kernel_rfl) (by kernel_rfl) (fun _ _ _ h=>h) (.inl ⟨rfl,fun w _=>rfl⟩) hS0 ?_
        simp only [Act.put,List.getElem_toArray,List.getElem_cons_zero,List.getElem_cons_succ,List.setIfInBounds_toArray,List.set_cons_zero,List.set_cons_succ]
        refine wpAnyH_take (i:=15) (v:=.int .i64 t) rfl (by kernel_rfl) (by kernel_rfl) (by kernel_rfl) (fun _ _ _ h=>h) (.inl ⟨rfl,fun w _=>rfl⟩) hS0 ?_
        simp only [Act.put,List.getElem_toArray,List.getElem_cons_zero,List.getElem_cons_succ,List.setIfInBounds_toArray,List.set_cons_zero,List.set_cons_succ]
        refine wpAnyH_take (i:=16) (v:=.pointer (some ⟨R,t * 9,none⟩)) rfl (by kernel_rfl) (by kernel_rfl) (by kernel_rfl) (fun _ _ _ h=>h) (.inl ⟨rfl,fun w _=>by simp [execOp,go_sem,Addr.add,htl] <;> first | omega | (intro h; omega) | (intro h; simp [h])⟩) hS0 ?_
        simp only [Act.put,List.getElem_toArray,List.getElem_cons_zero,List.getElem_cons_succ,List.setIfInBounds_toArray,List.set_cons_zero,List.set_cons_succ]
        refine wpAnyH_take (i:=17) (v:=.pointer (some ⟨R,t * 9,none⟩)) rfl (by kernel_rfl) (by kernel_rfl) (by kernel_rfl) (fun _ _ _ h=>h) (.inl ⟨rfl,fun w _=>rfl⟩) hS0 ?_
        simp only [Act.put,List.getElem_toArray,List.getElem_cons_zero,List.getElem_cons_succ,List.setIfInBounds_toArray,List.set_cons_zero,List.set_cons_succ]
        refine wpAnyH_take (i:=18) (v:=.string (S y.pk.nm)) rfl (by kernel_rfl) (by kernel_rfl) (by kernel_rfl) (fun _ _ _ h=>h) (Held.load1 rfl 9 (.tmp 30) rfl R (t * 9) rfl _ _ CY0.out Tryz.underlying9 rfl) hS0 ?_
        simp only [Act.put,List.getElem_toArray,List.getElem_cons_zero,List.getElem_cons_succ,List.setIfInBounds_toArray,List.set_cons_zero,List.set_cons_succ]
        refine wpAnyH_take (i:=19) (v:=.pointer (some ⟨bx,0,none⟩)) rfl (by kernel_rfl) (by kernel_rfl) (by kernel_rfl) (fun _ _ _ h=>h) (.inl ⟨rfl,fun w _=>rfl⟩) hS0 ?_
        simp only [Act.put,List.getElem_toArray,List.getElem_cons_zero,List.getElem_cons_succ,List.setIfInBounds_toArray,List.set_cons_zero,List.set_cons_succ]
        refine wpAnyH_take (i:=20) (v:=.string (S x.pk.nm)) rfl (by kernel_rfl) (by kernel_rfl) (by kernel_rfl) (fun _ _ _ h=>h) (Held.load1 rfl 9 (.tmp 32) rfl bx 0 rfl _ _ CX0.out Tryz.underlying9 rfl) hS0 ?_
        simp only [Act.put,List.getElem_toArray,List.getElem_cons_zero,List.getElem_cons_succ,List.setIfInBounds_toArray,List.set_cons_zero,List.set_cons_succ]
        refine wpAnyH_all (rs:=[21]) (by kernel_rfl) (by simp) ?_
        intro i hi
        obtain rfl:=List.mem_singleton.1 hi
        refine Reg.wpOp_list rfl ?_
        go_wp2_with fail
        change _ ∧ _
        refine ⟨hS0,?_⟩
        refine wpAnyH_all (rs:=[22]) (by kernel_rfl) (by simp) ?_
        intro i hi
        obtain rfl:=List.mem_singleton.1 hi
        refine Reg.wpOp_list rfl ?_
        go_wp2_with fail
        change _ ∧ _
        refine ⟨hS0,?_⟩
        refine wpAnyH_take (i:=23) (v:=.slice (some ⟨R,0,none⟩) k rc) rfl (by kernel_rfl) (by kernel_rfl) (by kernel_rfl) (fun _ _ _ h=>h) (.inl ⟨rfl,fun w _=>rfl⟩) hS0 ?_
        simp only [Act.put,List.getElem_toArray,List.getElem_cons_zero,List.getElem_cons_succ,List.setIfInBounds_toArray,List.set_cons_zero,List.set_cons_succ]
        refine wpAnyH_take (i:=24) (v:=.int .i64 t) rfl (by kernel_rfl) (by kernel_rfl) (by kernel_rfl) (fun _ _ _ h=>h) (.inl ⟨rfl,fun w _=>rfl⟩) hS0 ?_
        simp only [Act.put,List.getElem_toArray,List.getElem_cons_zero,List.getElem_cons_succ,List.setIfInBounds_toArray,List.set_cons_zero,List.set_cons_succ]
        refine wpAnyH_take (i:=25) (v:=.pointer (some ⟨R,t * 9,none⟩)) rfl (by kernel_rfl) (by kernel_rfl) (by kernel_rfl) (fun _ _ _ h=>h) (.inl ⟨rfl,fun w _=>by simp [execOp,go_sem,Addr.add,htl] <;> first | omega | (intro h; omega) | (intro h; simp [h])⟩) hS0 ?_
        simp only [Act.put,List.getElem_toArray,List.getElem_cons_zero,List.getElem_cons_succ,List.setIfInBounds_toArray,List.set_cons_zero,List.set_cons_succ]
        refine wpAnyH_take (i:=26) (v:=.pointer (some ⟨R,t * 9 + 1,none⟩)) rfl (by kernel_rfl) (by kernel_rfl) (by kernel_rfl) (fun _ _ _ h=>h) (.inl ⟨rfl,fun w _=>rfl⟩) hS0 ?_
        simp only [Act.put,List.getElem_toArray,List.getElem_cons_zero,List.getElem_cons_succ,List.setIfInBounds_toArray,List.set_cons_zero,List.set_cons_succ]
        refine wpAnyH_take (i:=27) (v:=.string (S y.pk.vs)) rfl (by kernel_rfl) (by kernel_rfl) (by kernel_rfl) (fun _ _ _ h=>h) (Held.load1 rfl 9 (.tmp 39) rfl R (t * 9 + 1) rfl _ _ CY1.out Tryz.underlying9 rfl) hS0 ?_
        simp only [Act.put,List.getElem_toArray,List.getElem_cons_zero,List.getElem_cons_succ,List.setIfInBounds_toArray,List.set_cons_zero,List.set_cons_succ]
        refine wpAnyH_take (i:=28) (v:=.pointer (some ⟨bx,1,none⟩)) rfl (by kernel_rfl) (by kernel_rfl) (by kernel_rfl) (fun _ _ _ h=>h) (.inl ⟨rfl,fun w _=>rfl⟩) hS0 ?_
        simp only [Act.put,List.getElem_toArray,List.getElem_cons_zero,List.getElem_cons_succ,List.setIfInBounds_toArray,List.set_cons_zero,List.set_cons_succ]
        refine wpAnyH_take (i:=29) (v:=.string (S x.pk.vs)) rfl (by kernel_rfl) (by kernel_rfl) (by kernel_rfl) (fun _ _ _ h=>h) (Held.load1 rfl 9 (.tmp 41) rfl bx 1 rfl _ _ CX1.out Tryz.underlying9 rfl) hS0 ?_
        simp only [Act.put,List.getElem_toArray,List.getElem_cons_zero,List.getElem_cons_succ,List.setIfInBounds_toArray,List.set_cons_zero,List.set_cons_succ]
        have cx:=CV.out u0
        rw [S_li,S_li,HC.out] at cx
        refine wpAnyH_all (rs:=[30]) (by kernel_rfl) (by simp) ?_
        intro i hi
        obtain rfl:=List.mem_singleton.1 hi
        refine Reg.wpOp_list rfl ?_
        go_wp2_with fail
        refine cx.mono ?_
        rintro e u1 ⟨rfl,k1⟩
        go_wp2_with fail
        change _ ∧ _
        have hS1:Below wr.heap.size wr u1:=hS0.trans (k1.mono hS0.size)
        refine ⟨hS1,?_⟩
        clear cx
        refine wpAnyH_all (rs:=[31]) (by kernel_rfl) (by simp) ?_
        intro i hi
        obtain rfl:=List.mem_singleton.1 hi
        refine Reg.wpOp_list rfl ?_
        go_wp2_with fail
        change _ ∧ _
        refine ⟨hS1,?_⟩
        refine wpAnyH_all (rs:=[32]) (by kernel_rfl) (by simp) ?_
        intro i hi
        obtain rfl:=List.mem_singleton.1 hi
        refine Reg.wpOp_list rfl ?_
        go_wp2_with fail
        change _ ∧ _
        refine ⟨hS1,?_⟩
        refine wpAnyH_all (rs:=[33]) (by kernel_rfl) (by simp) ?_
        intro i hi
        obtain rfl:=List.mem_singleton.1 hi
        refine Reg.wpOp_list rfl ?_
        go_wp2_with fail
        change _ ∧ _
        refine ⟨hS1,?_⟩
        refine wpAnyH_all (rs:=[34]) (by kernel_rfl) (by simp) ?_
        intro i hi
        obtain rfl:=List.mem_singleton.1 hi
        refine Reg.wpOp_list rfl ?_
        go_wp2_with fail
        change _ ∧ _
        refine ⟨hS1,?_⟩
        refine wpAnyH_done (by kernel_rfl) ?_ _
        have BI:=Lib.hid (HBI.out.trans (hS1.mono HBI.out.size))
        clear hS0 hS1
        go_wp2_with fail
        go_roundg gk'
        case measure=>omega
        case rel=>exact ⟨t + 1,by go_num,BI,HE2,by omega,by omega⟩
       ·have hah:ahead x.pk y.pk = false:=not_ahead_same hnm (by rw [hC]; exact hc)
        clear hC
        have HNA:Hid (slot x.pk (ds.map El.pk) = t):=slot_at HY.out hah HE.out
        clear hnm hnl
        go_upto_region 6 with fail
        refine wp_region_held (S:=fun u=>Below wr.heap.size wr u) (by kernel_rfl) ?_
        have hS0:Below wr.heap.size wr wr.drew:=(Below.refl _ _).drew
        change wpAnyH _ _ _ _ _ 35 _ _ wr.drew
        generalize wr.drew = u0 at *
        refine wpAnyH_take (i:=0) (v:=.int .i64 t) rfl (by kernel_rfl) (by kernel_rfl) (by kernel_rfl) (fun _ _ _ h=>h) (.inl ⟨rfl,fun w _=>rfl⟩) hS0 ?_
        simp only [Act.put,List.getElem_toArray,List.getElem_cons_zero,List.getElem_cons_succ,List.setIfInBounds_toArray,List.set_cons_zero,List.set_cons_succ]
        refine wpAnyH_take (i:=1) (v:=.slice (some ⟨R,0,none⟩) k rc) rfl (by kernel_rfl) (by kernel_rfl) (by kernel_rfl) (fun _ _ _ h=>h) (.inl ⟨rfl,fun w _=>rfl⟩) hS0 ?_
        simp only [Act.put,List.getElem_toArray,List.getElem_cons_zero,List.getElem_cons_succ,List.setIfInBounds_toArray,List.set_cons_zero,List.set_cons_succ]
        refine wpAnyH_all (rs:=[2]) (by kernel_rfl) (by simp) ?_
        intro i hi
        obtain rfl:=List.mem_singleton.1 hi
        refine Reg.wpOp_list rfl ?_
        go_wp2_with fail
        change _ ∧ _
        refine ⟨hS0,?_⟩
        refine wpAnyH_all (rs:=[3]) (by kernel_rfl) (by simp) ?_
        intro i hi
        obtain rfl:=List.mem_singleton.1 hi
        refine Reg.wpOp_list rfl ?_
        go_wp2_with fail
        change _ ∧ _
        refine ⟨hS0,?_⟩
        refine wpAnyH_all (rs:=[4]) (by kernel_rfl) (by simp) ?_
        intro i hi
        obtain rfl:=List.mem_singleton.1 hi
        refine Reg.wpOp_list rfl ?_
        go_wp2_with fail
        change _ ∧ _
        refine ⟨hS0,?_⟩
        refine wpAnyH_take (i:=5) (v:=.slice (some ⟨R,0,none⟩) k rc) rfl (by kernel_rfl) (by kernel_rfl) (by kernel_rfl) (fun _ _ _ h=>h) (.inl ⟨rfl,fun w _=>rfl⟩) hS0 ?_
        simp only [Act.put,List.getElem_toArray,List.getElem_cons_zero,List.getElem_cons_succ,List.setIfInBounds_toArray,List.set_cons_zero,List.set_cons_succ]
        refine wpAnyH_take (i:=6) (v:=.int .i64 t) rfl (by kernel_rfl) (by kernel_rfl) (by kernel_rfl) (fun _ _ _ h=>h) (.inl ⟨rfl,fun w _=>rfl⟩) hS0 ?_
        simp only [Act.put,List.getElem_toArray,List.getElem_cons_zero,List.getElem_cons_succ,List.setIfInBounds_toArray,List.set_cons_zero,List.set_cons_succ]
        refine wpAnyH_take (i:=7) (v:=.pointer (some ⟨R,t * 9,none⟩)) rfl (by kernel_rfl) (by kernel_rfl) (by kernel_rfl) (fun _ _ _ h=>h) (.inl ⟨rfl,fun w _=>by simp [execOp,go_sem,Addr.add,htl] <;> first | omega | (intro h; omega) | (intro h; simp [h])⟩) hS0 ?_
        simp only [Act.put,List.getElem_toArray,List.getElem_cons_zero,List.getElem_cons_succ,List.setIfInBounds_toArray,List.set_cons_zero,List.set_cons_succ]
        refine wpAnyH_take (i:=8) (v:=.pointer (some ⟨R,t * 9,none⟩)) rfl (by kernel_rfl) (by kernel_rfl) (by kernel_rfl) (fun _ _ _ h=>h) (.inl ⟨rfl,fun w _=>rfl⟩) hS0 ?_
        simp only [Act.put,List.getElem_toArray,List.getElem_cons_zero,List.getElem_cons_succ,List.setIfInBounds_toArray,List.set_cons_zero,List.set_cons_succ]
        refine wpAnyH_take (i:=9) (v:=.string (S y.pk.nm)) rfl (by kernel_rfl) (by kernel_rfl) (by kernel_rfl) (fun _ _ _ h=>h) (Held.load1 rfl 9 (.tmp 21) rfl R (t * 9) rfl _ _ CY0.out Tryz.underlying9 rfl) hS0 ?_
        simp only [Act.put,List.getElem_toArray,List.getElem_cons_zero,List.getElem_cons_succ,List.setIfInBounds_toArray,List.set_cons_zero,List.set_cons_succ]
        refine wpAnyH_take (i:=10) (v:=.pointer (some ⟨bx,0,none⟩)) rfl (by kernel_rfl) (by kernel_rfl) (by kernel_rfl) (fun _ _ _ h=>h) (.inl ⟨rfl,fun w _=>rfl⟩) hS0 ?_
        simp only [Act.put,List.getElem_toArray,List.getElem_cons_zero,List.getElem_cons_succ,List.setIfInBounds_toArray,List.set_cons_zero,List.set_cons_succ]
        refine wpAnyH_take (i:=11) (v:=.string (S x.pk.nm)) rfl (by kernel_rfl) (by kernel_rfl) (by kernel_rfl) (fun _ _ _ h=>h) (Held.load1 rfl 9 (.tmp 23) rfl bx 0 rfl _ _ CX0.out Tryz.underlying9 rfl) hS0 ?_
        simp only [Act.put,List.getElem_toArray,List.getElem_cons_zero,List.getElem_cons_succ,List.setIfInBounds_toArray,List.set_cons_zero,List.set_cons_succ]
        refine wpAnyH_all (rs:=[12]) (by kernel_rfl) (by simp) ?_
        intro i hi
        obtain rfl:=List.mem_singleton.1 hi
        refine Reg.wpOp_list rfl ?_
        go_wp2_with fail
        change _ ∧ _
        refine ⟨hS0,?_⟩
        refine wpAnyH_all (rs:=[13]) (by kernel_rfl) (by simp) ?_
        intro i hi
        obtain rfl:=List.mem_singleton.1 hi
        refine Reg.wpOp_list rfl ?_
        go_wp2_with fail
        change _ ∧ _
        refine ⟨hS0,?_⟩
        refine wpAnyH_take (i:=14) (v:=.slice (some ⟨R,0,none⟩) k rc) rfl (by kernel_rfl) (by kernel_rfl) (by kernel_rfl) (fun _ _ _ h=>h) (.inl ⟨rfl,fun w _=>rfl⟩) hS0 ?_
        simp only [Act.put,List.getElem_toArray,List.getElem_cons_zero,List.getElem_cons_succ,List.setIfInBounds_toArray,List.set_cons_zero,List.set_cons_succ]
        refine wpAnyH_take (i:=15) (v:=.int .i64 t) rfl (by kernel_rfl) (by kernel_rfl) (by kernel_rfl) (fun _ _ _ h=>h) (.inl ⟨rfl,fun w _=>rfl⟩) hS0 ?_
        simp only [Act.put,List.getElem_toArray,List.getElem_cons_zero,List.getElem_cons_succ,List.setIfInBounds_toArray,List.set_cons_zero,List.set_cons_succ]
        refine wpAnyH_take (i:=16) (v:=.pointer (some ⟨R,t * 9,none⟩)) rfl (by kernel_rfl) (by kernel_rfl) (by kernel_rfl) (fun _ _ _ h=>h) (.inl ⟨rfl,fun w _=>by simp [execOp,go_sem,Addr.add,htl] <;> first | omega | (intro h; omega) | (intro h; simp [h])⟩) hS0 ?_
        simp only [Act.put,List.getElem_toArray,List.getElem_cons_zero,List.getElem_cons_succ,List.setIfInBounds_toArray,List.set_cons_zero,List.set_cons_succ]
        refine wpAnyH_take (i:=17) (v:=.pointer (some ⟨R,t * 9,none⟩)) rfl (by kernel_rfl) (by kernel_rfl) (by kernel_rfl) (fun _ _ _ h=>h) (.inl ⟨rfl,fun w _=>rfl⟩) hS0 ?_
        simp only [Act.put,List.getElem_toArray,List.getElem_cons_zero,List.getElem_cons_succ,List.setIfInBounds_toArray,List.set_cons_zero,List.set_cons_succ]
        refine wpAnyH_take (i:=18) (v:=.string (S y.pk.nm)) rfl (by kernel_rfl) (by kernel_rfl) (by kernel_rfl) (fun _ _ _ h=>h) (Held.load1 rfl 9 (.tmp 30) rfl R (t * 9) rfl _ _ CY0.out Tryz.underlying9 rfl) hS0 ?_
        simp only [Act.put,List.getElem_toArray,List.getElem_cons_zero,List.getElem_cons_succ,List.setIfInBounds_toArray,List.set_cons_zero,List.set_cons_succ]
        refine wpAnyH_take (i:=19) (v:=.pointer (some ⟨bx,0,none⟩)) rfl (by kernel_rfl) (by kernel_rfl) (by kernel_rfl) (fun _ _ _ h=>h) (.inl ⟨rfl,fun w _=>rfl⟩) hS0 ?_
        simp only [Act.put,List.getElem_toArray,List.getElem_cons_zero,List.getElem_cons_succ,List.setIfInBounds_toArray,List.set_cons_zero,List.set_cons_succ]
        refine wpAnyH_take (i:=20) (v:=.string (S x.pk.nm)) rfl (by kernel_rfl) (by kernel_rfl) (by kernel_rfl) (fun _ _ _ h=>h) (Held.load1 rfl 9 (.tmp 32) rfl bx 0 rfl _ _ CX0.out Tryz.underlying9 rfl) hS0 ?_
        simp only [Act.put,List.getElem_toArray,List.getElem_cons_zero,List.getElem_cons_succ,List.setIfInBounds_toArray,List.set_cons_zero,List.set_cons_succ]
        refine wpAnyH_all (rs:=[21]) (by kernel_rfl) (by simp) ?_
        intro i hi
        obtain rfl:=List.mem_singleton.1 hi
        refine Reg.wpOp_list rfl ?_
        go_wp2_with fail
        change _ ∧ _
        refine ⟨hS0,?_⟩
        refine wpAnyH_all (rs:=[22]) (by kernel_rfl) (by simp) ?_
        intro i hi
        obtain rfl:=List.mem_singleton.1 hi
        refine Reg.wpOp_list rfl ?_
        go_wp2_with fail
        change _ ∧ _
        refine ⟨hS0,?_⟩
        refine wpAnyH_take (i:=23) (v:=.slice (some ⟨R,0,none⟩) k rc) rfl (by kernel_rfl) (by kernel_rfl) (by kernel_rfl) (fun _ _ _ h=>h) (.inl ⟨rfl,fun w _=>rfl⟩) hS0 ?_
        simp only [Act.put,List.getElem_toArray,List.getElem_cons_zero,List.getElem_cons_succ,List.setIfInBounds_toArray,List.set_cons_zero,List.set_cons_succ]
        refine wpAnyH_take (i:=24) (v:=.int .i64 t) rfl (by kernel_rfl) (by kernel_rfl) (by kernel_rfl) (fun _ _ _ h=>h) (.inl ⟨rfl,fun w _=>rfl⟩) hS0 ?_
        simp only [Act.put,List.getElem_toArray,List.getElem_cons_zero,List.getElem_cons_succ,List.setIfInBounds_toArray,List.set_cons_zero,List.set_cons_succ]
        refine wpAnyH_take (i:=25) (v:=.pointer (some ⟨R,t * 9,none⟩)) rfl (by kernel_rfl) (by kernel_rfl) (by kernel_rfl) (fun _ _ _ h=>h) (.inl ⟨rfl,fun w _=>by simp [execOp,go_sem,Addr.add,htl] <;> first | omega | (intro h; omega) | (intro h; simp [h])⟩) hS0 ?_
        simp only [Act.put,List.getElem_toArray,List.getElem_cons_zero,List.getElem_cons_succ,List.setIfInBounds_toArray,List.set_cons_zero,List.set_cons_succ]
        refine wpAnyH_take (i:=26) (v:=.pointer (some ⟨R,t * 9 + 1,none⟩)) rfl (by kernel_rfl) (by kernel_rfl) (by kernel_rfl) (fun _ _ _ h=>h) (.inl ⟨rfl,fun w _=>rfl⟩) hS0 ?_
        simp only [Act.put,List.getElem_toArray,List.getElem_cons_zero,List.getElem_cons_succ,List.setIfInBounds_toArray,List.set_cons_zero,List.set_cons_succ]
        refine wpAnyH_take (i:=27) (v:=.string (S y.pk.vs)) rfl (by kernel_rfl) (by kernel_rfl) (by kernel_rfl) (fun _ _ _ h=>h) (Held.load1 rfl 9 (.tmp 39) rfl R (t * 9 + 1) rfl _ _ CY1.out Tryz.underlying9 rfl) hS0 ?_
        simp only [Act.put,List.getElem_toArray,List.getElem_cons_zero,List.getElem_cons_succ,List.setIfInBounds_toArray,List.set_cons_zero,List.set_cons_succ]
        refine wpAnyH_take (i:=28) (v:=.pointer (some ⟨bx,1,none⟩)) rfl (by kernel_rfl) (by kernel_rfl) (by kernel_rfl) (fun _ _ _ h=>h) (.inl ⟨rfl,fun w _=>rfl⟩) hS0 ?_
        simp only [Act.put,List.getElem_toArray,List.getElem_cons_zero,List.getElem_cons_succ,List.setIfInBounds_toArray,List.set_cons_zero,List.set_cons_succ]
        refine wpAnyH_take (i:=29) (v:=.string (S x.pk.vs)) rfl (by kernel_rfl) (by kernel_rfl) (by kernel_rfl) (fun _ _ _ h=>h) (Held.load1 rfl 9 (.tmp 41) rfl bx 1 rfl _ _ CX1.out Tryz.underlying9 rfl) hS0 ?_
        simp only [Act.put,List.getElem_toArray,List.getElem_cons_zero,List.getElem_cons_succ,List.setIfInBounds_toArray,List.set_cons_zero,List.set_cons_succ]
        have cx:=CV.out u0
        rw [S_li,S_li,HC.out] at cx
        refine wpAnyH_all (rs:=[30]) (by kernel_rfl) (by simp) ?_
        intro i hi
        obtain rfl:=List.mem_singleton.1 hi
        refine Reg.wpOp_list rfl ?_
        go_wp2_with fail
        refine cx.mono ?_
        rintro e u1 ⟨rfl,k1⟩
        go_wp2_with fail
        change _ ∧ _
        have hS1:Below wr.heap.size wr u1:=hS0.trans (k1.mono hS0.size)
        refine ⟨hS1,?_⟩
        clear cx
        refine wpAnyH_all (rs:=[31]) (by kernel_rfl) (by simp) ?_
        intro i hi
        obtain rfl:=List.mem_singleton.1 hi
        refine Reg.wpOp_list rfl ?_
        go_wp2_with fail
        change _ ∧ _
        refine ⟨hS1,?_⟩
        refine wpAnyH_all (rs:=[32]) (by kernel_rfl) (by simp) ?_
        intro i hi
        obtain rfl:=List.mem_singleton.1 hi
        refine Reg.wpOp_list rfl ?_
        go_wp2_with fail
        change _ ∧ _
        refine ⟨hS1,?_⟩
        refine wpAnyH_all (rs:=[33]) (by kernel_rfl) (by simp) ?_
        intro i hi
        obtain rfl:=List.mem_singleton.1 hi
        refine Reg.wpOp_list rfl ?_
        go_wp2_with fail
        change _ ∧ _
        refine ⟨hS1,?_⟩
        refine wpAnyH_all (rs:=[34]) (by kernel_rfl) (by simp) ?_
        intro i hi
        obtain rfl:=List.mem_singleton.1 hi
        refine Reg.wpOp_list rfl ?_
        go_wp2_with fail
        change _ ∧ _
        refine ⟨hS1,?_⟩
        refine wpAnyH_done (by kernel_rfl) ?_ _
        have B6:=Lib.hid hS1
        clear hS0
        generalize u1 = wb at *
        go_upto_region 8 with fail
        have hbW:=HB3.out.trans (B6.out.mono HB3.out.size)
        have hob:=Own.owns_below HO3.out B6.out
        have hib:=Rl.is_on HI3.out B6.out
        have hle:t ≤ k:=by omega
        have h60:k ≤ 60000:=by omega
        obtain ⟨_,_,eo,hrc⟩:=Rl.own_shape hob
        simp only [Value.slice.injEq,true_and] at eo
        obtain ⟨hx9,rfl⟩:=eo
        clear hx9
        obtain ⟨vt,hrun,hslt⟩:=tail_slc hob HX.out.1 hle h60
        obtain ⟨HC,hHC⟩:∃ HC,(ds.take t).flatMap El.enc = HC:=⟨_,rfl⟩
        obtain ⟨TC,hTC⟩:∃ TC,(ds.drop t).flatMap El.enc = TC:=⟨_,rfl⟩
        have SH:Hid (∀ u,Below wb.heap.size wb u → Src Tryz.prog 9 22 (.slice (some ⟨R,0,none⟩) t rc) t HC u):=Lib.hid fun u hu=>by
         have h:=els_src (head_slc (Own.owns_below hob hu) HX.out.1 hle h60)
         rw [hHC,List.length_take,HX.out.1,Nat.min_eq_left hle] at h
         exact h
        have ST:Hid (∀ u,Below wb.heap.size wb u → Src Tryz.prog 9 22 vt (k - t) TC u):=Lib.hid fun u hu=>by
         have h:=els_src (hslt u hu)
         rw [hTC,List.length_drop,HX.out.1] at h
         exact h
        have KX:Hid (∀ u,Below wb.heap.size wb u → u.rangeAt bx 0 [.string (S x.pk.nm),.string (S x.pk.vs),.slice s1 m1 t1,.slice s2 m2 t2,.slice s3 m3 t3,.slice s4 m4 t4,.slice s5 m5 t5,.slice s6 m6 t6,.bool x.pk.ess]):=Lib.hid fun u hu=>range_of (Rl.is_on hib hu)
        have z9:(Tryz.prog.info? 40).map (·.size) = some 9:=by kernel_rfl
        have Z9:=Lib.hid z9
        have HEADH:=Lib.hid (fun w=>at_slice (w:=w) (slice_head (some ⟨R,0,none⟩) k rc t (by omega) w))
        have TAILH:=Lib.hid (fun w=>at_slice (hrun w))
        have BW:=Lib.hid hbW
        have HHC:=Lib.hid hHC
        have HTC:=Lib.hid hTC
        have INS:=Lib.hid (ins_els HXX.out HX.out.1 HX.out.2.1 HX.out.2.2 HXM.out HNA.out)
        obtain ⟨i0,hi0,hz0,hz1,hz2⟩:=info_parts Rc.infoPk
        have HI0:=Lib.hid hi0
        clear hbW hob hib hrun hslt hHC hTC z9 hi0
        refine wp_region_held (S:=fun u=>Below wb.heap.size wb u) (by kernel_rfl) ?_
        have hS0:Below wb.heap.size wb wb.drew:=(Below.refl _ _).drew
        change wpAnyH _ _ _ _ _ 12 _ _ wb.drew
        generalize wb.drew = u0 at *
        refine wpAnyH_take (i:=0) (v:=.slice (some ⟨R,0,none⟩) k rc) rfl (by kernel_rfl) (by kernel_rfl) (by kernel_rfl) (fun _ _ _ h=>h) (.inl ⟨rfl,fun w _=>rfl⟩) hS0 ?_
        simp only [Act.put,List.getElem_toArray,List.getElem_cons_zero,List.getElem_cons_succ,List.setIfInBounds_toArray,List.set_cons_zero,List.set_cons_succ]
        refine wpAnyH_take (i:=1) (v:=.int .i64 t) rfl (by kernel_rfl) (by kernel_rfl) (by kernel_rfl) (fun _ _ _ h=>h) (.inl ⟨rfl,fun w _=>rfl⟩) hS0 ?_
        simp only [Act.put,List.getElem_toArray,List.getElem_cons_zero,List.getElem_cons_succ,List.setIfInBounds_toArray,List.set_cons_zero,List.set_cons_succ]
        refine wpAnyH_take (i:=7) (v:=.slice (some ⟨R,0,none⟩) k rc) rfl (by kernel_rfl) (by kernel_rfl) (by kernel_rfl) (fun _ _ _ h=>h) (.inl ⟨rfl,fun w _=>rfl⟩) hS0 ?_
        simp only [Act.put,List.getElem_toArray,List.getElem_cons_zero,List.getElem_cons_succ,List.setIfInBounds_toArray,List.set_cons_zero,List.set_cons_succ]
        refine wpAnyH_take (i:=8) (v:=.int .i64 t) rfl (by kernel_rfl) (by kernel_rfl) (by kernel_rfl) (fun _ _ _ h=>h) (.inl ⟨rfl,fun w _=>rfl⟩) hS0 ?_
        simp only [Act.put,List.getElem_toArray,List.getElem_cons_zero,List.getElem_cons_succ,List.setIfInBounds_toArray,List.set_cons_zero,List.set_cons_succ]
        refine wpAnyH_take (i:=2) (v:=.slice (some ⟨R,0,none⟩) t rc) rfl (by kernel_rfl) (by kernel_rfl) (by kernel_rfl) (fun _ _ _ h=>h) (.inl ⟨rfl,fun w _=>by simp [execOp]; erw [HEADH.out w]; rfl⟩) hS0 ?_
        simp only [Act.put,List.getElem_toArray,List.getElem_cons_zero,List.getElem_cons_succ,List.setIfInBounds_toArray,List.set_cons_zero,List.set_cons_succ]
        refine wpAnyH_take (i:=9) (v:=vt) rfl (by kernel_rfl) (by kernel_rfl) (by kernel_rfl) (fun _ _ _ h=>h) (.inl ⟨rfl,fun w _=>by simp [execOp]; erw [TAILH.out w]; rfl⟩) hS0 ?_
        simp only [Act.put,List.getElem_toArray,List.getElem_cons_zero,List.getElem_cons_succ,List.setIfInBounds_toArray,List.set_cons_zero,List.set_cons_succ]
        refine wpAnyH_take (i:=4) (v:=.agg [.string (S x.pk.nm),.string (S x.pk.vs),.slice s1 m1 t1,.slice s2 m2 t2,.slice s3 m3 t3,.slice s4 m4 t4,.slice s5 m5 t5,.slice s6 m6 t6,.bool x.pk.ess].toArray) rfl (by kernel_rfl) (by kernel_rfl) (by kernel_rfl) (fun _ _ _ h=>h) (yieldsIf_load_mid rfl 40 (.tmp 5) rfl bx 0 rfl _ _ KX.out Tryz.underlying40 rfl Z9.out) hS0 ?_
        simp only [Act.put,List.getElem_toArray,List.getElem_cons_zero,List.getElem_cons_succ,List.setIfInBounds_toArray,List.set_cons_zero,List.set_cons_succ]
        refine wpAnyH_all (rs:=[3,5]) (by kernel_rfl) (by simp) ?_
        intro i hi
        simp only [List.mem_cons,List.not_mem_nil,or_false] at hi
        rcases hi with rfl | rfl
        ·have hz:=hS0.size
         refine Reg.wpOp_list rfl ?_
         (refine Own.wpList_append_src rfl (.const (.slice none 0 0)) (.tmp 52) 22 22 rfl wb.heap.size 40 i0 _ 9 184 Tryz.underlying22 HI0.out hz0 hz1 hz2 rfl _ 0 [] rfl (World.ownsRow_nil _ _ _ _) _ t HC rfl (SH.out _ hS0) (by simp only [maxLen]; omega) (by omega) hz ?_; intro v3 u1 o3 g3)
         go_wp2_with fail
         change _ ∧ _
         have hS1:Below wb.heap.size wb u1:=Own.below_grown hS0 (World.ownsRow_nil u0 wb.heap.size 40 9) g3 hz
         rw [Nat.zero_add,List.nil_append] at o3
         have O3:=Lib.hid o3
         refine ⟨hS1,?_⟩
         clear o3 g3 hz
         have hba:=(Below.refl u1.heap.size u1).alloc (Nat.le_refl _) (.cells #[.string (S x.pk.nm),.string (S x.pk.vs),.slice s1 m1 t1,.slice s2 m2 t2,.slice s3 m3 t3,.slice s4 m4 t4,.slice s5 m5 t5,.slice s6 m6 t6,.bool x.pk.ess] 40)
         have ia5:=Blk.Is.new u1 40 #[.string (S x.pk.nm),.string (S x.pk.vs),.slice s1 m1 t1,.slice s2 m2 t2,.slice s3 m3 t3,.slice s4 m4 t4,.slice s5 m5 t5,.slice s6 m6 t6,.bool x.pk.ess]
         obtain ⟨u2,hu2⟩:∃ u2,u1.alloc (.cells #[.string (S x.pk.nm),.string (S x.pk.vs),.slice s1 m1 t1,.slice s2 m2 t2,.slice s3 m3 t3,.slice s4 m4 t4,.slice s5 m5 t5,.slice s6 m6 t6,.bool x.pk.ess] 40) = u2:=⟨_,rfl⟩
         rw [hu2] at hba ia5
         have hS2:Below wb.heap.size wb u2:=hS1.trans (hba.mono hS1.size)
         have I5:=Lib.hid ia5
         obtain ⟨b5,hb5⟩:∃ b5,u1.heap.size = b5:=⟨_,rfl⟩
         rw [hb5] at I5
         have O3':=Lib.hid (Own.owns_below O3.out hba)
         clear O3
         have O3:=O3'
         clear O3'
         refine wpAnyH_all (rs:=[5]) (by kernel_rfl) (by simp) ?_
         intro i hi
         obtain rfl:=List.mem_singleton.1 hi
         refine Reg.wpOp_list rfl ?_
         go_wp2_with fail
         change _ ∧ _
         refine ⟨hS2,?_⟩
         clear hu2 hba ia5 hb5
         refine wpAnyH_all (rs:=[6]) (by kernel_rfl) (by simp) ?_
         intro i hi
         obtain rfl:=List.mem_singleton.1 hi
         have hz:=hS2.size
         have h70:t + 1 ≤ 70000:=by omega
         refine Reg.wpOp_list rfl ?_
         (refine append_pk rfl (.tmp 53) (.tmp 55) rfl wb.heap.size v3 t HC rfl O3.out b5 1 rfl [.string (S x.pk.nm),.string (S x.pk.vs),.slice s1 m1 t1,.slice s2 m2 t2,.slice s3 m3 t3,.slice s4 m4 t4,.slice s5 m5 t5,.slice s6 m6 t6,.bool x.pk.ess] rfl (fun j u hj=>I5.out.at (by rw [← Array.getElem?_toList]; exact hj)) (fun u hu=>by simp only [List.mem_cons,List.not_mem_nil,or_false] at hu; rcases hu with rfl | rfl | rfl | rfl | rfl | rfl | rfl | rfl | rfl <;> rfl) h70 hz ?_; intro v6 u3 o6 g6)
         go_wp2_with fail
         change _ ∧ _
         have hS3:Below wb.heap.size wb u3:=Own.below_grown hS2 O3.out g6 hz
         have O6:=Lib.hid o6
         refine ⟨hS3,?_⟩
         clear o6 g6 hz O3 I5
         refine wpAnyH_all (rs:=[10]) (by kernel_rfl) (by simp) ?_
         intro i hi
         obtain rfl:=List.mem_singleton.1 hi
         have hz:=hS3.size
         refine Reg.wpOp_list rfl ?_
         (refine Own.wpList_append_src rfl (.tmp 56) (.tmp 59) 22 22 rfl wb.heap.size 40 i0 _ 9 184 Tryz.underlying22 HI0.out hz0 hz1 hz2 rfl v6 (t + 1) (HC ++ [.string (S x.pk.nm),.string (S x.pk.vs),.slice s1 m1 t1,.slice s2 m2 t2,.slice s3 m3 t3,.slice s4 m4 t4,.slice s5 m5 t5,.slice s6 m6 t6,.bool x.pk.ess]) rfl O6.out vt (k - t) TC rfl (ST.out _ hS3) (by simp only [maxLen]; omega) (by omega) hz ?_; intro v10 u4 o10 g10)
         go_wp2_with fail
         change _ ∧ _
         have hS4:Below wb.heap.size wb u4:=Own.below_grown hS3 O6.out g10 hz
         rw [show t + 1 + (k - t) = k + 1 by omega] at o10
         obtain ⟨a10,c10,rfl,_⟩:=Rl.own_shape o10
         have O10:=Lib.hid o10
         refine ⟨hS4,?_⟩
         clear o10 g10 hz O6
         refine wpAnyH_all (rs:=[11]) (by kernel_rfl) (by simp) ?_
         intro i hi
         obtain rfl:=List.mem_singleton.1 hi
         refine Reg.wpOp_list rfl ?_
         go_wp2_with fail
         change _ ∧ _
         refine ⟨hS4,?_⟩
         refine wpAnyH_done (by kernel_rfl) ?_ _
         have hbz:=BW.out.trans (hS4.mono BW.out.size)
         have hfin:=Rl.own_mono O10.out BW.out.size
         have hcat:(HC ++ [.string (S x.pk.nm),.string (S x.pk.vs),.slice s1 m1 t1,.slice s2 m2 t2,.slice s3 m3 t3,.slice s4 m4 t4,.slice s5 m5 t5,.slice s6 m6 t6,.bool x.pk.ess]) ++ TC = (ds.take t ++ [x] ++ ds.drop t).flatMap El.enc:=by
          rw [List.flatMap_append,List.flatMap_append,HHC.out,HTC.out,← HENC.out]
          simp
         rw [hcat] at hfin
         have HFIN:=Lib.hid hfin
         have BZ:=Lib.hid hbz
         clear hS0 hS1 hS2 hS3 hS4 hbz hfin hcat
         go_wp2_with fail
         go_roundg g'
         case measure=>omega
         case rel=>exact ⟨k + 1,a10,c10,ds.take t ++ [x] ++ ds.drop t,rfl,by go_num,HFIN,INS,BZ,by omega,by omega⟩
        ·have hba:=(Below.refl u0.heap.size u0).alloc (Nat.le_refl _) (.cells #[.string (S x.pk.nm),.string (S x.pk.vs),.slice s1 m1 t1,.slice s2 m2 t2,.slice s3 m3 t3,.slice s4 m4 t4,.slice s5 m5 t5,.slice s6 m6 t6,.bool x.pk.ess] 40)
         have ia5:=Blk.Is.new u0 40 #[.string (S x.pk.nm),.string (S x.pk.vs),.slice s1 m1 t1,.slice s2 m2 t2,.slice s3 m3 t3,.slice s4 m4 t4,.slice s5 m5 t5,.slice s6 m6 t6,.bool x.pk.ess]
         obtain ⟨u1,hu1⟩:∃ u1,u0.alloc (.cells #[.string (S x.pk.nm),.string (S x.pk.vs),.slice s1 m1 t1,.slice s2 m2 t2,.slice s3 m3 t3,.slice s4 m4 t4,.slice s5 m5 t5,.slice s6 m6 t6,.bool x.pk.ess] 40) = u1:=⟨_,rfl⟩
         rw [hu1] at hba ia5
         have hS1:Below wb.heap.size wb u1:=hS0.trans (hba.mono hS0.size)
         have I5:=Lib.hid ia5
         obtain ⟨b5,hb5⟩:∃ b5,u0.heap.size = b5:=⟨_,rfl⟩
         rw [hb5] at I5
         refine Reg.wpOp_list rfl ?_
         go_wp2_with fail
         change _ ∧ _
         refine ⟨hS1,?_⟩
         clear hu1 hba ia5 hb5
         refine wpAnyH_all (rs:=[3]) (by kernel_rfl) (by simp) ?_
         intro i hi
         obtain rfl:=List.mem_singleton.1 hi
         have hz:=hS1.size
         refine Reg.wpOp_list rfl ?_
         (refine Own.wpList_append_src rfl (.const (.slice none 0 0)) (.tmp 52) 22 22 rfl wb.heap.size 40 i0 _ 9 184 Tryz.underlying22 HI0.out hz0 hz1 hz2 rfl _ 0 [] rfl (World.ownsRow_nil _ _ _ _) _ t HC rfl (SH.out _ hS1) (by simp only [maxLen]; omega) (by omega) hz ?_; intro v3 u2 o3 g3)
         go_wp2_with fail
         change _ ∧ _
         have hS2:Below wb.heap.size wb u2:=Own.below_grown hS1 (World.ownsRow_nil u1 wb.heap.size 40 9) g3 hz
         rw [Nat.zero_add,List.nil_append] at o3
         have O3:=Lib.hid o3
         have I5':=Rl.is_on I5.out (Own.below_grown (Below.refl u1.heap.size u1) (World.ownsRow_nil u1 u1.heap.size 40 9) g3 (Nat.le_refl _))
         clear I5
         have I5:=Lib.hid I5'
         refine ⟨hS2,?_⟩
         clear o3 g3 hz
         refine wpAnyH_all (rs:=[6]) (by kernel_rfl) (by simp) ?_
         intro i hi
         obtain rfl:=List.mem_singleton.1 hi
         have hz:=hS2.size
         have h70:t + 1 ≤ 70000:=by omega
         refine Reg.wpOp_list rfl ?_
         (refine append_pk rfl (.tmp 53) (.tmp 55) rfl wb.heap.size v3 t HC rfl O3.out b5 1 rfl [.string (S x.pk.nm),.string (S x.pk.vs),.slice s1 m1 t1,.slice s2 m2 t2,.slice s3 m3 t3,.slice s4 m4 t4,.slice s5 m5 t5,.slice s6 m6 t6,.bool x.pk.ess] rfl (fun j u hj=>I5.out.at (by rw [← Array.getElem?_toList]; exact hj)) (fun u hu=>by simp only [List.mem_cons,List.not_mem_nil,or_false] at hu; rcases hu with rfl | rfl | rfl | rfl | rfl | rfl | rfl | rfl | rfl <;> rfl) h70 hz ?_; intro v6 u3 o6 g6)
         go_wp2_with fail
         change _ ∧ _
         have hS3:Below wb.heap.size wb u3:=Own.below_grown hS2 O3.out g6 hz
         have O6:=Lib.hid o6
         refine ⟨hS3,?_⟩
         clear o6 g6 hz O3 I5
         refine wpAnyH_all (rs:=[10]) (by kernel_rfl) (by simp) ?_
         intro i hi
         obtain rfl:=List.mem_singleton.1 hi
         have hz:=hS3.size
         refine Reg.wpOp_list rfl ?_
         (refine Own.wpList_append_src rfl (.tmp 56) (.tmp 59) 22 22 rfl wb.heap.size 40 i0 _ 9 184 Tryz.underlying22 HI0.out hz0 hz1 hz2 rfl v6 (t + 1) (HC ++ [.string (S x.pk.nm),.string (S x.pk.vs),.slice s1 m1 t1,.slice s2 m2 t2,.slice s3 m3 t3,.slice s4 m4 t4,.slice s5 m5 t5,.slice s6 m6 t6,.bool x.pk.ess]) rfl O6.out vt (k - t) TC rfl (ST.out _ hS3) (by simp only [maxLen]; omega) (by omega) hz ?_; intro v10 u4 o10 g10)
         go_wp2_with fail
         change _ ∧ _
         have hS4:Below wb.heap.size wb u4:=Own.below_grown hS3 O6.out g10 hz
         rw [show t + 1 + (k - t) = k + 1 by omega] at o10
         obtain ⟨a10,c10,rfl,_⟩:=Rl.own_shape o10
         have O10:=Lib.hid o10
         refine ⟨hS4,?_⟩
         clear o10 g10 hz O6
         refine wpAnyH_all (rs:=[11]) (by kernel_rfl) (by simp) ?_
         intro i hi
         obtain rfl:=List.mem_singleton.1 hi
         refine Reg.wpOp_list rfl ?_
         go_wp2_with fail
         change _ ∧ _
         refine ⟨hS4,?_⟩
         refine wpAnyH_done (by kernel_rfl) ?_ _
         have hbz:=BW.out.trans (hS4.mono BW.out.size)
         have hfin:=Rl.own_mono O10.out BW.out.size
         have hcat:(HC ++ [.string (S x.pk.nm),.string (S x.pk.vs),.slice s1 m1 t1,.slice s2 m2 t2,.slice s3 m3 t3,.slice s4 m4 t4,.slice s5 m5 t5,.slice s6 m6 t6,.bool x.pk.ess]) ++ TC = (ds.take t ++ [x] ++ ds.drop t).flatMap El.enc:=by
          rw [List.flatMap_append,List.flatMap_append,HHC.out,HTC.out,← HENC.out]
          simp
         rw [hcat] at hfin
         have HFIN:=Lib.hid hfin
         have BZ:=Lib.hid hbz
         clear hS0 hS1 hS2 hS3 hS4 hbz hfin hcat
         go_wp2_with fail
         go_roundg g'
         case measure=>omega
         case rel=>exact ⟨k + 1,a10,c10,ds.take t ++ [x] ++ ds.drop t,rfl,by go_num,HFIN,INS,BZ,by omega,by omega⟩
      ·rw [decide_eq_false hnm] at hq
       have hah:ahead x.pk y.pk = false:=not_ahead_other hnl hnm
       have HNA:Hid (slot x.pk (ds.map El.pk) = t):=slot_at HY.out hah HE.out
       clear hnm hnl
       go_upto_region 6 with fail
       refine wp_region_held (S:=fun u=>Below wr.heap.size wr u) (by kernel_rfl) ?_
       have hS0:Below wr.heap.size wr wr.drew:=(Below.refl _ _).drew
       change wpAnyH _ _ _ _ _ 35 _ _ wr.drew
       generalize wr.drew = u0 at *
       refine wpAnyH_take (i:=0) (v:=.int .i64 t) rfl (by kernel_rfl) (by kernel_rfl) (by kernel_rfl) (fun _ _ _ h=>h) (.inl ⟨rfl,fun w _=>rfl⟩) hS0 ?_
       simp only [Act.put,List.getElem_toArray,List.getElem_cons_zero,List.getElem_cons_succ,List.setIfInBounds_toArray,List.set_cons_zero,List.set_cons_succ]
       refine wpAnyH_take (i:=1) (v:=.slice (some ⟨R,0,none⟩) k rc) rfl (by kernel_rfl) (by kernel_rfl) (by kernel_rfl) (fun _ _ _ h=>h) (.inl ⟨rfl,fun w _=>rfl⟩) hS0 ?_
       simp only [Act.put,List.getElem_toArray,List.getElem_cons_zero,List.getElem_cons_succ,List.setIfInBounds_toArray,List.set_cons_zero,List.set_cons_succ]
       refine wpAnyH_all (rs:=[2]) (by kernel_rfl) (by simp) ?_
       intro i hi
       obtain rfl:=List.mem_singleton.1 hi
       refine Reg.wpOp_list rfl ?_
       go_wp2_with fail
       change _ ∧ _
       refine ⟨hS0,?_⟩
       refine wpAnyH_all (rs:=[3]) (by kernel_rfl) (by simp) ?_
       intro i hi
       obtain rfl:=List.mem_singleton.1 hi
       refine Reg.wpOp_list rfl ?_
       go_wp2_with fail
       change _ ∧ _
       refine ⟨hS0,?_⟩
       refine wpAnyH_all (rs:=[4]) (by kernel_rfl) (by simp) ?_
       intro i hi
       obtain rfl:=List.mem_singleton.1 hi
       refine Reg.wpOp_list rfl ?_
       go_wp2_with fail
       change _ ∧ _
       refine ⟨hS0,?_⟩
       refine wpAnyH_take (i:=5) (v:=.slice (some ⟨R,0,none⟩) k rc) rfl (by kernel_rfl) (by kernel_rfl) (by kernel_rfl) (fun _ _ _ h=>h) (.inl ⟨rfl,fun w _=>rfl⟩) hS0 ?_
       simp only [Act.put,List.getElem_toArray,List.getElem_cons_zero,List.getElem_cons_succ,List.setIfInBounds_toArray,List.set_cons_zero,List.set_cons_succ]
       refine wpAnyH_take (i:=6) (v:=.int .i64 t) rfl (by kernel_rfl) (by kernel_rfl) (by kernel_rfl) (fun _ _ _ h=>h) (.inl ⟨rfl,fun w _=>rfl⟩) hS0 ?_
       simp only [Act.put,List.getElem_toArray,List.getElem_cons_zero,List.getElem_cons_succ,List.setIfInBounds_toArray,List.set_cons_zero,List.set_cons_succ]
       refine wpAnyH_take (i:=7) (v:=.pointer (some ⟨R,t * 9,none⟩)) rfl (by kernel_rfl) (by kernel_rfl) (by kernel_rfl) (fun _ _ _ h=>h) (.inl ⟨rfl,fun w _=>by simp [execOp,go_sem,Addr.add,htl] <;> first | omega | (intro h; omega) | (intro h; simp [h])⟩) hS0 ?_
       simp only [Act.put,List.getElem_toArray,List.getElem_cons_zero,List.getElem_cons_succ,List.setIfInBounds_toArray,List.set_cons_zero,List.set_cons_succ]
       refine wpAnyH_take (i:=8) (v:=.pointer (some ⟨R,t * 9,none⟩)) rfl (by kernel_rfl) (by kernel_rfl) (by kernel_rfl) (fun _ _ _ h=>h) (.inl ⟨rfl,fun w _=>rfl⟩) hS0 ?_
       simp only [Act.put,List.getElem_toArray,List.getElem_cons_zero,List.getElem_cons_succ,List.setIfInBounds_toArray,List.set_cons_zero,List.set_cons_succ]
       refine wpAnyH_take (i:=9) (v:=.string (S y.pk.nm)) rfl (by kernel_rfl) (by kernel_rfl) (by kernel_rfl) (fun _ _ _ h=>h) (Held.load1 rfl 9 (.tmp 21) rfl R (t * 9) rfl _ _ CY0.out Tryz.underlying9 rfl) hS0 ?_
       simp only [Act.put,List.getElem_toArray,List.getElem_cons_zero,List.getElem_cons_succ,List.setIfInBounds_toArray,List.set_cons_zero,List.set_cons_succ]
       refine wpAnyH_take (i:=10) (v:=.pointer (some ⟨bx,0,none⟩)) rfl (by kernel_rfl) (by kernel_rfl) (by kernel_rfl) (fun _ _ _ h=>h) (.inl ⟨rfl,fun w _=>rfl⟩) hS0 ?_
       simp only [Act.put,List.getElem_toArray,List.getElem_cons_zero,List.getElem_cons_succ,List.setIfInBounds_toArray,List.set_cons_zero,List.set_cons_succ]
       refine wpAnyH_take (i:=11) (v:=.string (S x.pk.nm)) rfl (by kernel_rfl) (by kernel_rfl) (by kernel_rfl) (fun _ _ _ h=>h) (Held.load1 rfl 9 (.tmp 23) rfl bx 0 rfl _ _ CX0.out Tryz.underlying9 rfl) hS0 ?_
       simp only [Act.put,List.getElem_toArray,List.getElem_cons_zero,List.getElem_cons_succ,List.setIfInBounds_toArray,List.set_cons_zero,List.set_cons_succ]
       refine wpAnyH_all (rs:=[12]) (by kernel_rfl) (by simp) ?_
       intro i hi
       obtain rfl:=List.mem_singleton.1 hi
       refine Reg.wpOp_list rfl ?_
       go_wp2_with fail
       change _ ∧ _
       refine ⟨hS0,?_⟩
       refine wpAnyH_all (rs:=[13]) (by kernel_rfl) (by simp) ?_
       intro i hi
       obtain rfl:=List.mem_singleton.1 hi
       refine Reg.wpOp_list rfl ?_
       go_wp2_with fail
       change _ ∧ _
       refine ⟨hS0,?_⟩
       refine wpAnyH_take (i:=14) (v:=.slice (some ⟨R,0,none⟩) k rc) rfl (by kernel_rfl) (by kernel_rfl) (by kernel_rfl) (fun _ _ _ h=>h) (.inl ⟨rfl,fun w _=>rfl⟩) hS0 ?_
       simp only [Act.put,List.getElem_toArray,List.getElem_cons_zero,List.getElem_cons_succ,List.setIfInBounds_toArray,List.set_cons_zero,List.set_cons_succ]
       refine wpAnyH_take (i:=15) (v:=.int .i64 t) rfl (by kernel_rfl) (by kernel_rfl) (by kernel_rfl) (fun _ _ _ h=>h) (.inl ⟨rfl,fun w _=>rfl⟩) hS0 ?_
       simp only [Act.put,List.getElem_toArray,List.getElem_cons_zero,List.getElem_cons_succ,List.setIfInBounds_toArray,List.set_cons_zero,List.set_cons_succ]
       refine wpAnyH_take (i:=16) (v:=.pointer (some ⟨R,t * 9,none⟩)) rfl (by kernel_rfl) (by kernel_rfl) (by kernel_rfl) (fun _ _ _ h=>h) (.inl ⟨rfl,fun w _=>by simp [execOp,go_sem,Addr.add,htl] <;> first | omega | (intro h; omega) | (intro h; simp [h])⟩) hS0 ?_
       simp only [Act.put,List.getElem_toArray,List.getElem_cons_zero,List.getElem_cons_succ,List.setIfInBounds_toArray,List.set_cons_zero,List.set_cons_succ]
       refine wpAnyH_take (i:=17) (v:=.pointer (some ⟨R,t * 9,none⟩)) rfl (by kernel_rfl) (by kernel_rfl) (by kernel_rfl) (fun _ _ _ h=>h) (.inl ⟨rfl,fun w _=>rfl⟩) hS0 ?_
       simp only [Act.put,List.getElem_toArray,List.getElem_cons_zero,List.getElem_cons_succ,List.setIfInBounds_toArray,List.set_cons_zero,List.set_cons_succ]
       refine wpAnyH_take (i:=18) (v:=.string (S y.pk.nm)) rfl (by kernel_rfl) (by kernel_rfl) (by kernel_rfl) (fun _ _ _ h=>h) (Held.load1 rfl 9 (.tmp 30) rfl R (t * 9) rfl _ _ CY0.out Tryz.underlying9 rfl) hS0 ?_
       simp only [Act.put,List.getElem_toArray,List.getElem_cons_zero,List.getElem_cons_succ,List.setIfInBounds_toArray,List.set_cons_zero,List.set_cons_succ]
       refine wpAnyH_take (i:=19) (v:=.pointer (some ⟨bx,0,none⟩)) rfl (by kernel_rfl) (by kernel_rfl) (by kernel_rfl) (fun _ _ _ h=>h) (.inl ⟨rfl,fun w _=>rfl⟩) hS0 ?_
       simp only [Act.put,List.getElem_toArray,List.getElem_cons_zero,List.getElem_cons_succ,List.setIfInBounds_toArray,List.set_cons_zero,List.set_cons_succ]
       refine wpAnyH_take (i:=20) (v:=.string (S x.pk.nm)) rfl (by kernel_rfl) (by kernel_rfl) (by kernel_rfl) (fun _ _ _ h=>h) (Held.load1 rfl 9 (.tmp 32) rfl bx 0 rfl _ _ CX0.out Tryz.underlying9 rfl) hS0 ?_
       simp only [Act.put,List.getElem_toArray,List.getElem_cons_zero,List.getElem_cons_succ,List.setIfInBounds_toArray,List.set_cons_zero,List.set_cons_succ]
       refine wpAnyH_all (rs:=[21]) (by kernel_rfl) (by simp) ?_
       intro i hi
       obtain rfl:=List.mem_singleton.1 hi
       refine Reg.wpOp_list rfl ?_
       go_wp2_with fail
       change _ ∧ _
       refine ⟨hS0,?_⟩
       refine wpAnyH_all (rs:=[22]) (by kernel_rfl) (by simp) ?_
       intro i hi
       obtain rfl:=List.mem_singleton.1 hi
       refine Reg.wpOp_list rfl ?_
       go_wp2_with fail
       change _ ∧ _
       refine ⟨hS0,?_⟩
       refine wpAnyH_take (i:=23) (v:=undef) rfl (by kernel_rfl) (by kernel_rfl) (by kernel_rfl) (fun _ _ _ h=>h) (.inr ⟨by kernel_rfl,rfl⟩) hS0 ?_
       simp only [Act.put,List.getElem_toArray,List.getElem_cons_zero,List.getElem_cons_succ,List.setIfInBounds_toArray,List.set_cons_zero,List.set_cons_succ]
       refine wpAnyH_take (i:=24) (v:=undef) rfl (by kernel_rfl) (by kernel_rfl) (by kernel_rfl) (fun _ _ _ h=>h) (.inr ⟨by kernel_rfl,rfl⟩) hS0 ?_
       simp only [Act.put,List.getElem_toArray,List.getElem_cons_zero,List.getElem_cons_succ,List.setIfInBounds_toArray,List.set_cons_zero,List.set_cons_succ]
       refine wpAnyH_take (i:=25) (v:=undef) rfl (by kernel_rfl) (by kernel_rfl) (by kernel_rfl) (fun _ _ _ h=>h) (.inr ⟨by kernel_rfl,rfl⟩) hS0 ?_
       simp only [Act.put,List.getElem_toArray,List.getElem_cons_zero,List.getElem_cons_succ,List.setIfInBounds_toArray,List.set_cons_zero,List.set_cons_succ]
       refine wpAnyH_take (i:=26) (v:=undef) rfl (by kernel_rfl) (by kernel_rfl) (by kernel_rfl) (fun _ _ _ h=>h) (.inr ⟨by kernel_rfl,rfl⟩) hS0 ?_
       simp only [Act.put,List.getElem_toArray,List.getElem_cons_zero,List.getElem_cons_succ,List.setIfInBounds_toArray,List.set_cons_zero,List.set_cons_succ]
       refine wpAnyH_take (i:=27) (v:=undef) rfl (by kernel_rfl) (by kernel_rfl) (by kernel_rfl) (fun _ _ _ h=>h) (.inr ⟨by kernel_rfl,rfl⟩) hS0 ?_
       simp only [Act.put,List.getElem_toArray,List.getElem_cons_zero,List.getElem_cons_succ,List.setIfInBounds_toArray,List.set_cons_zero,List.set_cons_succ]
       refine wpAnyH_take (i:=28) (v:=undef) rfl (by kernel_rfl) (by kernel_rfl) (by kernel_rfl) (fun _ _ _ h=>h) (.inr ⟨by kernel_rfl,rfl⟩) hS0 ?_
       simp only [Act.put,List.getElem_toArray,List.getElem_cons_zero,List.getElem_cons_succ,List.setIfInBounds_toArray,List.set_cons_zero,List.set_cons_succ]
       refine wpAnyH_take (i:=29) (v:=undef) rfl (by kernel_rfl) (by kernel_rfl) (by kernel_rfl) (fun _ _ _ h=>h) (.inr ⟨by kernel_rfl,rfl⟩) hS0 ?_
       simp only [Act.put,List.getElem_toArray,List.getElem_cons_zero,List.getElem_cons_succ,List.setIfInBounds_toArray,List.set_cons_zero,List.set_cons_succ]
       refine wpAnyH_take (i:=30) (v:=undef) rfl (by kernel_rfl) (by kernel_rfl) (by kernel_rfl) (fun _ _ _ h=>h) (.inr ⟨by kernel_rfl,rfl⟩) hS0 ?_
       simp only [Act.put,List.getElem_toArray,List.getElem_cons_zero,List.getElem_cons_succ,List.setIfInBounds_toArray,List.set_cons_zero,List.set_cons_succ]
       refine wpAnyH_take (i:=31) (v:=undef) rfl (by kernel_rfl) (by kernel_rfl) (by kernel_rfl) (fun _ _ _ h=>h) (.inr ⟨by kernel_rfl,rfl⟩) hS0 ?_
       simp only [Act.put,List.getElem_toArray,List.getElem_cons_zero,List.getElem_cons_succ,List.setIfInBounds_toArray,List.set_cons_zero,List.set_cons_succ]
       refine wpAnyH_all (rs:=[32]) (by kernel_rfl) (by simp) ?_
       intro i hi
       obtain rfl:=List.mem_singleton.1 hi
       refine Reg.wpOp_list rfl ?_
       go_wp2_with fail
       change _ ∧ _
       refine ⟨hS0,?_⟩
       refine wpAnyH_all (rs:=[33]) (by kernel_rfl) (by simp) ?_
       intro i hi
       obtain rfl:=List.mem_singleton.1 hi
       refine Reg.wpOp_list rfl ?_
       go_wp2_with fail
       change _ ∧ _
       refine ⟨hS0,?_⟩
       refine wpAnyH_all (rs:=[34]) (by kernel_rfl) (by simp) ?_
       intro i hi
       obtain rfl:=List.mem_singleton.1 hi
       refine Reg.wpOp_list rfl ?_
       go_wp2_with fail
       change _ ∧ _
       refine ⟨hS0,?_⟩
       refine wpAnyH_done (by kernel_rfl) ?_ _
       have B6:=Lib.hid hS0
       skip
       generalize u0 = wb at *
       go_upto_region 8 with fail
       have hbW:=HB3.out.trans (B6.out.mono HB3.out.size)
       have hob:=Own.owns_below HO3.out B6.out
       have hib:=Rl.is_on HI3.out B6.out
       have hle:t ≤ k:=by omega
       have h60:k ≤ 60000:=by omega
       obtain ⟨_,_,eo,hrc⟩:=Rl.own_shape hob
       simp only [Value.slice.injEq,true_and] at eo
       obtain ⟨hx9,rfl⟩:=eo
       clear hx9
       obtain ⟨vt,hrun,hslt⟩:=tail_slc hob HX.out.1 hle h60
       obtain ⟨HC,hHC⟩:∃ HC,(ds.take t).flatMap El.enc = HC:=⟨_,rfl⟩
       obtain ⟨TC,hTC⟩:∃ TC,(ds.drop t).flatMap El.enc = TC:=⟨_,rfl⟩
       have SH:Hid (∀ u,Below wb.heap.size wb u → Src Tryz.prog 9 22 (.slice (some ⟨R,0,none⟩) t rc) t HC u):=Lib.hid fun u hu=>by
        have h:=els_src (head_slc (Own.owns_below hob hu) HX.out.1 hle h60)
        rw [hHC,List.length_take,HX.out.1,Nat.min_eq_left hle] at h
        exact h
       have ST:Hid (∀ u,Below wb.heap.size wb u → Src Tryz.prog 9 22 vt (k - t) TC u):=Lib.hid fun u hu=>by
        have h:=els_src (hslt u hu)
        rw [hTC,List.length_drop,HX.out.1] at h
        exact h
       have KX:Hid (∀ u,Below wb.heap.size wb u → u.rangeAt bx 0 [.string (S x.pk.nm),.string (S x.pk.vs),.slice s1 m1 t1,.slice s2 m2 t2,.slice s3 m3 t3,.slice s4 m4 t4,.slice s5 m5 t5,.slice s6 m6 t6,.bool x.pk.ess]):=Lib.hid fun u hu=>range_of (Rl.is_on hib hu)
       have z9:(Tryz.prog.info? 40).map (·.size) = some 9:=by kernel_rfl
       have Z9:=Lib.hid z9
       have HEADH:=Lib.hid (fun w=>at_slice (w:=w) (slice_head (some ⟨R,0,none⟩) k rc t (by omega) w))
       have TAILH:=Lib.hid (fun w=>at_slice (hrun w))
       have BW:=Lib.hid hbW
       have HHC:=Lib.hid hHC
       have HTC:=Lib.hid hTC
       have INS:=Lib.hid (ins_els HXX.out HX.out.1 HX.out.2.1 HX.out.2.2 HXM.out HNA.out)
       obtain ⟨i0,hi0,hz0,hz1,hz2⟩:=info_parts Rc.infoPk
       have HI0:=Lib.hid hi0
       clear hbW hob hib hrun hslt hHC hTC z9 hi0
       refine wp_region_held (S:=fun u=>Below wb.heap.size wb u) (by kernel_rfl) ?_
       have hS0:Below wb.heap.size wb wb.drew:=(Below.refl _ _).drew
       change wpAnyH _ _ _ _ _ 12 _ _ wb.drew
       generalize wb.drew = u0 at *
       refine wpAnyH_take (i:=0) (v:=.slice (some ⟨R,0,none⟩) k rc) rfl (by kernel_rfl) (by kernel_rfl) (by kernel_rfl) (fun _ _ _ h=>h) (.inl ⟨rfl,fun w _=>rfl⟩) hS0 ?_
       simp only [Act.put,List.getElem_toArray,List.getElem_cons_zero,List.getElem_cons_succ,List.setIfInBounds_toArray,List.set_cons_zero,List.set_cons_succ]
       refine wpAnyH_take (i:=1) (v:=.int .i64 t) rfl (by kernel_rfl) (by kernel_rfl) (by kernel_rfl) (fun _ _ _ h=>h) (.inl ⟨rfl,fun w _=>rfl⟩) hS0 ?_
       simp only [Act.put,List.getElem_toArray,List.getElem_cons_zero,List.getElem_cons_succ,List.setIfInBounds_toArray,List.set_cons_zero,List.set_cons_succ]
       refine wpAnyH_take (i:=7) (v:=.slice (some ⟨R,0,none⟩) k rc) rfl (by kernel_rfl) (by kernel_rfl) (by kernel_rfl) (fun _ _ _ h=>h) (.inl ⟨rfl,fun w _=>rfl⟩) hS0 ?_
       simp only [Act.put,List.getElem_toArray,List.getElem_cons_zero,List.getElem_cons_succ,List.setIfInBounds_toArray,List.set_cons_zero,List.set_cons_succ]
       refine wpAnyH_take (i:=8) (v:=.int .i64 t) rfl (by kernel_rfl) (by kernel_rfl) (by kernel_rfl) (fun _ _ _ h=>h) (.inl ⟨rfl,fun w _=>rfl⟩) hS0 ?_
       simp only [Act.put,List.getElem_toArray,List.getElem_cons_zero,List.getElem_cons_succ,List.setIfInBounds_toArray,List.set_cons_zero,List.set_cons_succ]
       refine wpAnyH_take (i:=2) (v:=.slice (some ⟨R,0,none⟩) t rc) rfl (by kernel_rfl) (by kernel_rfl) (by kernel_rfl) (fun _ _ _ h=>h) (.inl ⟨rfl,fun w _=>by simp [execOp]; erw [HEADH.out w]; rfl⟩) hS0 ?_
       simp only [Act.put,List.getElem_toArray,List.getElem_cons_zero,List.getElem_cons_succ,List.setIfInBounds_toArray,List.set_cons_zero,List.set_cons_succ]
       refine wpAnyH_take (i:=9) (v:=vt) rfl (by kernel_rfl) (by kernel_rfl) (by kernel_rfl) (fun _ _ _ h=>h) (.inl ⟨rfl,fun w _=>by simp [execOp]; erw [TAILH.out w]; rfl⟩) hS0 ?_
       simp only [Act.put,List.getElem_toArray,List.getElem_cons_zero,List.getElem_cons_succ,List.setIfInBounds_toArray,List.set_cons_zero,List.set_cons_succ]
       refine wpAnyH_take (i:=4) (v:=.agg [.string (S x.pk.nm),.string (S x.pk.vs),.slice s1 m1 t1,.slice s2 m2 t2,.slice s3 m3 t3,.slice s4 m4 t4,.slice s5 m5 t5,.slice s6 m6 t6,.bool x.pk.ess].toArray) rfl (by kernel_rfl) (by kernel_rfl) (by kernel_rfl) (fun _ _ _ h=>h) (yieldsIf_load_mid rfl 40 (.tmp 5) rfl bx 0 rfl _ _ KX.out Tryz.underlying40 rfl Z9.out) hS0 ?_
       simp only [Act.put,List.getElem_toArray,List.getElem_cons_zero,List.getElem_cons_succ,List.setIfInBounds_toArray,List.set_cons_zero,List.set_cons_succ]
       refine wpAnyH_all (rs:=[3,5]) (by kernel_rfl) (by simp) ?_
       intro i hi
       simp only [List.mem_cons,List.not_mem_nil,or_false] at hi
       rcases hi with rfl | rfl
       ·have hz:=hS0.size
        refine Reg.wpOp_list rfl ?_
        (refine Own.wpList_append_src rfl (.const (.slice none 0 0)) (.tmp 52) 22 22 rfl wb.heap.size 40 i0 _ 9 184 Tryz.underlying22 HI0.out hz0 hz1 hz2 rfl _ 0 [] rfl (World.ownsRow_nil _ _ _ _) _ t HC rfl (SH.out _ hS0) (by simp only [maxLen]; omega) (by omega) hz ?_; intro v3 u1 o3 g3)
        go_wp2_with fail
        change _ ∧ _
        have hS1:Below wb.heap.size wb u1:=Own.below_grown hS0 (World.ownsRow_nil u0 wb.heap.size 40 9) g3 hz
        rw [Nat.zero_add,List.nil_append] at o3
        have O3:=Lib.hid o3
        refine ⟨hS1,?_⟩
        clear o3 g3 hz
        have hba:=(Below.refl u1.heap.size u1).alloc (Nat.le_refl _) (.cells #[.string (S x.pk.nm),.string (S x.pk.vs),.slice s1 m1 t1,.slice s2 m2 t2,.slice s3 m3 t3,.slice s4 m4 t4,.slice s5 m5 t5,.slice s6 m6 t6,.bool x.pk.ess] 40)
        have ia5:=Blk.Is.new u1 40 #[.string (S x.pk.nm),.string (S x.pk.vs),.slice s1 m1 t1,.slice s2 m2 t2,.slice s3 m3 t3,.slice s4 m4 t4,.slice s5 m5 t5,.slice s6 m6 t6,.bool x.pk.ess]
        obtain ⟨u2,hu2⟩:∃ u2,u1.alloc (.cells #[.string (S x.pk.nm),.string (S x.pk.vs),.slice s1 m1 t1,.slice s2 m2 t2,.slice s3 m3 t3,.slice s4 m4 t4,.slice s5 m5 t5,.slice s6 m6 t6,.bool x.pk.ess] 40) = u2:=⟨_,rfl⟩
        rw [hu2] at hba ia5
        have hS2:Below wb.heap.size wb u2:=hS1.trans (hba.mono hS1.size)
        have I5:=Lib.hid ia5
        obtain ⟨b5,hb5⟩:∃ b5,u1.heap.size = b5:=⟨_,rfl⟩
        rw [hb5] at I5
        have O3':=Lib.hid (Own.owns_below O3.out hba)
        clear O3
        have O3:=O3'
        clear O3'
        refine wpAnyH_all (rs:=[5]) (by kernel_rfl) (by simp) ?_
        intro i hi
        obtain rfl:=List.mem_singleton.1 hi
        refine Reg.wpOp_list rfl ?_
        go_wp2_with fail
        change _ ∧ _
        refine ⟨hS2,?_⟩
        clear hu2 hba ia5 hb5
        refine wpAnyH_all (rs:=[6]) (by kernel_rfl) (by simp) ?_
        intro i hi
        obtain rfl:=List.mem_singleton.1 hi
        have hz:=hS2.size
        have h70:t + 1 ≤ 70000:=by omega
        refine Reg.wpOp_list rfl ?_
        (refine append_pk rfl (.tmp 53) (.tmp 55) rfl wb.heap.size v3 t HC rfl O3.out b5 1 rfl [.string (S x.pk.nm),.string (S x.pk.vs),.slice s1 m1 t1,.slice s2 m2 t2,.slice s3 m3 t3,.slice s4 m4 t4,.slice s5 m5 t5,.slice s6 m6 t6,.bool x.pk.ess] rfl (fun j u hj=>I5.out.at (by rw [← Array.getElem?_toList]; exact hj)) (fun u hu=>by simp only [List.mem_cons,List.not_mem_nil,or_false] at hu; rcases hu with rfl | rfl | rfl | rfl | rfl | rfl | rfl | rfl | rfl <;> rfl) h70 hz ?_; intro v6 u3 o6 g6)
        go_wp2_with fail
        change _ ∧ _
        have hS3:Below wb.heap.size wb u3:=Own.below_grown hS2 O3.out g6 hz
        have O6:=Lib.hid o6
        refine ⟨hS3,?_⟩
        clear o6 g6 hz O3 I5
        refine wpAnyH_all (rs:=[10]) (by kernel_rfl) (by simp) ?_
        intro i hi
        obtain rfl:=List.mem_singleton.1 hi
        have hz:=hS3.size
        refine Reg.wpOp_list rfl ?_
        (refine Own.wpList_append_src rfl (.tmp 56) (.tmp 59) 22 22 rfl wb.heap.size 40 i0 _ 9 184 Tryz.underlying22 HI0.out hz0 hz1 hz2 rfl v6 (t + 1) (HC ++ [.string (S x.pk.nm),.string (S x.pk.vs),.slice s1 m1 t1,.slice s2 m2 t2,.slice s3 m3 t3,.slice s4 m4 t4,.slice s5 m5 t5,.slice s6 m6 t6,.bool x.pk.ess]) rfl O6.out vt (k - t) TC rfl (ST.out _ hS3) (by simp only [maxLen]; omega) (by omega) hz ?_; intro v10 u4 o10 g10)
        go_wp2_with fail
        change _ ∧ _
        have hS4:Below wb.heap.size wb u4:=Own.below_grown hS3 O6.out g10 hz
        rw [show t + 1 + (k - t) = k + 1 by omega] at o10
        obtain ⟨a10,c10,rfl,_⟩:=Rl.own_shape o10
        have O10:=Lib.hid o10
        refine ⟨hS4,?_⟩
        clear o10 g10 hz O6
        refine wpAnyH_all (rs:=[11]) (by kernel_rfl) (by simp) ?_
        intro i hi
        obtain rfl:=List.mem_singleton.1 hi
        refine Reg.wpOp_list rfl ?_
        go_wp2_with fail
        change _ ∧ _
        refine ⟨hS4,?_⟩
        refine wpAnyH_done (by kernel_rfl) ?_ _
        have hbz:=BW.out.trans (hS4.mono BW.out.size)
        have hfin:=Rl.own_mono O10.out BW.out.size
        have hcat:(HC ++ [.string (S x.pk.nm),.string (S x.pk.vs),.slice s1 m1 t1,.slice s2 m2 t2,.slice s3 m3 t3,.slice s4 m4 t4,.slice s5 m5 t5,.slice s6 m6 t6,.bool x.pk.ess]) ++ TC = (ds.take t ++ [x] ++ ds.drop t).flatMap El.enc:=by
         rw [List.flatMap_append,List.flatMap_append,HHC.out,HTC.out,← HENC.out]
         simp
        rw [hcat] at hfin
        have HFIN:=Lib.hid hfin
        have BZ:=Lib.hid hbz
        clear hS0 hS1 hS2 hS3 hS4 hbz hfin hcat
        go_wp2_with fail
        go_roundg g'
        case measure=>omega
        case rel=>exact ⟨k + 1,a10,c10,ds.take t ++ [x] ++ ds.drop t,rfl,by go_num,HFIN,INS,BZ,by omega,by omega⟩
       ·have hba:=(Below.refl u0.heap.size u0).alloc (Nat.le_refl _) (.cells #[.string (S x.pk.nm),.string (S x.pk.vs),.slice s1 m1 t1,.slice s2 m2 t2,.slice s3 m3 t3,.slice s4 m4 t4,.slice s5 m5 t5,.slice s6 m6 t6,.bool x.pk.ess] 40)
        have ia5:=Blk.Is.new u0 40 #[.string (S x.pk.nm),.string (S x.pk.vs),.slice s1 m1 t1,.slice s2 m2 t2,.slice s3 m3 t3,.slice s4 m4 t4,.slice s5 m5 t5,.slice s6 m6 t6,.bool x.pk.ess]
        obtain ⟨u1,hu1⟩:∃ u1,u0.alloc (.cells #[.string (S x.pk.nm),.string (S x.pk.vs),.slice s1 m1 t1,.slice s2 m2 t2,.slice s3 m3 t3,.slice s4 m4 t4,.slice s5 m5 t5,.slice s6 m6 t6,.bool x.pk.ess] 40) = u1:=⟨_,rfl⟩
        rw [hu1] at hba ia5
        have hS1:Below wb.heap.size wb u1:=hS0.trans (hba.mono hS0.size)
        have I5:=Lib.hid ia5
        obtain ⟨b5,hb5⟩:∃ b5,u0.heap.size = b5:=⟨_,rfl⟩
        rw [hb5] at I5
        refine Reg.wpOp_list rfl ?_
        go_wp2_with fail
        change _ ∧ _
        refine ⟨hS1,?_⟩
        clear hu1 hba ia5 hb5
        refine wpAnyH_all (rs:=[3]) (by kernel_rfl) (by simp) ?_
        intro i hi
        obtain rfl:=List.mem_singleton.1 hi
        have hz:=hS1.size
        refine Reg.wpOp_list rfl ?_
        (refine Own.wpList_append_src rfl (.const (.slice none 0 0)) (.tmp 52) 22 22 rfl wb.heap.size 40 i0 _ 9 184 Tryz.underlying22 HI0.out hz0 hz1 hz2 rfl _ 0 [] rfl (World.ownsRow_nil _ _ _ _) _ t HC rfl (SH.out _ hS1) (by simp only [maxLen]; omega) (by omega) hz ?_; intro v3 u2 o3 g3)
        go_wp2_with fail
        change _ ∧ _
        have hS2:Below wb.heap.size wb u2:=Own.below_grown hS1 (World.ownsRow_nil u1 wb.heap.size 40 9) g3 hz
        rw [Nat.zero_add,List.nil_append] at o3
        have O3:=Lib.hid o3
        have I5':=Rl.is_on I5.out (Own.below_grown (Below.refl u1.heap.size u1) (World.ownsRow_nil u1 u1.heap.size 40 9) g3 (Nat.le_refl _))
        clear I5
        have I5:=Lib.hid I5'
        refine ⟨hS2,?_⟩
        clear o3 g3 hz
        refine wpAnyH_all (rs:=[6]) (by kernel_rfl) (by simp) ?_
        intro i hi
        obtain rfl:=List.mem_singleton.1 hi
        have hz:=hS2.size
        have h70:t + 1 ≤ 70000:=by omega
        refine Reg.wpOp_list rfl ?_
        (refine append_pk rfl (.tmp 53) (.tmp 55) rfl wb.heap.size v3 t HC rfl O3.out b5 1 rfl [.string (S x.pk.nm),.string (S x.pk.vs),.slice s1 m1 t1,.slice s2 m2 t2,.slice s3 m3 t3,.slice s4 m4 t4,.slice s5 m5 t5,.slice s6 m6 t6,.bool x.pk.ess] rfl (fun j u hj=>I5.out.at (by rw [← Array.getElem?_toList]; exact hj)) (fun u hu=>by simp only [List.mem_cons,List.not_mem_nil,or_false] at hu; rcases hu with rfl | rfl | rfl | rfl | rfl | rfl | rfl | rfl | rfl <;> rfl) h70 hz ?_; intro v6 u3 o6 g6)
        go_wp2_with fail
        change _ ∧ _
        have hS3:Below wb.heap.size wb u3:=Own.below_grown hS2 O3.out g6 hz
        have O6:=Lib.hid o6
        refine ⟨hS3,?_⟩
        clear o6 g6 hz O3 I5
        refine wpAnyH_all (rs:=[10]) (by kernel_rfl) (by simp) ?_
        intro i hi
        obtain rfl:=List.mem_singleton.1 hi
        have hz:=hS3.size
        refine Reg.wpOp_list rfl ?_
        (refine Own.wpList_append_src rfl (.tmp 56) (.tmp 59) 22 22 rfl wb.heap.size 40 i0 _ 9 184 Tryz.underlying22 HI0.out hz0 hz1 hz2 rfl v6 (t + 1) (HC ++ [.string (S x.pk.nm),.string (S x.pk.vs),.slice s1 m1 t1,.slice s2 m2 t2,.slice s3 m3 t3,.slice s4 m4 t4,.slice s5 m5 t5,.slice s6 m6 t6,.bool x.pk.ess]) rfl O6.out vt (k - t) TC rfl (ST.out _ hS3) (by simp only [maxLen]; omega) (by omega) hz ?_; intro v10 u4 o10 g10)
        go_wp2_with fail
        change _ ∧ _
        have hS4:Below wb.heap.size wb u4:=Own.below_grown hS3 O6.out g10 hz
        rw [show t + 1 + (k - t) = k + 1 by omega] at o10
        obtain ⟨a10,c10,rfl,_⟩:=Rl.own_shape o10
        have O10:=Lib.hid o10
        refine ⟨hS4,?_⟩
        clear o10 g10 hz O6
        refine wpAnyH_all (rs:=[11]) (by kernel_rfl) (by simp) ?_
        intro i hi
        obtain rfl:=List.mem_singleton.1 hi
        refine Reg.wpOp_list rfl ?_
        go_wp2_with fail
        change _ ∧ _
        refine ⟨hS4,?_⟩
        refine wpAnyH_done (by kernel_rfl) ?_ _
        have hbz:=BW.out.trans (hS4.mono BW.out.size)
        have hfin:=Rl.own_mono O10.out BW.out.size
        have hcat:(HC ++ [.string (S x.pk.nm),.string (S x.pk.vs),.slice s1 m1 t1,.slice s2 m2 t2,.slice s3 m3 t3,.slice s4 m4 t4,.slice s5 m5 t5,.slice s6 m6 t6,.bool x.pk.ess]) ++ TC = (ds.take t ++ [x] ++ ds.drop t).flatMap El.enc:=by
         rw [List.flatMap_append,List.flatMap_append,HHC.out,HTC.out,← HENC.out]
         simp
        rw [hcat] at hfin
        have HFIN:=Lib.hid hfin
        have BZ:=Lib.hid hbz
        clear hS0 hS1 hS2 hS3 hS4 hbz hfin hcat
        go_wp2_with fail
        go_roundg g'
        case measure=>omega
        case rel=>exact ⟨k + 1,a10,c10,ds.take t ++ [x] ++ ds.drop t,rfl,by go_num,HFIN,INS,BZ,by omega,by omega⟩
    ·obtain rfl:t = k:=by omega
     have hge:¬ (t:Int) < (t:Int):=by omega
     have HNA:Hid (slot x.pk (ds.map El.pk) = t):=slot_end HX.out.1 HE.out
     go_upto_region 6 with fail
     refine wp_region_held (S:=fun u=>Below wr.heap.size wr u) (by kernel_rfl) ?_
     have hS0:Below wr.heap.size wr wr.drew:=(Below.refl _ _).drew
     change wpAnyH _ _ _ _ _ 35 _ _ wr.drew
     generalize wr.drew = u0 at *
     refine wpAnyH_take (i:=0) (v:=.int .i64 t) rfl (by kernel_rfl) (by kernel_rfl) (by kernel_rfl) (fun _ _ _ h=>h) (.inl ⟨rfl,fun w _=>rfl⟩) hS0 ?_
     simp only [Act.put,List.getElem_toArray,List.getElem_cons_zero,List.getElem_cons_succ,List.setIfInBounds_toArray,List.set_cons_zero,List.set_cons_succ]
     refine wpAnyH_take (i:=1) (v:=.slice ra t rc) rfl (by kernel_rfl) (by kernel_rfl) (by kernel_rfl) (fun _ _ _ h=>h) (.inl ⟨rfl,fun w _=>rfl⟩) hS0 ?_
     simp only [Act.put,List.getElem_toArray,List.getElem_cons_zero,List.getElem_cons_succ,List.setIfInBounds_toArray,List.set_cons_zero,List.set_cons_succ]
     refine wpAnyH_all (rs:=[2]) (by kernel_rfl) (by simp) ?_
     intro i hi
     obtain rfl:=List.mem_singleton.1 hi
     refine Reg.wpOp_list rfl ?_
     go_wp2_with fail
     change _ ∧ _
     refine ⟨hS0,?_⟩
     refine wpAnyH_all (rs:=[3]) (by kernel_rfl) (by simp) ?_
     intro i hi
     obtain rfl:=List.mem_singleton.1 hi
     refine Reg.wpOp_list rfl ?_
     go_wp2_with fail
     change _ ∧ _
     refine ⟨hS0,?_⟩
     refine wpAnyH_all (rs:=[4]) (by kernel_rfl) (by simp) ?_
     intro i hi
     obtain rfl:=List.mem_singleton.1 hi
     refine Reg.wpOp_list rfl ?_
     go_wp2_with fail
     change _ ∧ _
     refine ⟨hS0,?_⟩
     refine wpAnyH_take (i:=5) (v:=undef) rfl (by kernel_rfl) (by kernel_rfl) (by kernel_rfl) (fun _ _ _ h=>h) (.inr ⟨by kernel_rfl,rfl⟩) hS0 ?_
     simp only [Act.put,List.getElem_toArray,List.getElem_cons_zero,List.getElem_cons_succ,List.setIfInBounds_toArray,List.set_cons_zero,List.set_cons_succ]
     refine wpAnyH_take (i:=6) (v:=undef) rfl (by kernel_rfl) (by kernel_rfl) (by kernel_rfl) (fun _ _ _ h=>h) (.inr ⟨by kernel_rfl,rfl⟩) hS0 ?_
     simp only [Act.put,List.getElem_toArray,List.getElem_cons_zero,List.getElem_cons_succ,List.setIfInBounds_toArray,List.set_cons_zero,List.set_cons_succ]
     refine wpAnyH_take (i:=7) (v:=undef) rfl (by kernel_rfl) (by kernel_rfl) (by kernel_rfl) (fun _ _ _ h=>h) (.inr ⟨by kernel_rfl,rfl⟩) hS0 ?_
     simp only [Act.put,List.getElem_toArray,List.getElem_cons_zero,List.getElem_cons_succ,List.setIfInBounds_toArray,List.set_cons_zero,List.set_cons_succ]
     refine wpAnyH_take (i:=8) (v:=undef) rfl (by kernel_rfl) (by kernel_rfl) (by kernel_rfl) (fun _ _ _ h=>h) (.inr ⟨by kernel_rfl,rfl⟩) hS0 ?_
     simp only [Act.put,List.getElem_toArray,List.getElem_cons_zero,List.getElem_cons_succ,List.setIfInBounds_toArray,List.set_cons_zero,List.set_cons_succ]
     refine wpAnyH_take (i:=9) (v:=undef) rfl (by kernel_rfl) (by kernel_rfl) (by kernel_rfl) (fun _ _ _ h=>h) (.inr ⟨by kernel_rfl,rfl⟩) hS0 ?_
     simp only [Act.put,List.getElem_toArray,List.getElem_cons_zero,List.getElem_cons_succ,List.setIfInBounds_toArray,List.set_cons_zero,List.set_cons_succ]
     refine wpAnyH_take (i:=10) (v:=undef) rfl (by kernel_rfl) (by kernel_rfl) (by kernel_rfl) (fun _ _ _ h=>h) (.inr ⟨by kernel_rfl,rfl⟩) hS0 ?_
     simp only [Act.put,List.getElem_toArray,List.getElem_cons_zero,List.getElem_cons_succ,List.setIfInBounds_toArray,List.set_cons_zero,List.set_cons_succ]
     refine wpAnyH_take (i:=11) (v:=undef) rfl (by kernel_rfl) (by kernel_rfl) (by kernel_rfl) (fun _ _ _ h=>h) (.inr ⟨by kernel_rfl,rfl⟩) hS0 ?_
     simp only [Act.put,List.getElem_toArray,List.getElem_cons_zero,List.getElem_cons_succ,List.setIfInBounds_toArray,List.set_cons_zero,List.set_cons_succ]
     refine wpAnyH_take (i:=12) (v:=undef) rfl (by kernel_rfl) (by kernel_rfl) (by kernel_rfl) (fun _ _ _ h=>h) (.inr ⟨by kernel_rfl,rfl⟩) hS0 ?_
     simp only [Act.put,List.getElem_toArray,List.getElem_cons_zero,List.getElem_cons_succ,List.setIfInBounds_toArray,List.set_cons_zero,List.set_cons_succ]
     refine wpAnyH_take (i:=13) (v:=undef) rfl (by kernel_rfl) (by kernel_rfl) (by kernel_rfl) (fun _ _ _ h=>h) (.inr ⟨by kernel_rfl,rfl⟩) hS0 ?_
     simp only [Act.put,List.getElem_toArray,List.getElem_cons_zero,List.getElem_cons_succ,List.setIfInBounds_toArray,List.set_cons_zero,List.set_cons_succ]
     refine wpAnyH_take (i:=14) (v:=undef) rfl (by kernel_rfl) (by kernel_rfl) (by kernel_rfl) (fun _ _ _ h=>h) (.inr ⟨by kernel_rfl,rfl⟩) hS0 ?_
     simp only [Act.put,List.getElem_toArray,List.getElem_cons_zero,List.getElem_cons_succ,List.setIfInBounds_toArray,List.set_cons_zero,List.set_cons_succ]
     refine wpAnyH_take (i:=15) (v:=undef) rfl (by kernel_rfl) (by kernel_rfl) (by kernel_rfl) (fun _ _ _ h=>h) (.inr ⟨by kernel_rfl,rfl⟩) hS0 ?_
     simp only [Act.put,List.getElem_toArray,List.getElem_cons_zero,List.getElem_cons_succ,List.setIfInBounds_toArray,List.set_cons_zero,List.set_cons_succ]
     refine wpAnyH_take (i:=16) (v:=undef) rfl (by kernel_rfl) (by kernel_rfl) (by kernel_rfl) (fun _ _ _ h=>h) (.inr ⟨by kernel_rfl,rfl⟩) hS0 ?_
     simp only [Act.put,List.getElem_toArray,List.getElem_cons_zero,List.getElem_cons_succ,List.setIfInBounds_toArray,List.set_cons_zero,List.set_cons_succ]
     refine wpAnyH_take (i:=17) (v:=undef) rfl (by kernel_rfl) (by kernel_rfl) (by kernel_rfl) (fun _ _ _ h=>h) (.inr ⟨by kernel_rfl,rfl⟩) hS0 ?_
     simp only [Act.put,List.getElem_toArray,List.getElem_cons_zero,List.getElem_cons_succ,List.setIfInBounds_toArray,List.set_cons_zero,List.set_cons_succ]
     refine wpAnyH_take (i:=18) (v:=undef) rfl (by kernel_rfl) (by kernel_rfl) (by kernel_rfl) (fun _ _ _ h=>h) (.inr ⟨by kernel_rfl,rfl⟩) hS0 ?_
     simp only [Act.put,List.getElem_toArray,List.getElem_cons_zero,List.getElem_cons_succ,List.setIfInBounds_toArray,List.set_cons_zero,List.set_cons_succ]
     refine wpAnyH_take (i:=19) (v:=undef) rfl (by kernel_rfl) (by kernel_rfl) (by kernel_rfl) (fun _ _ _ h=>h) (.inr ⟨by kernel_rfl,rfl⟩) hS0 ?_
     simp only [Act.put,List.getElem_toArray,List.getElem_cons_zero,List.getElem_cons_succ,List.setIfInBounds_toArray,List.set_cons_zero,List.set_cons_succ]
     refine wpAnyH_take (i:=20) (v:=undef) rfl (by kernel_rfl) (by kernel_rfl) (by kernel_rfl) (fun _ _ _ h=>h) (.inr ⟨by kernel_rfl,rfl⟩) hS0 ?_
     simp only [Act.put,List.getElem_toArray,List.getElem_cons_zero,List.getElem_cons_succ,List.setIfInBounds_toArray,List.set_cons_zero,List.set_cons_succ]
     refine wpAnyH_take (i:=21) (v:=undef) rfl (by kernel_rfl) (by kernel_rfl) (by kernel_rfl) (fun _ _ _ h=>h) (.inr ⟨by kernel_rfl,rfl⟩) hS0 ?_
     simp only [Act.put,List.getElem_toArray,List.getElem_cons_zero,List.getElem_cons_succ,List.setIfInBounds_toArray,List.set_cons_zero,List.set_cons_succ]
     refine wpAnyH_take (i:=22) (v:=undef) rfl (by kernel_rfl) (by kernel_rfl) (by kernel_rfl) (fun _ _ _ h=>h) (.inr ⟨by kernel_rfl,rfl⟩) hS0 ?_
     simp only [Act.put,List.getElem_toArray,List.getElem_cons_zero,List.getElem_cons_succ,List.setIfInBounds_toArray,List.set_cons_zero,List.set_cons_succ]
     refine wpAnyH_take (i:=23) (v:=undef) rfl (by kernel_rfl) (by kernel_rfl) (by kernel_rfl) (fun _ _ _ h=>h) (.inr ⟨by kernel_rfl,rfl⟩) hS0 ?_
     simp only [Act.put,List.getElem_toArray,List.getElem_cons_zero,List.getElem_cons_succ,List.setIfInBounds_toArray,List.set_cons_zero,List.set_cons_succ]
     refine wpAnyH_take (i:=24) (v:=undef) rfl (by kernel_rfl) (by kernel_rfl) (by kernel_rfl) (fun _ _ _ h=>h) (.inr ⟨by kernel_rfl,rfl⟩) hS0 ?_
     simp only [Act.put,List.getElem_toArray,List.getElem_cons_zero,List.getElem_cons_succ,List.setIfInBounds_toArray,List.set_cons_zero,List.set_cons_succ]
     refine wpAnyH_take (i:=25) (v:=undef) rfl (by kernel_rfl) (by kernel_rfl) (by kernel_rfl) (fun _ _ _ h=>h) (.inr ⟨by kernel_rfl,rfl⟩) hS0 ?_
     simp only [Act.put,List.getElem_toArray,List.getElem_cons_zero,List.getElem_cons_succ,List.setIfInBounds_toArray,List.set_cons_zero,List.set_cons_succ]
     refine wpAnyH_take (i:=26) (v:=undef) rfl (by kernel_rfl) (by kernel_rfl) (by kernel_rfl) (fun _ _ _ h=>h) (.inr ⟨by kernel_rfl,rfl⟩) hS0 ?_
     simp only [Act.put,List.getElem_toArray,List.getElem_cons_zero,List.getElem_cons_succ,List.setIfInBounds_toArray,List.set_cons_zero,List.set_cons_succ]
     refine wpAnyH_take (i:=27) (v:=undef) rfl (by kernel_rfl) (by kernel_rfl) (by kernel_rfl) (fun _ _ _ h=>h) (.inr ⟨by kernel_rfl,rfl⟩) hS0 ?_
     simp only [Act.put,List.getElem_toArray,List.getElem_cons_zero,List.getElem_cons_succ,List.setIfInBounds_toArray,List.set_cons_zero,List.set_cons_succ]
     refine wpAnyH_take (i:=28) (v:=undef) rfl (by kernel_rfl) (by kernel_rfl) (by kernel_rfl) (fun _ _ _ h=>h) (.inr ⟨by kernel_rfl,rfl⟩) hS0 ?_
     simp only [Act.put,List.getElem_toArray,List.getElem_cons_zero,List.getElem_cons_succ,List.setIfInBounds_toArray,List.set_cons_zero,List.set_cons_succ]
     refine wpAnyH_take (i:=29) (v:=undef) rfl (by kernel_rfl) (by kernel_rfl) (by kernel_rfl) (fun _ _ _ h=>h) (.inr ⟨by kernel_rfl,rfl⟩) hS0 ?_
     simp only [Act.put,List.getElem_toArray,List.getElem_cons_zero,List.getElem_cons_succ,List.setIfInBounds_toArray,List.set_cons_zero,List.set_cons_succ]
     refine wpAnyH_take (i:=30) (v:=undef) rfl (by kernel_rfl) (by kernel_rfl) (by kernel_rfl) (fun _ _ _ h=>h) (.inr ⟨by kernel_rfl,rfl⟩) hS0 ?_
     simp only [Act.put,List.getElem_toArray,List.getElem_cons_zero,List.getElem_cons_succ,List.setIfInBounds_toArray,List.set_cons_zero,List.set_cons_succ]
     refine wpAnyH_take (i:=31) (v:=undef) rfl (by kernel_rfl) (by kernel_rfl) (by kernel_rfl) (fun _ _ _ h=>h) (.inr ⟨by kernel_rfl,rfl⟩) hS0 ?_
     simp only [Act.put,List.getElem_toArray,List.getElem_cons_zero,List.getElem_cons_succ,List.setIfInBounds_toArray,List.set_cons_zero,List.set_cons_succ]
     refine wpAnyH_take (i:=32) (v:=undef) rfl (by kernel_rfl) (by kernel_rfl) (by kernel_rfl) (fun _ _ _ h=>h) (.inr ⟨by kernel_rfl,rfl⟩) hS0 ?_
     simp only [Act.put,List.getElem_toArray,List.getElem_cons_zero,List.getElem_cons_succ,List.setIfInBounds_toArray,List.set_cons_zero,List.set_cons_succ]
     refine wpAnyH_take (i:=33) (v:=undef) rfl (by kernel_rfl) (by kernel_rfl) (by kernel_rfl) (fun _ _ _ h=>h) (.inr ⟨by kernel_rfl,rfl⟩) hS0 ?_
     simp only [Act.put,List.getElem_toArray,List.getElem_cons_zero,List.getElem_cons_succ,List.setIfInBounds_toArray,List.set_cons_zero,List.set_cons_succ]
     refine wpAnyH_all (rs:=[34]) (by kernel_rfl) (by simp) ?_
     intro i hi
     obtain rfl:=List.mem_singleton.1 hi
     refine Reg.wpOp_list rfl ?_
     go_wp2_with fail
     change _ ∧ _
     refine ⟨hS0,?_⟩
     refine wpAnyH_done (by kernel_rfl) ?_ _
     have B6:=Lib.hid hS0
     skip
     generalize u0 = wb at *
     go_upto_region 8 with fail
     have hbW:=HB3.out.trans (B6.out.mono HB3.out.size)
     have hob:=Own.owns_below HO3.out B6.out
     have hib:=Rl.is_on HI3.out B6.out
     have hle:t ≤ t:=by omega
     have h60:t ≤ 60000:=by omega
     obtain ⟨_,_,eo,hrc⟩:=Rl.own_shape hob
     simp only [Value.slice.injEq,true_and] at eo
     obtain ⟨hx9,rfl⟩:=eo
     clear hx9
     obtain ⟨vt,hrun,hslt⟩:=tail_slc hob HX.out.1 hle h60
     obtain ⟨HC,hHC⟩:∃ HC,(ds.take t).flatMap El.enc = HC:=⟨_,rfl⟩
     obtain ⟨TC,hTC⟩:∃ TC,(ds.drop t).flatMap El.enc = TC:=⟨_,rfl⟩
     have SH:Hid (∀ u,Below wb.heap.size wb u → Src Tryz.prog 9 22 (.slice ra t rc) t HC u):=Lib.hid fun u hu=>by
      have h:=els_src (head_slc (Own.owns_below hob hu) HX.out.1 hle h60)
      rw [hHC,List.length_take,HX.out.1,Nat.min_eq_left hle] at h
      exact h
     have ST:Hid (∀ u,Below wb.heap.size wb u → Src Tryz.prog 9 22 vt (t - t) TC u):=Lib.hid fun u hu=>by
      have h:=els_src (hslt u hu)
      rw [hTC,List.length_drop,HX.out.1] at h
      exact h
     have KX:Hid (∀ u,Below wb.heap.size wb u → u.rangeAt bx 0 [.string (S x.pk.nm),.string (S x.pk.vs),.slice s1 m1 t1,.slice s2 m2 t2,.slice s3 m3 t3,.slice s4 m4 t4,.slice s5 m5 t5,.slice s6 m6 t6,.bool x.pk.ess]):=Lib.hid fun u hu=>range_of (Rl.is_on hib hu)
     have z9:(Tryz.prog.info? 40).map (·.size) = some 9:=by kernel_rfl
     have Z9:=Lib.hid z9
     have HEADH:=Lib.hid (fun w=>at_slice (w:=w) (slice_head ra t rc t (by omega) w))
     have TAILH:=Lib.hid (fun w=>at_slice (hrun w))
     have BW:=Lib.hid hbW
     have HHC:=Lib.hid hHC
     have HTC:=Lib.hid hTC
     have INS:=Lib.hid (ins_els HXX.out HX.out.1 HX.out.2.1 HX.out.2.2 HXM.out HNA.out)
     obtain ⟨i0,hi0,hz0,hz1,hz2⟩:=info_parts Rc.infoPk
     have HI0:=Lib.hid hi0
     clear hbW hob hib hrun hslt hHC hTC z9 hi0
     refine wp_region_held (S:=fun u=>Below wb.heap.size wb u) (by kernel_rfl) ?_
     have hS0:Below wb.heap.size wb wb.drew:=(Below.refl _ _).drew
     change wpAnyH _ _ _ _ _ 12 _ _ wb.drew
     generalize wb.drew = u0 at *
     refine wpAnyH_take (i:=0) (v:=.slice ra t rc) rfl (by kernel_rfl) (by kernel_rfl) (by kernel_rfl) (fun _ _ _ h=>h) (.inl ⟨rfl,fun w _=>rfl⟩) hS0 ?_
     simp only [Act.put,List.getElem_toArray,List.getElem_cons_zero,List.getElem_cons_succ,List.setIfInBounds_toArray,List.set_cons_zero,List.set_cons_succ]
     refine wpAnyH_take (i:=1) (v:=.int .i64 t) rfl (by kernel_rfl) (by kernel_rfl) (by kernel_rfl) (fun _ _ _ h=>h) (.inl ⟨rfl,fun w _=>rfl⟩) hS0 ?_
     simp only [Act.put,List.getElem_toArray,List.getElem_cons_zero,List.getElem_cons_succ,List.setIfInBounds_toArray,List.set_cons_zero,List.set_cons_succ]
     refine wpAnyH_take (i:=7) (v:=.slice ra t rc) rfl (by kernel_rfl) (by kernel_rfl) (by kernel_rfl) (fun _ _ _ h=>h) (.inl ⟨rfl,fun w _=>rfl⟩) hS0 ?_
     simp only [Act.put,List.getElem_toArray,List.getElem_cons_zero,List.getElem_cons_succ,List.setIfInBounds_toArray,List.set_cons_zero,List.set_cons_succ]
     refine wpAnyH_take (i:=8) (v:=.int .i64 t) rfl (by kernel_rfl) (by kernel_rfl) (by kernel_rfl) (fun _ _ _ h=>h) (.inl ⟨rfl,fun w _=>rfl⟩) hS0 ?_
     simp only [Act.put,List.getElem_toArray,List.getElem_cons_zero,List.getElem_cons_succ,List.setIfInBounds_toArray,List.set_cons_zero,List.set_cons_succ]
     refine wpAnyH_take (i:=2) (v:=.slice ra t rc) rfl (by kernel_rfl) (by kernel_rfl) (by kernel_rfl) (fun _ _ _ h=>h) (.inl ⟨rfl,fun w _=>by simp [execOp]; erw [HEADH.out w]; rfl⟩) hS0 ?_
     simp only [Act.put,List.getElem_toArray,List.getElem_cons_zero,List.getElem_cons_succ,List.setIfInBounds_toArray,List.set_cons_zero,List.set_cons_succ]
     refine wpAnyH_take (i:=9) (v:=vt) rfl (by kernel_rfl) (by kernel_rfl) (by kernel_rfl) (fun _ _ _ h=>h) (.inl ⟨rfl,fun w _=>by simp [execOp]; erw [TAILH.out w]; rfl⟩) hS0 ?_
     simp only [Act.put,List.getElem_toArray,List.getElem_cons_zero,List.getElem_cons_succ,List.setIfInBounds_toArray,List.set_cons_zero,List.set_cons_succ]
     refine wpAnyH_take (i:=4) (v:=.agg [.string (S x.pk.nm),.string (S x.pk.vs),.slice s1 m1 t1,.slice s2 m2 t2,.slice s3 m3 t3,.slice s4 m4 t4,.slice s5 m5 t5,.slice s6 m6 t6,.bool x.pk.ess].toArray) rfl (by kernel_rfl) (by kernel_rfl) (by kernel_rfl) (fun _ _ _ h=>h) (yieldsIf_load_mid rfl 40 (.tmp 5) rfl bx 0 rfl _ _ KX.out Tryz.underlying40 rfl Z9.out) hS0 ?_
     simp only [Act.put,List.getElem_toArray,List.getElem_cons_zero,List.getElem_cons_succ,List.setIfInBounds_toArray,List.set_cons_zero,List.set_cons_succ]
     refine wpAnyH_all (rs:=[3,5]) (by kernel_rfl) (by simp) ?_
     intro i hi
     simp only [List.mem_cons,List.not_mem_nil,or_false] at hi
     rcases hi with rfl | rfl
     ·have hz:=hS0.size
      refine Reg.wpOp_list rfl ?_
      (refine Own.wpList_append_src rfl (.const (.slice none 0 0)) (.tmp 52) 22 22 rfl wb.heap.size 40 i0 _ 9 184 Tryz.underlying22 HI0.out hz0 hz1 hz2 rfl _ 0 [] rfl (World.ownsRow_nil _ _ _ _) _ t HC rfl (SH.out _ hS0) (by simp only [maxLen]; omega) (by omega) hz ?_; intro v3 u1 o3 g3)
      go_wp2_with fail
      change _ ∧ _
      have hS1:Below wb.heap.size wb u1:=Own.below_grown hS0 (World.ownsRow_nil u0 wb.heap.size 40 9) g3 hz
      rw [Nat.zero_add,List.nil_append] at o3
      have O3:=Lib.hid o3
      refine ⟨hS1,?_⟩
      clear o3 g3 hz
      have hba:=(Below.refl u1.heap.size u1).alloc (Nat.le_refl _) (.cells #[.string (S x.pk.nm),.string (S x.pk.vs),.slice s1 m1 t1,.slice s2 m2 t2,.slice s3 m3 t3,.slice s4 m4 t4,.slice s5 m5 t5,.slice s6 m6 t6,.bool x.pk.ess] 40)
      have ia5:=Blk.Is.new u1 40 #[.string (S x.pk.nm),.string (S x.pk.vs),.slice s1 m1 t1,.slice s2 m2 t2,.slice s3 m3 t3,.slice s4 m4 t4,.slice s5 m5 t5,.slice s6 m6 t6,.bool x.pk.ess]
      obtain ⟨u2,hu2⟩:∃ u2,u1.alloc (.cells #[.string (S x.pk.nm),.string (S x.pk.vs),.slice s1 m1 t1,.slice s2 m2 t2,.slice s3 m3 t3,.slice s4 m4 t4,.slice s5 m5 t5,.slice s6 m6 t6,.bool x.pk.ess] 40) = u2:=⟨_,rfl⟩
      rw [hu2] at hba ia5
      have hS2:Below wb.heap.size wb u2:=hS1.trans (hba.mono hS1.size)
      have I5:=Lib.hid ia5
      obtain ⟨b5,hb5⟩:∃ b5,u1.heap.size = b5:=⟨_,rfl⟩
      rw [hb5] at I5
      have O3':=Lib.hid (Own.owns_below O3.out hba)
      clear O3
      have O3:=O3'
      clear O3'
      refine wpAnyH_all (rs:=[5]) (by kernel_rfl) (by simp) ?_
      intro i hi
      obtain rfl:=List.mem_singleton.1 hi
      refine Reg.wpOp_list rfl ?_
      go_wp2_with fail
      change _ ∧ _
      refine ⟨hS2,?_⟩
      clear hu2 hba ia5 hb5
      refine wpAnyH_all (rs:=[6]) (by kernel_rfl) (by simp) ?_
      intro i hi
      obtain rfl:=List.mem_singleton.1 hi
      have hz:=hS2.size
      have h70:t + 1 ≤ 70000:=by omega
      refine Reg.wpOp_list rfl ?_
      (refine append_pk rfl (.tmp 53) (.tmp 55) rfl wb.heap.size v3 t HC rfl O3.out b5 1 rfl [.string (S x.pk.nm),.string (S x.pk.vs),.slice s1 m1 t1,.slice s2 m2 t2,.slice s3 m3 t3,.slice s4 m4 t4,.slice s5 m5 t5,.slice s6 m6 t6,.bool x.pk.ess] rfl (fun j u hj=>I5.out.at (by rw [← Array.getElem?_toList]; exact hj)) (fun u hu=>by simp only [List.mem_cons,List.not_mem_nil,or_false] at hu; rcases hu with rfl | rfl | rfl | rfl | rfl | rfl | rfl | rfl | rfl <;> rfl) h70 hz ?_; intro v6 u3 o6 g6)
      go_wp2_with fail
      change _ ∧ _
      have hS3:Below wb.heap.size wb u3:=Own.below_grown hS2 O3.out g6 hz
      have O6:=Lib.hid o6
      refine ⟨hS3,?_⟩
      clear o6 g6 hz O3 I5
      refine wpAnyH_all (rs:=[10]) (by kernel_rfl) (by simp) ?_
      intro i hi
      obtain rfl:=List.mem_singleton.1 hi
      have hz:=hS3.size
      refine Reg.wpOp_list rfl ?_
      (refine Own.wpList_append_src rfl (.tmp 56) (.tmp 59) 22 22 rfl wb.heap.size 40 i0 _ 9 184 Tryz.underlying22 HI0.out hz0 hz1 hz2 rfl v6 (t + 1) (HC ++ [.string (S x.pk.nm),.string (S x.pk.vs),.slice s1 m1 t1,.slice s2 m2 t2,.slice s3 m3 t3,.slice s4 m4 t4,.slice s5 m5 t5,.slice s6 m6 t6,.bool x.pk.ess]) rfl O6.out vt (t - t) TC rfl (ST.out _ hS3) (by simp only [maxLen]; omega) (by omega) hz ?_; intro v10 u4 o10 g10)
      go_wp2_with fail
      change _ ∧ _
      have hS4:Below wb.heap.size wb u4:=Own.below_grown hS3 O6.out g10 hz
      rw [show t + 1 + (t - t) = t + 1 by omega] at o10
      obtain ⟨a10,c10,rfl,_⟩:=Rl.own_shape o10
      have O10:=Lib.hid o10
      refine ⟨hS4,?_⟩
      clear o10 g10 hz O6
      refine wpAnyH_all (rs:=[11]) (by kernel_rfl) (by simp) ?_
      intro i hi
      obtain rfl:=List.mem_singleton.1 hi
      refine Reg.wpOp_list rfl ?_
      go_wp2_with fail
      change _ ∧ _
      refine ⟨hS4,?_⟩
      refine wpAnyH_done (by kernel_rfl) ?_ _
      have hbz:=BW.out.trans (hS4.mono BW.out.size)
      have hfin:=Rl.own_mono O10.out BW.out.size
      have hcat:(HC ++ [.string (S x.pk.nm),.string (S x.pk.vs),.slice s1 m1 t1,.slice s2 m2 t2,.slice s3 m3 t3,.slice s4 m4 t4,.slice s5 m5 t5,.slice s6 m6 t6,.bool x.pk.ess]) ++ TC = (ds.take t ++ [x] ++ ds.drop t).flatMap El.enc:=by
       rw [List.flatMap_append,List.flatMap_append,HHC.out,HTC.out,← HENC.out]
       simp
      rw [hcat] at hfin
      have HFIN:=Lib.hid hfin
      have BZ:=Lib.hid hbz
      clear hS0 hS1 hS2 hS3 hS4 hbz hfin hcat
      go_wp2_with fail
      go_roundg g'
      case measure=>omega
      case rel=>exact ⟨t + 1,a10,c10,ds.take t ++ [x] ++ ds.drop t,rfl,by go_num,HFIN,INS,BZ,by omega,by omega⟩
     ·have hba:=(Below.refl u0.heap.size u0).alloc (Nat.le_refl _) (.cells #[.string (S x.pk.nm),.string (S x.pk.vs),.slice s1 m1 t1,.slice s2 m2 t2,.slice s3 m3 t3,.slice s4 m4 t4,.slice s5 m5 t5,.slice s6 m6 t6,.bool x.pk.ess] 40)
      have ia5:=Blk.Is.new u0 40 #[.string (S x.pk.nm),.string (S x.pk.vs),.slice s1 m1 t1,.slice s2 m2 t2,.slice s3 m3 t3,.slice s4 m4 t4,.slice s5 m5 t5,.slice s6 m6 t6,.bool x.pk.ess]
      obtain ⟨u1,hu1⟩:∃ u1,u0.alloc (.cells #[.string (S x.pk.nm),.string (S x.pk.vs),.slice s1 m1 t1,.slice s2 m2 t2,.slice s3 m3 t3,.slice s4 m4 t4,.slice s5 m5 t5,.slice s6 m6 t6,.bool x.pk.ess] 40) = u1:=⟨_,rfl⟩
      rw [hu1] at hba ia5
      have hS1:Below wb.heap.size wb u1:=hS0.trans (hba.mono hS0.size)
      have I5:=Lib.hid ia5
      obtain ⟨b5,hb5⟩:∃ b5,u0.heap.size = b5:=⟨_,rfl⟩
      rw [hb5] at I5
      refine Reg.wpOp_list rfl ?_
      go_wp2_with fail
      change _ ∧ _
      refine ⟨hS1,?_⟩
      clear hu1 hba ia5 hb5
      refine wpAnyH_all (rs:=[3]) (by kernel_rfl) (by simp) ?_
      intro i hi
      obtain rfl:=List.mem_singleton.1 hi
      have hz:=hS1.size
      refine Reg.wpOp_list rfl ?_
      (refine Own.wpList_append_src rfl (.const (.slice none 0 0)) (.tmp 52) 22 22 rfl wb.heap.size 40 i0 _ 9 184 Tryz.underlying22 HI0.out hz0 hz1 hz2 rfl _ 0 [] rfl (World.ownsRow_nil _ _ _ _) _ t HC rfl (SH.out _ hS1) (by simp only [maxLen]; omega) (by omega) hz ?_; intro v3 u2 o3 g3)
      go_wp2_with fail
      change _ ∧ _
      have hS2:Below wb.heap.size wb u2:=Own.below_grown hS1 (World.ownsRow_nil u1 wb.heap.size 40 9) g3 hz
      rw [Nat.zero_add,List.nil_append] at o3
      have O3:=Lib.hid o3
      have I5':=Rl.is_on I5.out (Own.below_grown (Below.refl u1.heap.size u1) (World.ownsRow_nil u1 u1.heap.size 40 9) g3 (Nat.le_refl _))
      clear I5
      have I5:=Lib.hid I5'
      refine ⟨hS2,?_⟩
      clear o3 g3 hz
      refine wpAnyH_all (rs:=[6]) (by kernel_rfl) (by simp) ?_
      intro i hi
      obtain rfl:=List.mem_singleton.1 hi
      have hz:=hS2.size
      have h70:t + 1 ≤ 70000:=by omega
      refine Reg.wpOp_list rfl ?_
      (refine append_pk rfl (.tmp 53) (.tmp 55) rfl wb.heap.size v3 t HC rfl O3.out b5 1 rfl [.string (S x.pk.nm),.string (S x.pk.vs),.slice s1 m1 t1,.slice s2 m2 t2,.slice s3 m3 t3,.slice s4 m4 t4,.slice s5 m5 t5,.slice s6 m6 t6,.bool x.pk.ess] rfl (fun j u hj=>I5.out.at (by rw [← Array.getElem?_toList]; exact hj)) (fun u hu=>by simp only [List.mem_cons,List.not_mem_nil,or_false] at hu; rcases hu with rfl | rfl | rfl | rfl | rfl | rfl | rfl | rfl | rfl <;> rfl) h70 hz ?_; intro v6 u3 o6 g6)
      go_wp2_with fail
      change _ ∧ _
      have hS3:Below wb.heap.size wb u3:=Own.below_grown hS2 O3.out g6 hz
      have O6:=Lib.hid o6
      refine ⟨hS3,?_⟩
      clear o6 g6 hz O3 I5
      refine wpAnyH_all (rs:=[10]) (by kernel_rfl) (by simp) ?_
      intro i hi
      obtain rfl:=List.mem_singleton.1 hi
      have hz:=hS3.size
      refine Reg.wpOp_list rfl ?_
      (refine Own.wpList_append_src rfl (.tmp 56) (.tmp 59) 22 22 rfl wb.heap.size 40 i0 _ 9 184 Tryz.underlying22 HI0.out hz0 hz1 hz2 rfl v6 (t + 1) (HC ++ [.string (S x.pk.nm),.string (S x.pk.vs),.slice s1 m1 t1,.slice s2 m2 t2,.slice s3 m3 t3,.slice s4 m4 t4,.slice s5 m5 t5,.slice s6 m6 t6,.bool x.pk.ess]) rfl O6.out vt (t - t) TC rfl (ST.out _ hS3) (by simp only [maxLen]; omega) (by omega) hz ?_; intro v10 u4 o10 g10)
      go_wp2_with fail
      change _ ∧ _
      have hS4:Below wb.heap.size wb u4:=Own.below_grown hS3 O6.out g10 hz
      rw [show t + 1 + (t - t) = t + 1 by omega] at o10
      obtain ⟨a10,c10,rfl,_⟩:=Rl.own_shape o10
      have O10:=Lib.hid o10
      refine ⟨hS4,?_⟩
      clear o10 g10 hz O6
      refine wpAnyH_all (rs:=[11]) (by kernel_rfl) (by simp) ?_
      intro i hi
      obtain rfl:=List.mem_singleton.1 hi
      refine Reg.wpOp_list rfl ?_
      go_wp2_with fail
      change _ ∧ _
      refine ⟨hS4,?_⟩
      refine wpAnyH_done (by kernel_rfl) ?_ _
      have hbz:=BW.out.trans (hS4.mono BW.out.size)
      have hfin:=Rl.own_mono O10.out BW.out.size
      have hcat:(HC ++ [.string (S x.pk.nm),.string (S x.pk.vs),.slice s1 m1 t1,.slice s2 m2 t2,.slice s3 m3 t3,.slice s4 m4 t4,.slice s5 m5 t5,.slice s6 m6 t6,.bool x.pk.ess]) ++ TC = (ds.take t ++ [x] ++ ds.drop t).flatMap El.enc:=by
       rw [List.flatMap_append,List.flatMap_append,HHC.out,HTC.out,← HENC.out]
       simp
      rw [hcat] at hfin
      have HFIN:=Lib.hid hfin
      have BZ:=Lib.hid hbz
      clear hS0 hS1 hS2 hS3 hS4 hbz hfin hcat
      go_wp2_with fail
      go_roundg g'
      case measure=>omega
      case rel=>exact ⟨t + 1,a10,c10,ds.take t ++ [x] ++ ds.drop t,rfl,by go_num,HFIN,INS,BZ,by omega,by omega⟩
  ·obtain rfl:k = N:=by omega
   have hge:¬ (k:Int) < (k:Int):=by omega
   have hslc:=head_slc HO.out HX.out.1 (Nat.le_refl k) hl
   rw [List.take_of_length_le (Nat.le_of_eq HX.out.1)] at hslc
   have hpk:=els_pks hslc fun x hx=>(HH.out x (HX.out.2.2 x hx)).below HB.out
   have hmap:ds.map El.pk = insAll l []:=by rw [HX.out.2.1,List.take_of_length_le (Nat.le_of_eq HDL.out),HD.out]
   rw [hmap] at hpk
   have HPK:=Lib.hid hpk
   clear hslc hpk hmap HO
   go_wp2_with fail
   go_ret
   exact ⟨_,rfl,HPK.out,HB.out⟩
end Ix
end Go.Proofs.YtmhpjjjjgakpiaaGreatDoor

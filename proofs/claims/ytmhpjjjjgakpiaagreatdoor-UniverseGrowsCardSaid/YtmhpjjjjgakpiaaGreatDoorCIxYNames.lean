/-
The reference's Names.
-/
import Derived.Test.YtmhpjjjjgakpiaaGreatDoorCRecBare
import Derived.Test.YtmhpjjjjgakpiaaGreatDoorCIxUniq
import Derived.Test.YtmhpjjjjgakpiaaGreatDoorCIxIns
import Derived.Test.YtmhpjjjjgakpiaaGreatDoorCReg
import Derived.Test.YtmhpjjjjgakpiaaGreatDoorCTextTexts
import Derived.OrdersHeld
import Derived.Deep.MidRow
namespace Go.Proofs.YtmhpjjjjgakpiaaGreatDoor
open Go.RowKit
set_option linter.unusedSimpArgs false
set_option linter.unusedVariables false
namespace Ix
open Ver (Bs S)
open Rl (Slc)
open Rc (Pk nPk Pks)
theorem infoTx:(Tryz.prog.info? 9).map (fun i=>(i.zero,i.size,i.bytes)) = some (some (.string ByteArray.empty),1,16):=by kernel_rfl
theorem tx_size (w:World):(sizeOf 9).run Tryz.prog w = .ok 1 w:=by
 obtain ⟨i0,hi,hz0,hz1,hz2⟩:=info_parts infoTx
 simp [sizeOf,typeInfo,hi,hz1]
theorem at_sliceN {x v:Value} {lo hi:Option Value} {w:World} (h:(Instr.slice 32 x lo hi none).run Tryz.prog w = .ok v w):(Instr.sliceAt 32 x lo hi none).run Tryz.prog w = .ok v w:=by
 have e:Tryz.prog.elem 32 = 9:=by kernel_rfl
 rw [run_sliceAt_slice w 32 x lo hi none (by rw [e]; exact Tryz.underlying32)]
 exact h
theorem slice_headN (ra:Option Addr) (n rc t:Nat) (h:t ≤ rc) (w:World):(Instr.slice 32 (.slice ra n rc) none (some (.int .i64 (t:Int))) none).run Tryz.prog w = .ok (.slice ra t rc) w:=by
 have hsz:=tx_size w
 have h0:∀ x:Addr,x.add 0 = x:=fun x=>by
  obtain ⟨b,o,p⟩:=x
  cases p <;> simp [Addr.add]
 cases ra <;> simp [h0,Instr.slice,Instr.sliceBounds,Instr.sliceBound,asIntOf,run_underlying Tryz.underlying32,hsz,h]
theorem slice_tailN (R:Nat) (n rc t:Nat) (h:t ≤ n) (hn:n ≤ rc):∃ o,(∀ w,(Instr.slice 32 (.slice (some ⟨R,0,none⟩) n rc) (some (.int .i64 (t:Int))) none none).run Tryz.prog w = .ok (.slice (some ⟨R,o,none⟩) (n - t) (rc - t)) w) ∧ (t < rc → o = t):=by
 have h0:(0:Int) ≤ t:=by omega
 by_cases e:rc = t
 ·refine ⟨0,fun w=>?_,fun h=>by omega⟩
  have hsz:=tx_size w
  simp [Instr.slice,Instr.sliceBounds,Instr.sliceBound,asIntOf,run_underlying Tryz.underlying32,hsz,h0,h,e]
 ·refine ⟨t,fun w=>?_,fun _=>rfl⟩
  have hsz:=tx_size w
  simp [Instr.slice,Instr.sliceBounds,Instr.sliceBound,asIntOf,run_underlying Tryz.underlying32,hsz,h0,h,e,Addr.add] <;> omega
theorem slice_noneN (w:World):(Instr.slice 32 (.slice none 0 0) (some (.int .i64 0)) none none).run Tryz.prog w = .ok (.slice none 0 0) w:=by
 have hsz:=tx_size w
 simp [Instr.slice,Instr.sliceBounds,Instr.sliceBound,asIntOf,run_underlying Tryz.underlying32,hsz]
def txs (l:List Bs):List Value:=l.map fun s=>Value.string (S s)
def TxAt (w:World) (k o:Nat) (s:Bs):Prop:=w.cell? ⟨k,o,none⟩ = some (.string (S s))
theorem txs_flat (l:List Bs):(l.flatMap fun s=>[Value.string (S s)]) = txs l:=by
 unfold txs
 induction l with
 | nil=>rfl
 | cons x r ih=>rw [List.flatMap_cons,ih]; rfl
theorem txs_src {w:World} {v:Value} {l:List Bs} (h:Slc 1 [] TxAt w v l):Src Tryz.prog 1 32 v l.length (txs l) w:=by
 rw [← txs_flat]
 exact Va.slc_src (sz:=1) (by omega) (fun s:Bs=>[Value.string (S s)]) (fun _=>rfl) (fun w k o x hx j u hj=>by cases j with | zero=>(simp at hj; subst hj; exact hx) | succ j=>simp at hj) (fun x u hu=>by simp at hu; rw [hu]; rfl) Tryz.underlying32 h
theorem txs_at {w:World} {B:Nat} {R rc n:Nat} {ss:List Bs} (h:w.ownsRow B 9 1 (.slice (some ⟨R,0,none⟩) n rc) n (txs ss)) {i:Nat} {s:Bs} (hs:ss[i]? = some s):w.cell? ⟨R,i,none⟩ = some (.string (S s)) :=
 Rl.own_cell h (by unfold txs; rw [List.getElem?_map,hs]; rfl)
theorem head_tx {w:World} {B:Nat} {ra:Option Addr} {rc n t:Nat} {ss:List Bs} (h:w.ownsRow B 9 1 (.slice ra n rc) n (txs ss)) (hd:ss.length = n) (ht:t ≤ n) (hn:n ≤ 60000):Slc 1 [] TxAt w (.slice ra t rc) (ss.take t):=by
 obtain ⟨a,cap,e,hc⟩:=Rl.own_shape h
 simp only [Value.slice.injEq,true_and] at e
 obtain ⟨rfl,rfl⟩:=e
 have hl:(ss.take t).length = t:=by rw [List.length_take]; omega
 refine ⟨by rw [hl]; omega,ra,rc,by rw [hl],by rw [hl]; omega,fun h0=>?_⟩
 rw [hl] at h0
 obtain ⟨R,c2,e,_⟩:=Rl.own_slice h (by omega)
 simp only [Value.slice.injEq,true_and] at e
 obtain ⟨rfl,rfl⟩:=e
 refine ⟨R,0,rfl,fun i hi=>?_⟩
 rw [hl] at hi
 obtain ⟨x,hx⟩:∃ x,ss[i]? = some x:=⟨ss[i]'(by omega),List.getElem?_eq_getElem _⟩
 have e:(ss.take t).getD i [] = x:=by rw [List.getD_eq_getElem?_getD,List.getElem?_take,if_pos hi,hx]; rfl
 rw [e,Nat.zero_add,Nat.one_mul]
 exact txs_at h hx
theorem tail_tx {w:World} {B:Nat} {ra:Option Addr} {rc n t:Nat} {ss:List Bs} (h:w.ownsRow B 9 1 (.slice ra n rc) n (txs ss)) (hd:ss.length = n) (ht:t ≤ n) (hn:n ≤ 60000):∃ vt,(∀ w,(Instr.slice 32 (.slice ra n rc) (some (.int .i64 (t:Int))) none none).run Tryz.prog w = .ok vt w) ∧ ∀ u,Below w.heap.size w u → Slc 1 [] TxAt u vt (ss.drop t):=by
 have hl:(ss.drop t).length = n - t:=by rw [List.length_drop]; omega
 rcases h.2 with ⟨e,e0⟩ | ⟨R,cap,cur,e,_,_,hc,_⟩
 ·simp only [Value.slice.injEq] at e
  obtain ⟨rfl,_,rfl⟩:=e
  obtain rfl:t = 0:=by omega
  subst e0
  refine ⟨.slice none 0 0,slice_noneN,fun u _=>⟨by rw [hl]; omega,none,0,by rw [hl],by rw [hl]; omega,fun h0=>by rw [hl] at h0; omega⟩⟩
 ·simp only [Value.slice.injEq,true_and] at e
  obtain ⟨rfl,rfl⟩:=e
  obtain ⟨o,hrun,ho⟩:=slice_tailN R n rc t ht hc
  refine ⟨_,hrun,fun u hu=>⟨by rw [hl]; omega,some ⟨R,o,none⟩,rc - t,by rw [hl],by rw [hl]; omega,fun h0=>⟨R,o,rfl,fun i hi=>?_⟩⟩⟩
  rw [hl] at hi
  obtain ⟨x,hx⟩:∃ x,ss[t + i]? = some x:=⟨ss[t + i]'(by omega),List.getElem?_eq_getElem _⟩
  have e:(ss.drop t).getD i [] = x:=by rw [List.getD_eq_getElem?_getD,List.getElem?_drop,hx]; rfl
  rw [e,ho (by omega),Nat.one_mul]
  exact txs_at (Own.owns_below h hu) hx
theorem slotN_of {nm:Bs}:∀ {l:List Bs} {t:Nat},(∀ j y,j < t → l[j]? = some y → below nm y = true) → t ≤ l.length → (∀ y,l[t]? = some y → below nm y = false) → slotN nm l = t
 | [],t,_,h,_=>by
  have h0:t = 0:=by simpa using h
  subst h0
  rfl
 | x :: r,0,_,_,h=>by
  have hx:=h x rfl
  unfold slotN
  rw [List.takeWhile_cons,hx]
  rfl
 | x :: r,t + 1,h1,h2,h3=>by
  have hx:=h1 0 x (by omega) rfl
  have ih:=slotN_of (nm:=nm) (l:=r) (t:=t) (fun j y hj hy=>h1 (j + 1) y (by omega) (by simpa using hy)) (by simpa using h2) (fun y hy=>h3 y (by simpa using hy))
  unfold slotN at ih ⊢
  rw [List.takeWhile_cons,hx]
  simp [ih]
theorem insN_same {nm:Bs} {l:List Bs} {t:Nat} (hs:slotN nm l = t) (h:l[t]? = some nm):insN nm l = l:=by
 unfold insN
 rw [hs,if_pos h]
theorem insN_put {nm:Bs} {l:List Bs} {t:Nat} (hs:slotN nm l = t) (h:l[t]? ≠ some nm):insN nm l = l.take t ++ [nm] ++ l.drop t:=by
 unfold insN
 rw [hs,if_neg h]
set_option maxRecDepth 100000 in
set_option maxHeartbeats 16000000 in
theorem ynames_any (v:Value) (l:List Pk) (w:World) (h:Pks w v l) (hl:l.length ≤ 60000) :
  Calls Tryz.prog 16 #[v] w fun e w'=>∃ v',e = .returned v' ∧ Txt.Texts w' v' ((insNs (l.map Pk.nm) []).map S) ∧ Below w.heap.size w w':=by
 obtain ⟨sa,scap,rfl⟩:=h.shape
 have H:=Lib.hid h
 obtain ⟨N,hN⟩:∃ N,l.length = N:=⟨_,rfl⟩
 have HN:=Lib.hid hN
 rw [hN] at hl ⊢
 clear hN h
 go_enter Tryz.func16,Tryz.ntmps16
 go_wp2_with fail
 go_loopg [3,9] N (fun gf s3 s9 wx=>∃ (k m:Nat) (ra:Option Addr) (rc:Nat) (ss:List Bs),s3 = .slice ra m rc ∧ s9 = .int .i64 k ∧ Hid (wx.ownsRow w.heap.size 9 1 (.slice ra m rc) m (txs ss)) ∧ Hid (ss.length = m ∧ ss = insNs ((l.take k).map Pk.nm) []) ∧ Hid (Below w.heap.size w wx) ∧ m ≤ k ∧ k ≤ N ∧ N ≤ k + gf)
 case atStart=>exact ⟨0,0,none,0,[],rfl,rfl,Lib.hid (World.ownsRow_nil _ _ _ _),Lib.hid ⟨rfl,rfl⟩,Lib.hid (Below.refl _ _),by omega,by omega,by omega⟩
 case round =>
  obtain ⟨k,m,ra,rc,ss,rfl,rfl,HO,HX,HB,hmk,hkn,hfu⟩:=hrel
  by_cases hlt:k < N
  ·obtain ⟨g',rfl⟩:∃ g',gk = g' + 1:=⟨gk - 1,by omega⟩
   have hlt':(k:Int) < (N:Int):=by omega
   have hk0:(0:Int) ≤ k:=by omega
   have hkl:k < l.length:=by rw [HN.out]; exact hlt
   obtain ⟨_,a',cap',e1,_,hat⟩:=H.out.below HB.out
   rw [HN.out] at e1
   simp only [Value.slice.injEq,true_and] at e1
   obtain ⟨rfl,rfl⟩:=e1
   obtain ⟨kb,off,rfl,hcl⟩:=hat (by omega)
   obtain ⟨a1,n1,c1,a2,n2,c2,a3,n3,c3,a4,n4,c4,a5,n5,c5,a6,n6,c6,⟨x0,x1,x2,x3,x4,x5,x6,x7,x8⟩,hh⟩:=Rc.pk_read (hcl k hkl)
   rw [Nat.mul_comm 9 k] at x0 x1 x2 x3 x4 x5 x6 x7 x8
   have htk:l.take (k + 1) = l.take k ++ [l.getD k nPk]:=by
    rw [List.getD_eq_getElem?_getD,List.getElem?_eq_getElem hkl,Option.getD_some,List.take_append_getElem hkl]
   obtain ⟨x,hx⟩:∃ x,l.getD k nPk = x:=⟨_,rfl⟩
   rw [hx] at x0 x1 x8 hh htk
   have HSN:Hid (insNs ((l.take (k + 1)).map Pk.nm) [] = insN x.nm ss):=Lib.hid (by rw [htk,List.map_append,List.map_cons,List.map_nil,insNs_snoc,← HX.out.2])
   have HSL:Hid (ss.length = m):=HX.out.1
   have hba:=(Below.refl wr.heap.size wr).alloc (Nat.le_refl _) (.cells #[.string (S x.nm),.string (S x.vs),.slice a1 n1 c1,.slice a2 n2 c2,.slice a3 n3 c3,.slice a4 n4 c4,.slice a5 n5 c5,.slice a6 n6 c6,.bool x.ess] 40)
   have ia:=Blk.Is.new wr 40 #[.string (S x.nm),.string (S x.vs),.slice a1 n1 c1,.slice a2 n2 c2,.slice a3 n3 c3,.slice a4 n4 c4,.slice a5 n5 c5,.slice a6 n6 c6,.bool x.ess]
   obtain ⟨bx,hbx⟩:∃ bx,wr.heap.size = bx:=⟨_,rfl⟩
   obtain ⟨V,hV⟩:∃ V,wr.alloc (.cells #[.string (S x.nm),.string (S x.vs),.slice a1 n1 c1,.slice a2 n2 c2,.slice a3 n3 c3,.slice a4 n4 c4,.slice a5 n5 c5,.slice a6 n6 c6,.bool x.ess] 40) = V:=⟨_,rfl⟩
   rw [hV] at hba ia
   rw [hbx] at ia
   have HO2:=Lib.hid (Own.owns_below HO.out hba)
   have HB2:=Lib.hid (HB.out.trans (hba.mono HB.out.size))
   have HIA:=Lib.hid ia
   have hu:=hV
   clear hkl hx hat hcl hh htk hba ia hV HO HB HX
   go_wp2_with fail
   clear hu x0 x1 x2 x3 x4 x5 x6 x7 x8
   clear hbx
   go_loopg [6] m (fun gf s6 wx=>∃ t:Nat,s6 = .int .i64 t ∧ Hid (Below V.heap.size V wx) ∧ Hid (∀ j y,j < t → ss[j]? = some y → below x.nm y = true) ∧ t ≤ m ∧ m ≤ t + gf)
   case atStart=>exact ⟨0,rfl,Lib.hid (Below.refl _ _),Lib.hid (fun j y hj=>absurd hj (by omega)),by omega,by omega⟩
   case round =>
    obtain ⟨t,rfl,HBI,HE,htm,hfu2⟩:=hrel
    have ht0:(0:Int) ≤ t:=by omega
    have HOW:=Lib.hid (Own.owns_below HO2.out HBI.out)
    have BWW:=Lib.hid (HB2.out.trans (HBI.out.mono HB2.out.size))
    have HIW:=Lib.hid (Rl.is_on HIA.out HBI.out)
    by_cases htl:t < m
    ·have htl':(t:Int) < (m:Int):=by omega
     have hte:((t:Int) == (m:Int)) = false:=by rw [beq_eq_false_iff_ne]; omega
     obtain ⟨y,hy⟩:∃ y,ss[t]? = some y:=⟨ss[t]'(by rw [HSL.out]; exact htl),List.getElem?_eq_getElem _⟩
     obtain ⟨R,c2,e2,hcr⟩:=Rl.own_slice HOW.out (by omega)
     simp only [Value.slice.injEq,true_and] at e2
     obtain ⟨rfl,rfl⟩:=e2
     have HY:=Lib.hid hy
     clear hy
     have CY:Hid (∀ u,Below wr.heap.size wr u → u.cell? ⟨R,t,none⟩ = some (.string (S y))):=Lib.hid fun u hu=>Rl.cell_on (txs_at HOW.out HY.out) hu
     have CX:Hid (∀ u,Below wr.heap.size wr u → u.cell? ⟨bx,0,none⟩ = some (.string (S x.nm))):=Lib.hid fun u hu=>(Rl.is_on HIW.out hu).at (i:=0) rfl
     have hq:((S y).toList == (S x.nm).toList) = decide (y = x.nm):=Rl.S_beq _ _
     have hless:=less_nm y x.nm
     by_cases hnl:Lib.compareBytes y x.nm < 0
     ·rw [decide_eq_true hnl] at hless
      obtain ⟨gk',rfl⟩:∃ gk',gk = gk' + 1:=⟨gk - 1,by omega⟩
      have HE2:Hid (∀ j y,j < t + 1 → ss[j]? = some y → below x.nm y = true):=Lib.hid fun j z hj hz=>by
       by_cases e:j = t
       ·subst e
        rw [HY.out] at hz
        obtain rfl:=Option.some.inj hz
        exact decide_eq_true hnl
       ·exact HE.out j z (by omega) hz
      clear HE hnl
      go_upto_region 6 with fail
      refine wp_region_held (S:=fun u=>Below wr.heap.size wr u) (by kernel_rfl) ?_
      have hS0:Below wr.heap.size wr wr.drew:=(Below.refl _ _).drew
      change wpAnyH _ _ _ _ _ 13 _ _ wr.drew
      generalize wr.drew = u0 at *
      refine wpAnyH_take (i:=0) (v:=.int .i64 t) rfl (by kernel_rfl) (by kernel_rfl) (by kernel_rfl) (fun _ _ _ h=>h) (.inl ⟨rfl,fun w _=>rfl⟩) hS0 ?_
      simp only [Act.put,List.getElem_toArray,List.getElem_cons_zero,List.getElem_cons_succ,List.setIfInBounds_toArray,List.set_cons_zero,List.set_cons_succ]
      refine wpAnyH_take (i:=1) (v:=.slice (some ⟨R,0,none⟩) m rc) rfl (by kernel_rfl) (by kernel_rfl) (by kernel_rfl) (fun _ _ _ h=>h) (.inl ⟨rfl,fun w _=>rfl⟩) hS0 ?_
      simp only [Act.put,List.getElem_toArray,List.getElem_cons_zero,List.getElem_cons_succ,List.setIfInBounds_toArray,List.set_cons_zero,List.set_cons_succ]
      refine wpAnyH_all (rs:=[2]) (by kernel_rfl) (by simp) ?_
      intro i hi
      obtain rfl:=List.mem_singleton.1 hi
      refine Reg.wpOp_list rfl ?_
      go_wp2_with fail
      change _ ∧ _
      refine ⟨hS0,?_⟩
      refine wpAnyH_all (rs:=[3]) (by kernel_rfl) (by simp) ?_
      intro i hi
      obtain rfl:=List.mem_singleton.1 hi
      refine Reg.wpOp_list rfl ?_
      go_wp2_with fail
      change _ ∧ _
      refine ⟨hS0,?_⟩
      refine wpAnyH_all (rs:=[4]) (by kernel_rfl) (by simp) ?_
      intro i hi
      obtain rfl:=List.mem_singleton.1 hi
      refine Reg.wpOp_list rfl ?_
      go_wp2_with fail
      change _ ∧ _
      refine ⟨hS0,?_⟩
      refine wpAnyH_take (i:=5) (v:=.slice (some ⟨R,0,none⟩) m rc) rfl (by kernel_rfl) (by kernel_rfl) (by kernel_rfl) (fun _ _ _ h=>h) (.inl ⟨rfl,fun w _=>rfl⟩) hS0 ?_
      simp only [Act.put,List.getElem_toArray,List.getElem_cons_zero,List.getElem_cons_succ,List.setIfInBounds_toArray,List.set_cons_zero,List.set_cons_succ]
      refine wpAnyH_take (i:=6) (v:=.int .i64 t) rfl (by kernel_rfl) (by kernel_rfl) (by kernel_rfl) (fun _ _ _ h=>h) (.inl ⟨rfl,fun w _=>rfl⟩) hS0 ?_
      simp only [Act.put,List.getElem_toArray,List.getElem_cons_zero,List.getElem_cons_succ,List.setIfInBounds_toArray,List.set_cons_zero,List.set_cons_succ]
      refine wpAnyH_take (i:=7) (v:=.pointer (some ⟨R,t,none⟩)) rfl (by kernel_rfl) (by kernel_rfl) (by kernel_rfl) (fun _ _ _ h=>h) (.inl ⟨rfl,fun w _=>by simp [execOp,go_sem,Addr.add,htl] <;> first | omega | (intro h; omega) | (intro h; simp [h])⟩) hS0 ?_
      simp only [Act.put,List.getElem_toArray,List.getElem_cons_zero,List.getElem_cons_succ,List.setIfInBounds_toArray,List.set_cons_zero,List.set_cons_succ]
      refine wpAnyH_take (i:=8) (v:=.string (S y)) rfl (by kernel_rfl) (by kernel_rfl) (by kernel_rfl) (fun _ _ _ h=>h) (Held.load1 rfl 9 (.tmp 20) rfl R t rfl _ _ CY.out Tryz.underlying9 rfl) hS0 ?_
      simp only [Act.put,List.getElem_toArray,List.getElem_cons_zero,List.getElem_cons_succ,List.setIfInBounds_toArray,List.set_cons_zero,List.set_cons_succ]
      refine wpAnyH_take (i:=9) (v:=.pointer (some ⟨bx,0,none⟩)) rfl (by kernel_rfl) (by kernel_rfl) (by kernel_rfl) (fun _ _ _ h=>h) (.inl ⟨rfl,fun w _=>rfl⟩) hS0 ?_
      simp only [Act.put,List.getElem_toArray,List.getElem_cons_zero,List.getElem_cons_succ,List.setIfInBounds_toArray,List.set_cons_zero,List.set_cons_succ]
      refine wpAnyH_take (i:=10) (v:=.string (S x.nm)) rfl (by kernel_rfl) (by kernel_rfl) (by kernel_rfl) (fun _ _ _ h=>h) (Held.load1 rfl 9 (.tmp 22) rfl bx 0 rfl _ _ CX.out Tryz.underlying9 rfl) hS0 ?_
      simp only [Act.put,List.getElem_toArray,List.getElem_cons_zero,List.getElem_cons_succ,List.setIfInBounds_toArray,List.set_cons_zero,List.set_cons_succ]
      refine wpAnyH_all (rs:=[11]) (by kernel_rfl) (by simp) ?_
      intro i hi
      obtain rfl:=List.mem_singleton.1 hi
      refine Reg.wpOp_list rfl ?_
      go_wp2_with fail
      change _ ∧ _
      refine ⟨hS0,?_⟩
      refine wpAnyH_all (rs:=[12]) (by kernel_rfl) (by simp) ?_
      intro i hi
      obtain rfl:=List.mem_singleton.1 hi
      refine Reg.wpOp_list rfl ?_
      go_wp2_with fail
      change _ ∧ _
      refine ⟨hS0,?_⟩
      refine wpAnyH_done (by kernel_rfl) ?_ _
      have BI:=Lib.hid (HBI.out.trans (hS0.mono HBI.out.size))
      clear hS0
      go_wp2_with fail
      go_roundg gk'
      case measure=>omega
      case rel=>exact ⟨t + 1,by go_num,BI,HE2,by omega,by omega⟩
     ·rw [decide_eq_false hnl] at hless
      have HSLOT:Hid (slotN x.nm ss = t):=Lib.hid (slotN_of HE.out (by rw [HSL.out]; omega) fun z hz=>by
       rw [HY.out] at hz
       obtain rfl:=Option.some.inj hz
       exact decide_eq_false hnl)
      clear hnl HE
      by_cases hnm:y = x.nm
      ·rw [decide_eq_true hnm] at hq
       have INS:Hid (ss.length = m ∧ ss = insNs ((l.take (k + 1)).map Pk.nm) []):=Lib.hid ⟨HSL.out,by rw [HSN.out,insN_same HSLOT.out (by rw [HY.out,hnm])]⟩
       clear hnm
       go_upto_region 6 with fail
       refine wp_region_held (S:=fun u=>Below wr.heap.size wr u) (by kernel_rfl) ?_
       have hS0:Below wr.heap.size wr wr.drew:=(Below.refl _ _).drew
       change wpAnyH _ _ _ _ _ 13 _ _ wr.drew
       generalize wr.drew = u0 at *
       refine wpAnyH_take (i:=0) (v:=.int .i64 t) rfl (by kernel_rfl) (by kernel_rfl) (by kernel_rfl) (fun _ _ _ h=>h) (.inl ⟨rfl,fun w _=>rfl⟩) hS0 ?_
       simp only [Act.put,List.getElem_toArray,List.getElem_cons_zero,List.getElem_cons_succ,List.setIfInBounds_toArray,List.set_cons_zero,List.set_cons_succ]
       refine wpAnyH_take (i:=1) (v:=.slice (some ⟨R,0,none⟩) m rc) rfl (by kernel_rfl) (by kernel_rfl) (by kernel_rfl) (fun _ _ _ h=>h) (.inl ⟨rfl,fun w _=>rfl⟩) hS0 ?_
       simp only [Act.put,List.getElem_toArray,List.getElem_cons_zero,List.getElem_cons_succ,List.setIfInBounds_toArray,List.set_cons_zero,List.set_cons_succ]
       refine wpAnyH_all (rs:=[2]) (by kernel_rfl) (by simp) ?_
       intro i hi
       obtain rfl:=List.mem_singleton.1 hi
       refine Reg.wpOp_list rfl ?_
       go_wp2_with fail
       change _ ∧ _
       refine ⟨hS0,?_⟩
       refine wpAnyH_all (rs:=[3]) (by kernel_rfl) (by simp) ?_
       intro i hi
       obtain rfl:=List.mem_singleton.1 hi
       refine Reg.wpOp_list rfl ?_
       go_wp2_with fail
       change _ ∧ _
       refine ⟨hS0,?_⟩
       refine wpAnyH_all (rs:=[4]) (by kernel_rfl) (by simp) ?_
       intro i hi
       obtain rfl:=List.mem_singleton.1 hi
       refine Reg.wpOp_list rfl ?_
       go_wp2_with fail
       change _ ∧ _
       refine ⟨hS0,?_⟩
       refine wpAnyH_take (i:=5) (v:=.slice (some ⟨R,0,none⟩) m rc) rfl (by kernel_rfl) (by kernel_rfl) (by kernel_rfl) (fun _ _ _ h=>h) (.inl ⟨rfl,fun w _=>rfl⟩) hS0 ?_
       simp only [Act.put,List.getElem_toArray,List.getElem_cons_zero,List.getElem_cons_succ,List.setIfInBounds_toArray,List.set_cons_zero,List.set_cons_succ]
       refine wpAnyH_take (i:=6) (v:=.int .i64 t) rfl (by kernel_rfl) (by kernel_rfl) (by kernel_rfl) (fun _ _ _ h=>h) (.inl ⟨rfl,fun w _=>rfl⟩) hS0 ?_
       simp only [Act.put,List.getElem_toArray,List.getElem_cons_zero,List.getElem_cons_succ,List.setIfInBounds_toArray,List.set_cons_zero,List.set_cons_succ]
       refine wpAnyH_take (i:=7) (v:=.pointer (some ⟨R,t,none⟩)) rfl (by kernel_rfl) (by kernel_rfl) (by kernel_rfl) (fun _ _ _ h=>h) (.inl ⟨rfl,fun w _=>by simp [execOp,go_sem,Addr.add,htl] <;> first | omega | (intro h; omega) | (intro h; simp [h])⟩) hS0 ?_
       simp only [Act.put,List.getElem_toArray,List.getElem_cons_zero,List.getElem_cons_succ,List.setIfInBounds_toArray,List.set_cons_zero,List.set_cons_succ]
       refine wpAnyH_take (i:=8) (v:=.string (S y)) rfl (by kernel_rfl) (by kernel_rfl) (by kernel_rfl) (fun _ _ _ h=>h) (Held.load1 rfl 9 (.tmp 20) rfl R t rfl _ _ CY.out Tryz.underlying9 rfl) hS0 ?_
       simp only [Act.put,List.getElem_toArray,List.getElem_cons_zero,List.getElem_cons_succ,List.setIfInBounds_toArray,List.set_cons_zero,List.set_cons_succ]
       refine wpAnyH_take (i:=9) (v:=.pointer (some ⟨bx,0,none⟩)) rfl (by kernel_rfl) (by kernel_rfl) (by kernel_rfl) (fun _ _ _ h=>h) (.inl ⟨rfl,fun w _=>rfl⟩) hS0 ?_
       simp only [Act.put,List.getElem_toArray,List.getElem_cons_zero,List.getElem_cons_succ,List.setIfInBounds_toArray,List.set_cons_zero,List.set_cons_succ]
       refine wpAnyH_take (i:=10) (v:=.string (S x.nm)) rfl (by kernel_rfl) (by kernel_rfl) (by kernel_rfl) (fun _ _ _ h=>h) (Held.load1 rfl 9 (.tmp 22) rfl bx 0 rfl _ _ CX.out Tryz.underlying9 rfl) hS0 ?_
       simp only [Act.put,List.getElem_toArray,List.getElem_cons_zero,List.getElem_cons_succ,List.setIfInBounds_toArray,List.set_cons_zero,List.set_cons_succ]
       refine wpAnyH_all (rs:=[11]) (by kernel_rfl) (by simp) ?_
       intro i hi
       obtain rfl:=List.mem_singleton.1 hi
       refine Reg.wpOp_list rfl ?_
       go_wp2_with fail
       change _ ∧ _
       refine ⟨hS0,?_⟩
       refine wpAnyH_all (rs:=[12]) (by kernel_rfl) (by simp) ?_
       intro i hi
       obtain rfl:=List.mem_singleton.1 hi
       refine Reg.wpOp_list rfl ?_
       go_wp2_with fail
       change _ ∧ _
       refine ⟨hS0,?_⟩
       refine wpAnyH_done (by kernel_rfl) ?_ _
       have B6:=Lib.hid hS0
       clear hS0
       generalize u0 = wb at *
       have hown':=Own.owns_below HOW.out B6.out
       have hisw':=Rl.is_on HIW.out B6.out
       have hbww':=BWW.out.trans (B6.out.mono BWW.out.size)
       clear HOW HIW BWW
       have HOW:=Lib.hid hown'
       have HIW:=Lib.hid hisw'
       have BWW:=Lib.hid hbww'
       clear hown' hisw' hbww'
       clear B6
       have CY:Hid (∀ u,Below wb.heap.size wb u → u.cell? ⟨R,t,none⟩ = some (.string (S y))):=Lib.hid fun u hu=>Rl.cell_on (txs_at HOW.out HY.out) hu
       have CX:Hid (∀ u,Below wb.heap.size wb u → u.cell? ⟨bx,0,none⟩ = some (.string (S x.nm))):=Lib.hid fun u hu=>(Rl.is_on HIW.out hu).at (i:=0) rfl
       go_upto_region 8 with fail
       refine wp_region_held (S:=fun u=>Below wb.heap.size wb u) (by kernel_rfl) ?_
       have hS0:Below wb.heap.size wb wb.drew:=(Below.refl _ _).drew
       change wpAnyH _ _ _ _ _ 13 _ _ wb.drew
       generalize wb.drew = u0 at *
       refine wpAnyH_take (i:=0) (v:=.int .i64 t) rfl (by kernel_rfl) (by kernel_rfl) (by kernel_rfl) (fun _ _ _ h=>h) (.inl ⟨rfl,fun w _=>rfl⟩) hS0 ?_
       simp only [Act.put,List.getElem_toArray,List.getElem_cons_zero,List.getElem_cons_succ,List.setIfInBounds_toArray,List.set_cons_zero,List.set_cons_succ]
       refine wpAnyH_take (i:=1) (v:=.slice (some ⟨R,0,none⟩) m rc) rfl (by kernel_rfl) (by kernel_rfl) (by kernel_rfl) (fun _ _ _ h=>h) (.inl ⟨rfl,fun w _=>rfl⟩) hS0 ?_
       simp only [Act.put,List.getElem_toArray,List.getElem_cons_zero,List.getElem_cons_succ,List.setIfInBounds_toArray,List.set_cons_zero,List.set_cons_succ]
       refine wpAnyH_all (rs:=[2]) (by kernel_rfl) (by simp) ?_
       intro i hi
       obtain rfl:=List.mem_singleton.1 hi
       refine Reg.wpOp_list rfl ?_
       go_wp2_with fail
       change _ ∧ _
       refine ⟨hS0,?_⟩
       refine wpAnyH_all (rs:=[3]) (by kernel_rfl) (by simp) ?_
       intro i hi
       obtain rfl:=List.mem_singleton.1 hi
       refine Reg.wpOp_list rfl ?_
       go_wp2_with fail
       change _ ∧ _
       refine ⟨hS0,?_⟩
       refine wpAnyH_all (rs:=[4]) (by kernel_rfl) (by simp) ?_
       intro i hi
       obtain rfl:=List.mem_singleton.1 hi
       refine Reg.wpOp_list rfl ?_
       go_wp2_with fail
       change _ ∧ _
       refine ⟨hS0,?_⟩
       refine wpAnyH_take (i:=5) (v:=.slice (some ⟨R,0,none⟩) m rc) rfl (by kernel_rfl) (by kernel_rfl) (by kernel_rfl) (fun _ _ _ h=>h) (.inl ⟨rfl,fun w _=>rfl⟩) hS0 ?_
       simp only [Act.put,List.getElem_toArray,List.getElem_cons_zero,List.getElem_cons_succ,List.setIfInBounds_toArray,List.set_cons_zero,List.set_cons_succ]
       refine wpAnyH_take (i:=6) (v:=.int .i64 t) rfl (by kernel_rfl) (by kernel_rfl) (by kernel_rfl) (fun _ _ _ h=>h) (.inl ⟨rfl,fun w _=>rfl⟩) hS0 ?_
       simp only [Act.put,List.getElem_toArray,List.getElem_cons_zero,List.getElem_cons_succ,List.setIfInBounds_toArray,List.set_cons_zero,List.set_cons_succ]
       refine wpAnyH_take (i:=7) (v:=.pointer (some ⟨R,t,none⟩)) rfl (by kernel_rfl) (by kernel_rfl) (by kernel_rfl) (fun _ _ _ h=>h) (.inl ⟨rfl,fun w _=>by simp [execOp,go_sem,Addr.add,htl] <;> first | omega | (intro h; omega) | (intro h; simp [h])⟩) hS0 ?_
       simp only [Act.put,List.getElem_toArray,List.getElem_cons_zero,List.getElem_cons_succ,List.setIfInBounds_toArray,List.set_cons_zero,List.set_cons_succ]
       refine wpAnyH_take (i:=8) (v:=.string (S y)) rfl (by kernel_rfl) (by kernel_rfl) (by kernel_rfl) (fun _ _ _ h=>h) (Held.load1 rfl 9 (.tmp 35) rfl R t rfl _ _ CY.out Tryz.underlying9 rfl) hS0 ?_
       simp only [Act.put,List.getElem_toArray,List.getElem_cons_zero,List.getElem_cons_succ,List.setIfInBounds_toArray,List.set_cons_zero,List.set_cons_succ]
       refine wpAnyH_take (i:=9) (v:=.pointer (some ⟨bx,0,none⟩)) rfl (by kernel_rfl) (by kernel_rfl) (by kernel_rfl) (fun _ _ _ h=>h) (.inl ⟨rfl,fun w _=>rfl⟩) hS0 ?_
       simp only [Act.put,List.getElem_toArray,List.getElem_cons_zero,List.getElem_cons_succ,List.setIfInBounds_toArray,List.set_cons_zero,List.set_cons_succ]
       refine wpAnyH_take (i:=10) (v:=.string (S x.nm)) rfl (by kernel_rfl) (by kernel_rfl) (by kernel_rfl) (fun _ _ _ h=>h) (Held.load1 rfl 9 (.tmp 37) rfl bx 0 rfl _ _ CX.out Tryz.underlying9 rfl) hS0 ?_
       simp only [Act.put,List.getElem_toArray,List.getElem_cons_zero,List.getElem_cons_succ,List.setIfInBounds_toArray,List.set_cons_zero,List.set_cons_succ]
       refine wpAnyH_all (rs:=[11]) (by kernel_rfl) (by simp) ?_
       intro i hi
       obtain rfl:=List.mem_singleton.1 hi
       refine Reg.wpOp_list rfl ?_
       go_wp2_with fail
       change _ ∧ _
       refine ⟨hS0,?_⟩
       refine wpAnyH_all (rs:=[12]) (by kernel_rfl) (by simp) ?_
       intro i hi
       obtain rfl:=List.mem_singleton.1 hi
       refine Reg.wpOp_list rfl ?_
       go_wp2_with fail
       change _ ∧ _
       refine ⟨hS0,?_⟩
       refine wpAnyH_done (by kernel_rfl) ?_ _
       have BZ:=Lib.hid (BWW.out.trans (hS0.mono BWW.out.size))
       have OZ:=Lib.hid (Own.owns_below HOW.out hS0)
       clear hS0 HOW HIW
       go_wp2_with fail
       go_roundg g'
       case measure=>omega
       case rel=>exact ⟨k + 1,m,some ⟨R,0,none⟩,rc,ss,by rfl,by go_num,OZ,INS,BZ,by omega,by omega,by omega⟩
      ·rw [decide_eq_false hnm] at hq
       have INS:Hid ((ss.take t ++ [x.nm] ++ ss.drop t).length = m + 1 ∧ (ss.take t ++ [x.nm] ++ ss.drop t) = insNs ((l.take (k + 1)).map Pk.nm) []):=Lib.hid ⟨by simp only [List.length_append,List.length_take,List.length_drop,List.length_singleton]; have:=HSL.out; omega,by rw [HSN.out,insN_put HSLOT.out (by rw [HY.out]; exact fun e=>hnm (Option.some.inj e))]⟩
       clear hnm
       go_upto_region 6 with fail
       refine wp_region_held (S:=fun u=>Below wr.heap.size wr u) (by kernel_rfl) ?_
       have hS0:Below wr.heap.size wr wr.drew:=(Below.refl _ _).drew
       change wpAnyH _ _ _ _ _ 13 _ _ wr.drew
       generalize wr.drew = u0 at *
       refine wpAnyH_take (i:=0) (v:=.int .i64 t) rfl (by kernel_rfl) (by kernel_rfl) (by kernel_rfl) (fun _ _ _ h=>h) (.inl ⟨rfl,fun w _=>rfl⟩) hS0 ?_
       simp only [Act.put,List.getElem_toArray,List.getElem_cons_zero,List.getElem_cons_succ,List.setIfInBounds_toArray,List.set_cons_zero,List.set_cons_succ]
       refine wpAnyH_take (i:=1) (v:=.slice (some ⟨R,0,none⟩) m rc) rfl (by kernel_rfl) (by kernel_rfl) (by kernel_rfl) (fun _ _ _ h=>h) (.inl ⟨rfl,fun w _=>rfl⟩) hS0 ?_
       simp only [Act.put,List.getElem_toArray,List.getElem_cons_zero,List.getElem_cons_succ,List.setIfInBounds_toArray,List.set_cons_zero,List.set_cons_succ]
       refine wpAnyH_all (rs:=[2]) (by kernel_rfl) (by simp) ?_
       intro i hi
       obtain rfl:=List.mem_singleton.1 hi
       refine Reg.wpOp_list rfl ?_
       go_wp2_with fail
       change _ ∧ _
       refine ⟨hS0,?_⟩
       refine wpAnyH_all (rs:=[3]) (by kernel_rfl) (by simp) ?_
       intro i hi
       obtain rfl:=List.mem_singleton.1 hi
       refine Reg.wpOp_list rfl ?_
       go_wp2_with fail
       change _ ∧ _
       refine ⟨hS0,?_⟩
       refine wpAnyH_all (rs:=[4]) (by kernel_rfl) (by simp) ?_
       intro i hi
       obtain rfl:=List.mem_singleton.1 hi
       refine Reg.wpOp_list rfl ?_
       go_wp2_with fail
       change _ ∧ _
       refine ⟨hS0,?_⟩
       refine wpAnyH_take (i:=5) (v:=.slice (some ⟨R,0,none⟩) m rc) rfl (by kernel_rfl) (by kernel_rfl) (by kernel_rfl) (fun _ _ _ h=>h) (.inl ⟨rfl,fun w _=>rfl⟩) hS0 ?_
       simp only [Act.put,List.getElem_toArray,List.getElem_cons_zero,List.getElem_cons_succ,List.setIfInBounds_toArray,List.set_cons_zero,List.set_cons_succ]
       refine wpAnyH_take (i:=6) (v:=.int .i64 t) rfl (by kernel_rfl) (by kernel_rfl) (by kernel_rfl) (fun _ _ _ h=>h) (.inl ⟨rfl,fun w _=>rfl⟩) hS0 ?_
       simp only [Act.put,List.getElem_toArray,List.getElem_cons_zero,List.getElem_cons_succ,List.setIfInBounds_toArray,List.set_cons_zero,List.set_cons_succ]
       refine wpAnyH_take (i:=7) (v:=.pointer (some ⟨R,t,none⟩)) rfl (by kernel_rfl) (by kernel_rfl) (by kernel_rfl) (fun _ _ _ h=>h) (.inl ⟨rfl,fun w _=>by simp [execOp,go_sem,Addr.add,htl] <;> first | omega | (intro h; omega) | (intro h; simp [h])⟩) hS0 ?_
       simp only [Act.put,List.getElem_toArray,List.getElem_cons_zero,List.getElem_cons_succ,List.setIfInBounds_toArray,List.set_cons_zero,List.set_cons_succ]
       refine wpAnyH_take (i:=8) (v:=.string (S y)) rfl (by kernel_rfl) (by kernel_rfl) (by kernel_rfl) (fun _ _ _ h=>h) (Held.load1 rfl 9 (.tmp 20) rfl R t rfl _ _ CY.out Tryz.underlying9 rfl) hS0 ?_
       simp only [Act.put,List.getElem_toArray,List.getElem_cons_zero,List.getElem_cons_succ,List.setIfInBounds_toArray,List.set_cons_zero,List.set_cons_succ]
       refine wpAnyH_take (i:=9) (v:=.pointer (some ⟨bx,0,none⟩)) rfl (by kernel_rfl) (by kernel_rfl) (by kernel_rfl) (fun _ _ _ h=>h) (.inl ⟨rfl,fun w _=>rfl⟩) hS0 ?_
       simp only [Act.put,List.getElem_toArray,List.getElem_cons_zero,List.getElem_cons_succ,List.setIfInBounds_toArray,List.set_cons_zero,List.set_cons_succ]
       refine wpAnyH_take (i:=10) (v:=.string (S x.nm)) rfl (by kernel_rfl) (by kernel_rfl) (by kernel_rfl) (fun _ _ _ h=>h) (Held.load1 rfl 9 (.tmp 22) rfl bx 0 rfl _ _ CX.out Tryz.underlying9 rfl) hS0 ?_
       simp only [Act.put,List.getElem_toArray,List.getElem_cons_zero,List.getElem_cons_succ,List.setIfInBounds_toArray,List.set_cons_zero,List.set_cons_succ]
       refine wpAnyH_all (rs:=[11]) (by kernel_rfl) (by simp) ?_
       intro i hi
       obtain rfl:=List.mem_singleton.1 hi
       refine Reg.wpOp_list rfl ?_
       go_wp2_with fail
       change _ ∧ _
       refine ⟨hS0,?_⟩
       refine wpAnyH_all (rs:=[12]) (by kernel_rfl) (by simp) ?_
       intro i hi
       obtain rfl:=List.mem_singleton.1 hi
       refine Reg.wpOp_list rfl ?_
       go_wp2_with fail
       change _ ∧ _
       refine ⟨hS0,?_⟩
       refine wpAnyH_done (by kernel_rfl) ?_ _
       have B6:=Lib.hid hS0
       clear hS0
       generalize u0 = wb at *
       have hown':=Own.owns_below HOW.out B6.out
       have hisw':=Rl.is_on HIW.out B6.out
       have hbww':=BWW.out.trans (B6.out.mono BWW.out.size)
       clear HOW HIW BWW
       have HOW:=Lib.hid hown'
       have HIW:=Lib.hid hisw'
       have BWW:=Lib.hid hbww'
       clear hown' hisw' hbww'
       clear B6
       have CY:Hid (∀ u,Below wb.heap.size wb u → u.cell? ⟨R,t,none⟩ = some (.string (S y))):=Lib.hid fun u hu=>Rl.cell_on (txs_at HOW.out HY.out) hu
       have CX:Hid (∀ u,Below wb.heap.size wb u → u.cell? ⟨bx,0,none⟩ = some (.string (S x.nm))):=Lib.hid fun u hu=>(Rl.is_on HIW.out hu).at (i:=0) rfl
       go_upto_region 8 with fail
       refine wp_region_held (S:=fun u=>Below wb.heap.size wb u) (by kernel_rfl) ?_
       have hS0:Below wb.heap.size wb wb.drew:=(Below.refl _ _).drew
       change wpAnyH _ _ _ _ _ 13 _ _ wb.drew
       generalize wb.drew = u0 at *
       refine wpAnyH_take (i:=0) (v:=.int .i64 t) rfl (by kernel_rfl) (by kernel_rfl) (by kernel_rfl) (fun _ _ _ h=>h) (.inl ⟨rfl,fun w _=>rfl⟩) hS0 ?_
       simp only [Act.put,List.getElem_toArray,List.getElem_cons_zero,List.getElem_cons_succ,List.setIfInBounds_toArray,List.set_cons_zero,List.set_cons_succ]
       refine wpAnyH_take (i:=1) (v:=.slice (some ⟨R,0,none⟩) m rc) rfl (by kernel_rfl) (by kernel_rfl) (by kernel_rfl) (fun _ _ _ h=>h) (.inl ⟨rfl,fun w _=>rfl⟩) hS0 ?_
       simp only [Act.put,List.getElem_toArray,List.getElem_cons_zero,List.getElem_cons_succ,List.setIfInBounds_toArray,List.set_cons_zero,List.set_cons_succ]
       refine wpAnyH_all (rs:=[2]) (by kernel_rfl) (by simp) ?_
       intro i hi
       obtain rfl:=List.mem_singleton.1 hi
       refine Reg.wpOp_list rfl ?_
       go_wp2_with fail
       change _ ∧ _
       refine ⟨hS0,?_⟩
       refine wpAnyH_all (rs:=[3]) (by kernel_rfl) (by simp) ?_
       intro i hi
       obtain rfl:=List.mem_singleton.1 hi
       refine Reg.wpOp_list rfl ?_
       go_wp2_with fail
       change _ ∧ _
       refine ⟨hS0,?_⟩
       refine wpAnyH_all (rs:=[4]) (by kernel_rfl) (by simp) ?_
       intro i hi
       obtain rfl:=List.mem_singleton.1 hi
       refine Reg.wpOp_list rfl ?_
       go_wp2_with fail
       change _ ∧ _
       refine ⟨hS0,?_⟩
       refine wpAnyH_take (i:=5) (v:=.slice (some ⟨R,0,none⟩) m rc) rfl (by kernel_rfl) (by kernel_rfl) (by kernel_rfl) (fun _ _ _ h=>h) (.inl ⟨rfl,fun w _=>rfl⟩) hS0 ?_
       simp only [Act.put,List.getElem_toArray,List.getElem_cons_zero,List.getElem_cons_succ,List.setIfInBounds_toArray,List.set_cons_zero,List.set_cons_succ]
       refine wpAnyH_take (i:=6) (v:=.int .i64 t) rfl (by kernel_rfl) (by kernel_rfl) (by kernel_rfl) (fun _ _ _ h=>h) (.inl ⟨rfl,fun w _=>rfl⟩) hS0 ?_
       simp only [Act.put,List.getElem_toArray,List.getElem_cons_zero,List.getElem_cons_succ,List.setIfInBounds_toArray,List.set_cons_zero,List.set_cons_succ]
       refine wpAnyH_take (i:=7) (v:=.pointer (some ⟨R,t,none⟩)) rfl (by kernel_rfl) (by kernel_rfl) (by kernel_rfl) (fun _ _ _ h=>h) (.inl ⟨rfl,fun w _=>by simp [execOp,go_sem,Addr.add,htl] <;> first | omega | (intro h; omega) | (intro h; simp [h])⟩) hS0 ?_
       simp only [Act.put,List.getElem_toArray,List.getElem_cons_zero,List.getElem_cons_succ,List.setIfInBounds_toArray,List.set_cons_zero,List.set_cons_succ]
       refine wpAnyH_take (i:=8) (v:=.string (S y)) rfl (by kernel_rfl) (by kernel_rfl) (by kernel_rfl) (fun _ _ _ h=>h) (Held.load1 rfl 9 (.tmp 35) rfl R t rfl _ _ CY.out Tryz.underlying9 rfl) hS0 ?_
       simp only [Act.put,List.getElem_toArray,List.getElem_cons_zero,List.getElem_cons_succ,List.setIfInBounds_toArray,List.set_cons_zero,List.set_cons_succ]
       refine wpAnyH_take (i:=9) (v:=.pointer (some ⟨bx,0,none⟩)) rfl (by kernel_rfl) (by kernel_rfl) (by kernel_rfl) (fun _ _ _ h=>h) (.inl ⟨rfl,fun w _=>rfl⟩) hS0 ?_
       simp only [Act.put,List.getElem_toArray,List.getElem_cons_zero,List.getElem_cons_succ,List.setIfInBounds_toArray,List.set_cons_zero,List.set_cons_succ]
       refine wpAnyH_take (i:=10) (v:=.string (S x.nm)) rfl (by kernel_rfl) (by kernel_rfl) (by kernel_rfl) (fun _ _ _ h=>h) (Held.load1 rfl 9 (.tmp 37) rfl bx 0 rfl _ _ CX.out Tryz.underlying9 rfl) hS0 ?_
       simp only [Act.put,List.getElem_toArray,List.getElem_cons_zero,List.getElem_cons_succ,List.setIfInBounds_toArray,List.set_cons_zero,List.set_cons_succ]
       refine wpAnyH_all (rs:=[11]) (by kernel_rfl) (by simp) ?_
       intro i hi
       obtain rfl:=List.mem_singleton.1 hi
       refine Reg.wpOp_list rfl ?_
       go_wp2_with fail
       change _ ∧ _
       refine ⟨hS0,?_⟩
       refine wpAnyH_all (rs:=[12]) (by kernel_rfl) (by simp) ?_
       intro i hi
       obtain rfl:=List.mem_singleton.1 hi
       refine Reg.wpOp_list rfl ?_
       go_wp2_with fail
       change _ ∧ _
       refine ⟨hS0,?_⟩
       refine wpAnyH_done (by kernel_rfl) ?_ _
       have B8:=Lib.hid hS0
       clear hS0
       generalize u0 = wc at *
       have hown':=Own.owns_below HOW.out B8.out
       have hisw':=Rl.is_on HIW.out B8.out
       have hbww':=BWW.out.trans (B8.out.mono BWW.out.size)
       clear HOW HIW BWW
       have HOW:=Lib.hid hown'
       have HIW:=Lib.hid hisw'
       have BWW:=Lib.hid hbww'
       clear hown' hisw' hbww'
       clear B8 CY CX
       have hob:=HOW.out
       have hib:=HIW.out
       have hle:t ≤ m:=by omega
       have h60:m ≤ 60000:=by omega
       obtain ⟨_,_,eo,hrc⟩:=Rl.own_shape hob
       simp only [Value.slice.injEq,true_and] at eo
       obtain ⟨hx9,rfl⟩:=eo
       clear hx9
       obtain ⟨vt,hrun,hslt⟩:=tail_tx hob HSL.out hle h60
       obtain ⟨HC,hHC⟩:∃ HC,txs (ss.take t) = HC:=⟨_,rfl⟩
       obtain ⟨TC,hTC⟩:∃ TC,txs (ss.drop t) = TC:=⟨_,rfl⟩
       have SH:Hid (∀ u,Below wc.heap.size wc u → Src Tryz.prog 1 32 (.slice (some ⟨R,0,none⟩) t rc) t HC u):=Lib.hid fun u hu=>by
        have h:=txs_src (head_tx (Own.owns_below hob hu) HSL.out hle h60)
        rw [hHC,List.length_take,HSL.out,Nat.min_eq_left hle] at h
        exact h
       have ST:Hid (∀ u,Below wc.heap.size wc u → Src Tryz.prog 1 32 vt (m - t) TC u):=Lib.hid fun u hu=>by
        have h:=txs_src (hslt u hu)
        rw [hTC,List.length_drop,HSL.out] at h
        exact h
       have CX:Hid (∀ u,Below wc.heap.size wc u → u.cell? ⟨bx,0,none⟩ = some (.string (S x.nm))):=Lib.hid fun u hu=>(Rl.is_on hib hu).at (i:=0) rfl
       have HEADH:=Lib.hid (fun w=>at_sliceN (w:=w) (slice_headN (some ⟨R,0,none⟩) m rc t (by omega) w))
       have TAILH:=Lib.hid (fun w=>at_sliceN (hrun w))
       have HHC:=Lib.hid hHC
       have HTC:=Lib.hid hTC
       obtain ⟨i0,hi0,hz0,hz1,hz2⟩:=info_parts infoTx
       have HI0:=Lib.hid hi0
       clear hob hib hrun hslt hHC hTC hi0
       go_upto_region 9 with fail
       refine wp_region_held (S:=fun u=>Below wc.heap.size wc u) (by kernel_rfl) ?_
       have hS0:Below wc.heap.size wc wc.drew:=(Below.refl _ _).drew
       change wpAnyH _ _ _ _ _ 13 _ _ wc.drew
       generalize wc.drew = u0 at *
       refine wpAnyH_take (i:=0) (v:=.slice (some ⟨R,0,none⟩) m rc) rfl (by kernel_rfl) (by kernel_rfl) (by kernel_rfl) (fun _ _ _ h=>h) (.inl ⟨rfl,fun w _=>rfl⟩) hS0 ?_
       simp only [Act.put,List.getElem_toArray,List.getElem_cons_zero,List.getElem_cons_succ,List.setIfInBounds_toArray,List.set_cons_zero,List.set_cons_succ]
       refine wpAnyH_take (i:=1) (v:=.int .i64 t) rfl (by kernel_rfl) (by kernel_rfl) (by kernel_rfl) (fun _ _ _ h=>h) (.inl ⟨rfl,fun w _=>rfl⟩) hS0 ?_
       simp only [Act.put,List.getElem_toArray,List.getElem_cons_zero,List.getElem_cons_succ,List.setIfInBounds_toArray,List.set_cons_zero,List.set_cons_succ]
       refine wpAnyH_take (i:=8) (v:=.slice (some ⟨R,0,none⟩) m rc) rfl (by kernel_rfl) (by kernel_rfl) (by kernel_rfl) (fun _ _ _ h=>h) (.inl ⟨rfl,fun w _=>rfl⟩) hS0 ?_
       simp only [Act.put,List.getElem_toArray,List.getElem_cons_zero,List.getElem_cons_succ,List.setIfInBounds_toArray,List.set_cons_zero,List.set_cons_succ]
       refine wpAnyH_take (i:=9) (v:=.int .i64 t) rfl (by kernel_rfl) (by kernel_rfl) (by kernel_rfl) (fun _ _ _ h=>h) (.inl ⟨rfl,fun w _=>rfl⟩) hS0 ?_
       simp only [Act.put,List.getElem_toArray,List.getElem_cons_zero,List.getElem_cons_succ,List.setIfInBounds_toArray,List.set_cons_zero,List.set_cons_succ]
       refine wpAnyH_take (i:=2) (v:=.slice (some ⟨R,0,none⟩) t rc) rfl (by kernel_rfl) (by kernel_rfl) (by kernel_rfl) (fun _ _ _ h=>h) (.inl ⟨rfl,fun w _=>by simp [execOp]; erw [HEADH.out w]; rfl⟩) hS0 ?_
       simp only [Act.put,List.getElem_toArray,List.getElem_cons_zero,List.getElem_cons_succ,List.setIfInBounds_toArray,List.set_cons_zero,List.set_cons_succ]
       refine wpAnyH_take (i:=10) (v:=vt) rfl (by kernel_rfl) (by kernel_rfl) (by kernel_rfl) (fun _ _ _ h=>h) (.inl ⟨rfl,fun w _=>by simp [execOp]; erw [TAILH.out w]; rfl⟩) hS0 ?_
       simp only [Act.put,List.getElem_toArray,List.getElem_cons_zero,List.getElem_cons_succ,List.setIfInBounds_toArray,List.set_cons_zero,List.set_cons_succ]
       refine wpAnyH_take (i:=4) (v:=.pointer (some ⟨bx,0,none⟩)) rfl (by kernel_rfl) (by kernel_rfl) (by kernel_rfl) (fun _ _ _ h=>h) (.inl ⟨rfl,fun w _=>rfl⟩) hS0 ?_
       simp only [Act.put,List.getElem_toArray,List.getElem_cons_zero,List.getElem_cons_succ,List.setIfInBounds_toArray,List.set_cons_zero,List.set_cons_succ]
       refine wpAnyH_take (i:=5) (v:=.string (S x.nm)) rfl (by kernel_rfl) (by kernel_rfl) (by kernel_rfl) (fun _ _ _ h=>h) (Held.load1 rfl 9 (.tmp 45) rfl bx 0 rfl _ _ CX.out Tryz.underlying9 rfl) hS0 ?_
       simp only [Act.put,List.getElem_toArray,List.getElem_cons_zero,List.getElem_cons_succ,List.setIfInBounds_toArray,List.set_cons_zero,List.set_cons_succ]
       refine wpAnyH_all (rs:=[3,6]) (by kernel_rfl) (by simp) ?_
       intro i hi
       simp only [List.mem_cons,List.not_mem_nil,or_false] at hi
       rcases hi with rfl | rfl
       ·have hz:=hS0.size
        refine Reg.wpOp_list rfl ?_
        (refine Own.wpList_append_src rfl (.const (.slice none 0 0)) (.tmp 43) 32 32 rfl wc.heap.size 9 i0 _ 1 16 Tryz.underlying32 HI0.out hz0 hz1 hz2 rfl _ 0 [] rfl (World.ownsRow_nil _ _ _ _) _ t HC rfl (SH.out _ hS0) (by simp only [maxLen]; omega) (by omega) hz ?_; intro v3 u1 o3 g3)
        go_wp2_with fail
        change _ ∧ _
        have hS1:Below wc.heap.size wc u1:=Own.below_grown hS0 (World.ownsRow_nil u0 wc.heap.size 9 1) g3 hz
        rw [Nat.zero_add,List.nil_append] at o3
        have O3:=Lib.hid o3
        refine ⟨hS1,?_⟩
        clear o3 g3 hz
        have hba:=(Below.refl u1.heap.size u1).alloc (Nat.le_refl _) (.cells #[.string (S x.nm)] 9)
        have ia5:=Blk.Is.new u1 9 #[.string (S x.nm)]
        obtain ⟨u2,hu2⟩:∃ u2,u1.alloc (.cells #[.string (S x.nm)] 9) = u2:=⟨_,rfl⟩
        rw [hu2] at hba ia5
        have hS2:Below wc.heap.size wc u2:=hS1.trans (hba.mono hS1.size)
        have I5:=Lib.hid ia5
        obtain ⟨b5,hb5⟩:∃ b5,u1.heap.size = b5:=⟨_,rfl⟩
        rw [hb5] at I5
        have O3':=Lib.hid (Own.owns_below O3.out hba)
        clear O3
        have O3:=O3'
        clear O3'
        refine wpAnyH_all (rs:=[6]) (by kernel_rfl) (by simp) ?_
        intro i hi
        obtain rfl:=List.mem_singleton.1 hi
        refine Reg.wpOp_list rfl ?_
        go_wp2_with fail
        change _ ∧ _
        refine ⟨hS2,?_⟩
        clear hu2 hba ia5 hb5
        refine wpAnyH_all (rs:=[7]) (by kernel_rfl) (by simp) ?_
        intro i hi
        obtain rfl:=List.mem_singleton.1 hi
        have hz:=hS2.size
        have S5:=txs_src (w:=u2) (v:=.slice (some ⟨b5,0,none⟩) 1 1) (l:=[x.nm]) ⟨by simp,_,1,rfl,by simp,fun _=>⟨b5,0,rfl,fun i hi=>by
         have:i = 0:=by have:i < 1:=hi; omega
         subst this
         exact I5.out.at (i:=0) rfl⟩⟩
        refine Reg.wpOp_list rfl ?_
        (refine Own.wpList_append_src rfl (.tmp 44) (.tmp 47) 32 32 rfl wc.heap.size 9 i0 _ 1 16 Tryz.underlying32 HI0.out hz0 hz1 hz2 rfl v3 t HC rfl O3.out (.slice (some ⟨b5,0,none⟩) 1 1) 1 (txs [x.nm]) rfl S5 (by simp only [maxLen]; omega) (by omega) hz ?_; intro v6 u3 o6 g6)
        go_wp2_with fail
        change _ ∧ _
        have hS3:Below wc.heap.size wc u3:=Own.below_grown hS2 O3.out g6 hz
        have O6:=Lib.hid o6
        refine ⟨hS3,?_⟩
        clear o6 g6 hz O3 I5 S5
        refine wpAnyH_all (rs:=[11]) (by kernel_rfl) (by simp) ?_
        intro i hi
        obtain rfl:=List.mem_singleton.1 hi
        have hz:=hS3.size
        refine Reg.wpOp_list rfl ?_
        (refine Own.wpList_append_src rfl (.tmp 48) (.tmp 51) 32 32 rfl wc.heap.size 9 i0 _ 1 16 Tryz.underlying32 HI0.out hz0 hz1 hz2 rfl v6 (t + 1) (HC ++ txs [x.nm]) rfl O6.out vt (m - t) TC rfl (ST.out _ hS3) (by simp only [maxLen]; omega) (by omega) hz ?_; intro v10 u4 o10 g10)
        go_wp2_with fail
        change _ ∧ _
        have hS4:Below wc.heap.size wc u4:=Own.below_grown hS3 O6.out g10 hz
        rw [show t + 1 + (m - t) = m + 1 by omega] at o10
        obtain ⟨a10,c10,rfl,_⟩:=Rl.own_shape o10
        have O10:=Lib.hid o10
        refine ⟨hS4,?_⟩
        clear o10 g10 hz O6
        refine wpAnyH_all (rs:=[12]) (by kernel_rfl) (by simp) ?_
        intro i hi
        obtain rfl:=List.mem_singleton.1 hi
        refine Reg.wpOp_list rfl ?_
        go_wp2_with fail
        change _ ∧ _
        refine ⟨hS4,?_⟩
        refine wpAnyH_done (by kernel_rfl) ?_ _
        have hbz:=BWW.out.trans (hS4.mono BWW.out.size)
        have hfin:=Rl.own_mono O10.out BWW.out.size
        have hcat:(HC ++ txs [x.nm]) ++ TC = txs (ss.take t ++ [x.nm] ++ ss.drop t):=by
         rw [← HHC.out,← HTC.out]
         unfold txs
         simp
        rw [hcat] at hfin
        have HFIN:=Lib.hid hfin
        have BZ:=Lib.hid hbz
        clear hS0 hS1 hS2 hS3 hS4 hbz hfin hcat
        go_wp2_with fail
        go_roundg g'
        case measure=>omega
        case rel=>exact ⟨k + 1,m + 1,a10,c10,ss.take t ++ [x.nm] ++ ss.drop t,rfl,by go_num,HFIN,INS,BZ,by omega,by omega,by omega⟩
       ·have hba:=(Below.refl u0.heap.size u0).alloc (Nat.le_refl _) (.cells #[.string (S x.nm)] 9)
        have ia5:=Blk.Is.new u0 9 #[.string (S x.nm)]
        obtain ⟨u1,hu1⟩:∃ u1,u0.alloc (.cells #[.string (S x.nm)] 9) = u1:=⟨_,rfl⟩
        rw [hu1] at hba ia5
        have hS1:Below wc.heap.size wc u1:=hS0.trans (hba.mono hS0.size)
        have I5:=Lib.hid ia5
        obtain ⟨b5,hb5⟩:∃ b5,u0.heap.size = b5:=⟨_,rfl⟩
        rw [hb5] at I5
        refine Reg.wpOp_list rfl ?_
        go_wp2_with fail
        change _ ∧ _
        refine ⟨hS1,?_⟩
        clear hu1 hba ia5 hb5
        refine wpAnyH_all (rs:=[3]) (by kernel_rfl) (by simp) ?_
        intro i hi
        obtain rfl:=List.mem_singleton.1 hi
        have hz:=hS1.size
        refine Reg.wpOp_list rfl ?_
        (refine Own.wpList_append_src rfl (.const (.slice none 0 0)) (.tmp 43) 32 32 rfl wc.heap.size 9 i0 _ 1 16 Tryz.underlying32 HI0.out hz0 hz1 hz2 rfl _ 0 [] rfl (World.ownsRow_nil _ _ _ _) _ t HC rfl (SH.out _ hS1) (by simp only [maxLen]; omega) (by omega) hz ?_; intro v3 u2 o3 g3)
        go_wp2_with fail
        change _ ∧ _
        have hS2:Below wc.heap.size wc u2:=Own.below_grown hS1 (World.ownsRow_nil u1 wc.heap.size 9 1) g3 hz
        rw [Nat.zero_add,List.nil_append] at o3
        have O3:=Lib.hid o3
        have I5':=Rl.is_on I5.out (Own.below_grown (Below.refl u1.heap.size u1) (World.ownsRow_nil u1 u1.heap.size 9 1) g3 (Nat.le_refl _))
        clear I5
        have I5:=Lib.hid I5'
        refine ⟨hS2,?_⟩
        clear o3 g3 hz
        refine wpAnyH_all (rs:=[7]) (by kernel_rfl) (by simp) ?_
        intro i hi
        obtain rfl:=List.mem_singleton.1 hi
        have hz:=hS2.size
        have S5:=txs_src (w:=u2) (v:=.slice (some ⟨b5,0,none⟩) 1 1) (l:=[x.nm]) ⟨by simp,_,1,rfl,by simp,fun _=>⟨b5,0,rfl,fun i hi=>by
         have:i = 0:=by have:i < 1:=hi; omega
         subst this
         exact I5.out.at (i:=0) rfl⟩⟩
        refine Reg.wpOp_list rfl ?_
        (refine Own.wpList_append_src rfl (.tmp 44) (.tmp 47) 32 32 rfl wc.heap.size 9 i0 _ 1 16 Tryz.underlying32 HI0.out hz0 hz1 hz2 rfl v3 t HC rfl O3.out (.slice (some ⟨b5,0,none⟩) 1 1) 1 (txs [x.nm]) rfl S5 (by simp only [maxLen]; omega) (by omega) hz ?_; intro v6 u3 o6 g6)
        go_wp2_with fail
        change _ ∧ _
        have hS3:Below wc.heap.size wc u3:=Own.below_grown hS2 O3.out g6 hz
        have O6:=Lib.hid o6
        refine ⟨hS3,?_⟩
        clear o6 g6 hz O3 I5 S5
        refine wpAnyH_all (rs:=[11]) (by kernel_rfl) (by simp) ?_
        intro i hi
        obtain rfl:=List.mem_singleton.1 hi
        have hz:=hS3.size
        refine Reg.wpOp_list rfl ?_
        (refine Own.wpList_append_src rfl (.tmp 48) (.tmp 51) 32 32 rfl wc.heap.size 9 i0 _ 1 16 Tryz.underlying32 HI0.out hz0 hz1 hz2 rfl v6 (t + 1) (HC ++ txs [x.nm]) rfl O6.out vt (m - t) TC rfl (ST.out _ hS3) (by simp only [maxLen]; omega) (by omega) hz ?_; intro v10 u4 o10 g10)
        go_wp2_with fail
        change _ ∧ _
        have hS4:Below wc.heap.size wc u4:=Own.below_grown hS3 O6.out g10 hz
        rw [show t + 1 + (m - t) = m + 1 by omega] at o10
        obtain ⟨a10,c10,rfl,_⟩:=Rl.own_shape o10
        have O10:=Lib.hid o10
        refine ⟨hS4,?_⟩
        clear o10 g10 hz O6
        refine wpAnyH_all (rs:=[12]) (by kernel_rfl) (by simp) ?_
        intro i hi
        obtain rfl:=List.mem_singleton.1 hi
        refine Reg.wpOp_list rfl ?_
        go_wp2_with fail
        change _ ∧ _
        refine ⟨hS4,?_⟩
        refine wpAnyH_done (by kernel_rfl) ?_ _
        have hbz:=BWW.out.trans (hS4.mono BWW.out.size)
        have hfin:=Rl.own_mono O10.out BWW.out.size
        have hcat:(HC ++ txs [x.nm]) ++ TC = txs (ss.take t ++ [x.nm] ++ ss.drop t):=by
         rw [← HHC.out,← HTC.out]
         unfold txs
         simp
        rw [hcat] at hfin
        have HFIN:=Lib.hid hfin
        have BZ:=Lib.hid hbz
        clear hS0 hS1 hS2 hS3 hS4 hbz hfin hcat
        go_wp2_with fail
        go_roundg g'
        case measure=>omega
        case rel=>exact ⟨k + 1,m + 1,a10,c10,ss.take t ++ [x.nm] ++ ss.drop t,rfl,by go_num,HFIN,INS,BZ,by omega,by omega,by omega⟩
    ·obtain rfl:t = m:=by omega
     have hge:¬ (t:Int) < (t:Int):=by omega
     have hte:((t:Int) == (t:Int)) = true:=by simp
     have HSLOT:Hid (slotN x.nm ss = t):=Lib.hid (slotN_of HE.out (by rw [HSL.out]; omega) fun z hz=>by rw [List.getElem?_eq_none (by rw [HSL.out]; exact Nat.le_refl _)] at hz; cases hz)
     have INS:Hid ((ss.take t ++ [x.nm] ++ ss.drop t).length = t + 1 ∧ (ss.take t ++ [x.nm] ++ ss.drop t) = insNs ((l.take (k + 1)).map Pk.nm) []):=Lib.hid ⟨by simp only [List.length_append,List.length_take,List.length_drop,List.length_singleton]; have:=HSL.out; omega,by rw [HSN.out,insN_put HSLOT.out (by rw [List.getElem?_eq_none (by rw [HSL.out]; exact Nat.le_refl _)]; simp)]⟩
     clear HE
     go_upto_region 6 with fail
     refine wp_region_held (S:=fun u=>Below wr.heap.size wr u) (by kernel_rfl) ?_
     have hS0:Below wr.heap.size wr wr.drew:=(Below.refl _ _).drew
     change wpAnyH _ _ _ _ _ 13 _ _ wr.drew
     generalize wr.drew = u0 at *
     refine wpAnyH_take (i:=0) (v:=.int .i64 t) rfl (by kernel_rfl) (by kernel_rfl) (by kernel_rfl) (fun _ _ _ h=>h) (.inl ⟨rfl,fun w _=>rfl⟩) hS0 ?_
     simp only [Act.put,List.getElem_toArray,List.getElem_cons_zero,List.getElem_cons_succ,List.setIfInBounds_toArray,List.set_cons_zero,List.set_cons_succ]
     refine wpAnyH_take (i:=1) (v:=.slice ra t rc) rfl (by kernel_rfl) (by kernel_rfl) (by kernel_rfl) (fun _ _ _ h=>h) (.inl ⟨rfl,fun w _=>rfl⟩) hS0 ?_
     simp only [Act.put,List.getElem_toArray,List.getElem_cons_zero,List.getElem_cons_succ,List.setIfInBounds_toArray,List.set_cons_zero,List.set_cons_succ]
     refine wpAnyH_all (rs:=[2]) (by kernel_rfl) (by simp) ?_
     intro i hi
     obtain rfl:=List.mem_singleton.1 hi
     refine Reg.wpOp_list rfl ?_
     go_wp2_with fail
     change _ ∧ _
     refine ⟨hS0,?_⟩
     refine wpAnyH_all (rs:=[3]) (by kernel_rfl) (by simp) ?_
     intro i hi
     obtain rfl:=List.mem_singleton.1 hi
     refine Reg.wpOp_list rfl ?_
     go_wp2_with fail
     change _ ∧ _
     refine ⟨hS0,?_⟩
     refine wpAnyH_all (rs:=[4]) (by kernel_rfl) (by simp) ?_
     intro i hi
     obtain rfl:=List.mem_singleton.1 hi
     refine Reg.wpOp_list rfl ?_
     go_wp2_with fail
     change _ ∧ _
     refine ⟨hS0,?_⟩
     refine wpAnyH_take (i:=5) (v:=undef) rfl (by kernel_rfl) (by kernel_rfl) (by kernel_rfl) (fun _ _ _ h=>h) (.inr ⟨by kernel_rfl,rfl⟩) hS0 ?_
     simp only [Act.put,List.getElem_toArray,List.getElem_cons_zero,List.getElem_cons_succ,List.setIfInBounds_toArray,List.set_cons_zero,List.set_cons_succ]
     refine wpAnyH_take (i:=6) (v:=undef) rfl (by kernel_rfl) (by kernel_rfl) (by kernel_rfl) (fun _ _ _ h=>h) (.inr ⟨by kernel_rfl,rfl⟩) hS0 ?_
     simp only [Act.put,List.getElem_toArray,List.getElem_cons_zero,List.getElem_cons_succ,List.setIfInBounds_toArray,List.set_cons_zero,List.set_cons_succ]
     refine wpAnyH_take (i:=7) (v:=undef) rfl (by kernel_rfl) (by kernel_rfl) (by kernel_rfl) (fun _ _ _ h=>h) (.inr ⟨by kernel_rfl,rfl⟩) hS0 ?_
     simp only [Act.put,List.getElem_toArray,List.getElem_cons_zero,List.getElem_cons_succ,List.setIfInBounds_toArray,List.set_cons_zero,List.set_cons_succ]
     refine wpAnyH_take (i:=8) (v:=undef) rfl (by kernel_rfl) (by kernel_rfl) (by kernel_rfl) (fun _ _ _ h=>h) (.inr ⟨by kernel_rfl,rfl⟩) hS0 ?_
     simp only [Act.put,List.getElem_toArray,List.getElem_cons_zero,List.getElem_cons_succ,List.setIfInBounds_toArray,List.set_cons_zero,List.set_cons_succ]
     refine wpAnyH_take (i:=9) (v:=undef) rfl (by kernel_rfl) (by kernel_rfl) (by kernel_rfl) (fun _ _ _ h=>h) (.inr ⟨by kernel_rfl,rfl⟩) hS0 ?_
     simp only [Act.put,List.getElem_toArray,List.getElem_cons_zero,List.getElem_cons_succ,List.setIfInBounds_toArray,List.set_cons_zero,List.set_cons_succ]
     refine wpAnyH_take (i:=10) (v:=undef) rfl (by kernel_rfl) (by kernel_rfl) (by kernel_rfl) (fun _ _ _ h=>h) (.inr ⟨by kernel_rfl,rfl⟩) hS0 ?_
     simp only [Act.put,List.getElem_toArray,List.getElem_cons_zero,List.getElem_cons_succ,List.setIfInBounds_toArray,List.set_cons_zero,List.set_cons_succ]
     refine wpAnyH_take (i:=11) (v:=undef) rfl (by kernel_rfl) (by kernel_rfl) (by kernel_rfl) (fun _ _ _ h=>h) (.inr ⟨by kernel_rfl,rfl⟩) hS0 ?_
     simp only [Act.put,List.getElem_toArray,List.getElem_cons_zero,List.getElem_cons_succ,List.setIfInBounds_toArray,List.set_cons_zero,List.set_cons_succ]
     refine wpAnyH_all (rs:=[12]) (by kernel_rfl) (by simp) ?_
     intro i hi
     obtain rfl:=List.mem_singleton.1 hi
     refine Reg.wpOp_list rfl ?_
     go_wp2_with fail
     change _ ∧ _
     refine ⟨hS0,?_⟩
     refine wpAnyH_done (by kernel_rfl) ?_ _
     have B6:=Lib.hid hS0
     clear hS0
     generalize u0 = wb at *
     have hown':=Own.owns_below HOW.out B6.out
     have hisw':=Rl.is_on HIW.out B6.out
     have hbww':=BWW.out.trans (B6.out.mono BWW.out.size)
     clear HOW HIW BWW
     have HOW:=Lib.hid hown'
     have HIW:=Lib.hid hisw'
     have BWW:=Lib.hid hbww'
     clear hown' hisw' hbww'
     clear B6
     go_upto_region 8 with fail
     refine wp_region_held (S:=fun u=>Below wb.heap.size wb u) (by kernel_rfl) ?_
     have hS0:Below wb.heap.size wb wb.drew:=(Below.refl _ _).drew
     change wpAnyH _ _ _ _ _ 13 _ _ wb.drew
     generalize wb.drew = u0 at *
     refine wpAnyH_take (i:=0) (v:=.int .i64 t) rfl (by kernel_rfl) (by kernel_rfl) (by kernel_rfl) (fun _ _ _ h=>h) (.inl ⟨rfl,fun w _=>rfl⟩) hS0 ?_
     simp only [Act.put,List.getElem_toArray,List.getElem_cons_zero,List.getElem_cons_succ,List.setIfInBounds_toArray,List.set_cons_zero,List.set_cons_succ]
     refine wpAnyH_take (i:=1) (v:=.slice ra t rc) rfl (by kernel_rfl) (by kernel_rfl) (by kernel_rfl) (fun _ _ _ h=>h) (.inl ⟨rfl,fun w _=>rfl⟩) hS0 ?_
     simp only [Act.put,List.getElem_toArray,List.getElem_cons_zero,List.getElem_cons_succ,List.setIfInBounds_toArray,List.set_cons_zero,List.set_cons_succ]
     refine wpAnyH_all (rs:=[2]) (by kernel_rfl) (by simp) ?_
     intro i hi
     obtain rfl:=List.mem_singleton.1 hi
     refine Reg.wpOp_list rfl ?_
     go_wp2_with fail
     change _ ∧ _
     refine ⟨hS0,?_⟩
     refine wpAnyH_all (rs:=[3]) (by kernel_rfl) (by simp) ?_
     intro i hi
     obtain rfl:=List.mem_singleton.1 hi
     refine Reg.wpOp_list rfl ?_
     go_wp2_with fail
     change _ ∧ _
     refine ⟨hS0,?_⟩
     refine wpAnyH_all (rs:=[4]) (by kernel_rfl) (by simp) ?_
     intro i hi
     obtain rfl:=List.mem_singleton.1 hi
     refine Reg.wpOp_list rfl ?_
     go_wp2_with fail
     change _ ∧ _
     refine ⟨hS0,?_⟩
     refine wpAnyH_take (i:=5) (v:=undef) rfl (by kernel_rfl) (by kernel_rfl) (by kernel_rfl) (fun _ _ _ h=>h) (.inr ⟨by kernel_rfl,rfl⟩) hS0 ?_
     simp only [Act.put,List.getElem_toArray,List.getElem_cons_zero,List.getElem_cons_succ,List.setIfInBounds_toArray,List.set_cons_zero,List.set_cons_succ]
     refine wpAnyH_take (i:=6) (v:=undef) rfl (by kernel_rfl) (by kernel_rfl) (by kernel_rfl) (fun _ _ _ h=>h) (.inr ⟨by kernel_rfl,rfl⟩) hS0 ?_
     simp only [Act.put,List.getElem_toArray,List.getElem_cons_zero,List.getElem_cons_succ,List.setIfInBounds_toArray,List.set_cons_zero,List.set_cons_succ]
     refine wpAnyH_take (i:=7) (v:=undef) rfl (by kernel_rfl) (by kernel_rfl) (by kernel_rfl) (fun _ _ _ h=>h) (.inr ⟨by kernel_rfl,rfl⟩) hS0 ?_
     simp only [Act.put,List.getElem_toArray,List.getElem_cons_zero,List.getElem_cons_succ,List.setIfInBounds_toArray,List.set_cons_zero,List.set_cons_succ]
     refine wpAnyH_take (i:=8) (v:=undef) rfl (by kernel_rfl) (by kernel_rfl) (by kernel_rfl) (fun _ _ _ h=>h) (.inr ⟨by kernel_rfl,rfl⟩) hS0 ?_
     simp only [Act.put,List.getElem_toArray,List.getElem_cons_zero,List.getElem_cons_succ,List.setIfInBounds_toArray,List.set_cons_zero,List.set_cons_succ]
     refine wpAnyH_take (i:=9) (v:=undef) rfl (by kernel_rfl) (by kernel_rfl) (by kernel_rfl) (fun _ _ _ h=>h) (.inr ⟨by kernel_rfl,rfl⟩) hS0 ?_
     simp only [Act.put,List.getElem_toArray,List.getElem_cons_zero,List.getElem_cons_succ,List.setIfInBounds_toArray,List.set_cons_zero,List.set_cons_succ]
     refine wpAnyH_take (i:=10) (v:=undef) rfl (by kernel_rfl) (by kernel_rfl) (by kernel_rfl) (fun _ _ _ h=>h) (.inr ⟨by kernel_rfl,rfl⟩) hS0 ?_
     simp only [Act.put,List.getElem_toArray,List.getElem_cons_zero,List.getElem_cons_succ,List.setIfInBounds_toArray,List.set_cons_zero,List.set_cons_succ]
     refine wpAnyH_take (i:=11) (v:=undef) rfl (by kernel_rfl) (by kernel_rfl) (by kernel_rfl) (fun _ _ _ h=>h) (.inr ⟨by kernel_rfl,rfl⟩) hS0 ?_
     simp only [Act.put,List.getElem_toArray,List.getElem_cons_zero,List.getElem_cons_succ,List.setIfInBounds_toArray,List.set_cons_zero,List.set_cons_succ]
     refine wpAnyH_all (rs:=[12]) (by kernel_rfl) (by simp) ?_
     intro i hi
     obtain rfl:=List.mem_singleton.1 hi
     refine Reg.wpOp_list rfl ?_
     go_wp2_with fail
     change _ ∧ _
     refine ⟨hS0,?_⟩
     refine wpAnyH_done (by kernel_rfl) ?_ _
     have B8:=Lib.hid hS0
     clear hS0
     generalize u0 = wc at *
     have hown':=Own.owns_below HOW.out B8.out
     have hisw':=Rl.is_on HIW.out B8.out
     have hbww':=BWW.out.trans (B8.out.mono BWW.out.size)
     clear HOW HIW BWW
     have HOW:=Lib.hid hown'
     have HIW:=Lib.hid hisw'
     have BWW:=Lib.hid hbww'
     clear hown' hisw' hbww'
     clear B8
     have hob:=HOW.out
     have hib:=HIW.out
     have hle:t ≤ t:=by omega
     have h60:t ≤ 60000:=by omega
     obtain ⟨_,_,eo,hrc⟩:=Rl.own_shape hob
     simp only [Value.slice.injEq,true_and] at eo
     obtain ⟨hx9,rfl⟩:=eo
     clear hx9
     obtain ⟨vt,hrun,hslt⟩:=tail_tx hob HSL.out hle h60
     obtain ⟨HC,hHC⟩:∃ HC,txs (ss.take t) = HC:=⟨_,rfl⟩
     obtain ⟨TC,hTC⟩:∃ TC,txs (ss.drop t) = TC:=⟨_,rfl⟩
     have SH:Hid (∀ u,Below wc.heap.size wc u → Src Tryz.prog 1 32 (.slice ra t rc) t HC u):=Lib.hid fun u hu=>by
      have h:=txs_src (head_tx (Own.owns_below hob hu) HSL.out hle h60)
      rw [hHC,List.length_take,HSL.out,Nat.min_eq_left hle] at h
      exact h
     have ST:Hid (∀ u,Below wc.heap.size wc u → Src Tryz.prog 1 32 vt (t - t) TC u):=Lib.hid fun u hu=>by
      have h:=txs_src (hslt u hu)
      rw [hTC,List.length_drop,HSL.out] at h
      exact h
     have CX:Hid (∀ u,Below wc.heap.size wc u → u.cell? ⟨bx,0,none⟩ = some (.string (S x.nm))):=Lib.hid fun u hu=>(Rl.is_on hib hu).at (i:=0) rfl
     have HEADH:=Lib.hid (fun w=>at_sliceN (w:=w) (slice_headN ra t rc t (by omega) w))
     have TAILH:=Lib.hid (fun w=>at_sliceN (hrun w))
     have HHC:=Lib.hid hHC
     have HTC:=Lib.hid hTC
     obtain ⟨i0,hi0,hz0,hz1,hz2⟩:=info_parts infoTx
     have HI0:=Lib.hid hi0
     clear hob hib hrun hslt hHC hTC hi0
     go_upto_region 9 with fail
     refine wp_region_held (S:=fun u=>Below wc.heap.size wc u) (by kernel_rfl) ?_
     have hS0:Below wc.heap.size wc wc.drew:=(Below.refl _ _).drew
     change wpAnyH _ _ _ _ _ 13 _ _ wc.drew
     generalize wc.drew = u0 at *
     refine wpAnyH_take (i:=0) (v:=.slice ra t rc) rfl (by kernel_rfl) (by kernel_rfl) (by kernel_rfl) (fun _ _ _ h=>h) (.inl ⟨rfl,fun w _=>rfl⟩) hS0 ?_
     simp only [Act.put,List.getElem_toArray,List.getElem_cons_zero,List.getElem_cons_succ,List.setIfInBounds_toArray,List.set_cons_zero,List.set_cons_succ]
     refine wpAnyH_take (i:=1) (v:=.int .i64 t) rfl (by kernel_rfl) (by kernel_rfl) (by kernel_rfl) (fun _ _ _ h=>h) (.inl ⟨rfl,fun w _=>rfl⟩) hS0 ?_
     simp only [Act.put,List.getElem_toArray,List.getElem_cons_zero,List.getElem_cons_succ,List.setIfInBounds_toArray,List.set_cons_zero,List.set_cons_succ]
     refine wpAnyH_take (i:=8) (v:=.slice ra t rc) rfl (by kernel_rfl) (by kernel_rfl) (by kernel_rfl) (fun _ _ _ h=>h) (.inl ⟨rfl,fun w _=>rfl⟩) hS0 ?_
     simp only [Act.put,List.getElem_toArray,List.getElem_cons_zero,List.getElem_cons_succ,List.setIfInBounds_toArray,List.set_cons_zero,List.set_cons_succ]
     refine wpAnyH_take (i:=9) (v:=.int .i64 t) rfl (by kernel_rfl) (by kernel_rfl) (by kernel_rfl) (fun _ _ _ h=>h) (.inl ⟨rfl,fun w _=>rfl⟩) hS0 ?_
     simp only [Act.put,List.getElem_toArray,List.getElem_cons_zero,List.getElem_cons_succ,List.setIfInBounds_toArray,List.set_cons_zero,List.set_cons_succ]
     refine wpAnyH_take (i:=2) (v:=.slice ra t rc) rfl (by kernel_rfl) (by kernel_rfl) (by kernel_rfl) (fun _ _ _ h=>h) (.inl ⟨rfl,fun w _=>by simp [execOp]; erw [HEADH.out w]; rfl⟩) hS0 ?_
     simp only [Act.put,List.getElem_toArray,List.getElem_cons_zero,List.getElem_cons_succ,List.setIfInBounds_toArray,List.set_cons_zero,List.set_cons_succ]
     refine wpAnyH_take (i:=10) (v:=vt) rfl (by kernel_rfl) (by kernel_rfl) (by kernel_rfl) (fun _ _ _ h=>h) (.inl ⟨rfl,fun w _=>by simp [execOp]; erw [TAILH.out w]; rfl⟩) hS0 ?_
     simp only [Act.put,List.getElem_toArray,List.getElem_cons_zero,List.getElem_cons_succ,List.setIfInBounds_toArray,List.set_cons_zero,List.set_cons_succ]
     refine wpAnyH_take (i:=4) (v:=.pointer (some ⟨bx,0,none⟩)) rfl (by kernel_rfl) (by kernel_rfl) (by kernel_rfl) (fun _ _ _ h=>h) (.inl ⟨rfl,fun w _=>rfl⟩) hS0 ?_
     simp only [Act.put,List.getElem_toArray,List.getElem_cons_zero,List.getElem_cons_succ,List.setIfInBounds_toArray,List.set_cons_zero,List.set_cons_succ]
     refine wpAnyH_take (i:=5) (v:=.string (S x.nm)) rfl (by kernel_rfl) (by kernel_rfl) (by kernel_rfl) (fun _ _ _ h=>h) (Held.load1 rfl 9 (.tmp 45) rfl bx 0 rfl _ _ CX.out Tryz.underlying9 rfl) hS0 ?_
     simp only [Act.put,List.getElem_toArray,List.getElem_cons_zero,List.getElem_cons_succ,List.setIfInBounds_toArray,List.set_cons_zero,List.set_cons_succ]
     refine wpAnyH_all (rs:=[3,6]) (by kernel_rfl) (by simp) ?_
     intro i hi
     simp only [List.mem_cons,List.not_mem_nil,or_false] at hi
     rcases hi with rfl | rfl
     ·have hz:=hS0.size
      refine Reg.wpOp_list rfl ?_
      (refine Own.wpList_append_src rfl (.const (.slice none 0 0)) (.tmp 43) 32 32 rfl wc.heap.size 9 i0 _ 1 16 Tryz.underlying32 HI0.out hz0 hz1 hz2 rfl _ 0 [] rfl (World.ownsRow_nil _ _ _ _) _ t HC rfl (SH.out _ hS0) (by simp only [maxLen]; omega) (by omega) hz ?_; intro v3 u1 o3 g3)
      go_wp2_with fail
      change _ ∧ _
      have hS1:Below wc.heap.size wc u1:=Own.below_grown hS0 (World.ownsRow_nil u0 wc.heap.size 9 1) g3 hz
      rw [Nat.zero_add,List.nil_append] at o3
      have O3:=Lib.hid o3
      refine ⟨hS1,?_⟩
      clear o3 g3 hz
      have hba:=(Below.refl u1.heap.size u1).alloc (Nat.le_refl _) (.cells #[.string (S x.nm)] 9)
      have ia5:=Blk.Is.new u1 9 #[.string (S x.nm)]
      obtain ⟨u2,hu2⟩:∃ u2,u1.alloc (.cells #[.string (S x.nm)] 9) = u2:=⟨_,rfl⟩
      rw [hu2] at hba ia5
      have hS2:Below wc.heap.size wc u2:=hS1.trans (hba.mono hS1.size)
      have I5:=Lib.hid ia5
      obtain ⟨b5,hb5⟩:∃ b5,u1.heap.size = b5:=⟨_,rfl⟩
      rw [hb5] at I5
      have O3':=Lib.hid (Own.owns_below O3.out hba)
      clear O3
      have O3:=O3'
      clear O3'
      refine wpAnyH_all (rs:=[6]) (by kernel_rfl) (by simp) ?_
      intro i hi
      obtain rfl:=List.mem_singleton.1 hi
      refine Reg.wpOp_list rfl ?_
      go_wp2_with fail
      change _ ∧ _
      refine ⟨hS2,?_⟩
      clear hu2 hba ia5 hb5
      refine wpAnyH_all (rs:=[7]) (by kernel_rfl) (by simp) ?_
      intro i hi
      obtain rfl:=List.mem_singleton.1 hi
      have hz:=hS2.size
      have S5:=txs_src (w:=u2) (v:=.slice (some ⟨b5,0,none⟩) 1 1) (l:=[x.nm]) ⟨by simp,_,1,rfl,by simp,fun _=>⟨b5,0,rfl,fun i hi=>by
       have:i = 0:=by have:i < 1:=hi; omega
       subst this
       exact I5.out.at (i:=0) rfl⟩⟩
      refine Reg.wpOp_list rfl ?_
      (refine Own.wpList_append_src rfl (.tmp 44) (.tmp 47) 32 32 rfl wc.heap.size 9 i0 _ 1 16 Tryz.underlying32 HI0.out hz0 hz1 hz2 rfl v3 t HC rfl O3.out (.slice (some ⟨b5,0,none⟩) 1 1) 1 (txs [x.nm]) rfl S5 (by simp only [maxLen]; omega) (by omega) hz ?_; intro v6 u3 o6 g6)
      go_wp2_with fail
      change _ ∧ _
      have hS3:Below wc.heap.size wc u3:=Own.below_grown hS2 O3.out g6 hz
      have O6:=Lib.hid o6
      refine ⟨hS3,?_⟩
      clear o6 g6 hz O3 I5 S5
      refine wpAnyH_all (rs:=[11]) (by kernel_rfl) (by simp) ?_
      intro i hi
      obtain rfl:=List.mem_singleton.1 hi
      have hz:=hS3.size
      refine Reg.wpOp_list rfl ?_
      (refine Own.wpList_append_src rfl (.tmp 48) (.tmp 51) 32 32 rfl wc.heap.size 9 i0 _ 1 16 Tryz.underlying32 HI0.out hz0 hz1 hz2 rfl v6 (t + 1) (HC ++ txs [x.nm]) rfl O6.out vt (t - t) TC rfl (ST.out _ hS3) (by simp only [maxLen]; omega) (by omega) hz ?_; intro v10 u4 o10 g10)
      go_wp2_with fail
      change _ ∧ _
      have hS4:Below wc.heap.size wc u4:=Own.below_grown hS3 O6.out g10 hz
      rw [show t + 1 + (t - t) = t + 1 by omega] at o10
      obtain ⟨a10,c10,rfl,_⟩:=Rl.own_shape o10
      have O10:=Lib.hid o10
      refine ⟨hS4,?_⟩
      clear o10 g10 hz O6
      refine wpAnyH_all (rs:=[12]) (by kernel_rfl) (by simp) ?_
      intro i hi
      obtain rfl:=List.mem_singleton.1 hi
      refine Reg.wpOp_list rfl ?_
      go_wp2_with fail
      change _ ∧ _
      refine ⟨hS4,?_⟩
      refine wpAnyH_done (by kernel_rfl) ?_ _
      have hbz:=BWW.out.trans (hS4.mono BWW.out.size)
      have hfin:=Rl.own_mono O10.out BWW.out.size
      have hcat:(HC ++ txs [x.nm]) ++ TC = txs (ss.take t ++ [x.nm] ++ ss.drop t):=by
       rw [← HHC.out,← HTC.out]
       unfold txs
       simp
      rw [hcat] at hfin
      have HFIN:=Lib.hid hfin
      have BZ:=Lib.hid hbz
      clear hS0 hS1 hS2 hS3 hS4 hbz hfin hcat
      go_wp2_with fail
      go_roundg g'
      case measure=>omega
      case rel=>exact ⟨k + 1,t + 1,a10,c10,ss.take t ++ [x.nm] ++ ss.drop t,rfl,by go_num,HFIN,INS,BZ,by omega,by omega,by omega⟩
     ·have hba:=(Below.refl u0.heap.size u0).alloc (Nat.le_refl _) (.cells #[.string (S x.nm)] 9)
      have ia5:=Blk.Is.new u0 9 #[.string (S x.nm)]
      obtain ⟨u1,hu1⟩:∃ u1,u0.alloc (.cells #[.string (S x.nm)] 9) = u1:=⟨_,rfl⟩
      rw [hu1] at hba ia5
      have hS1:Below wc.heap.size wc u1:=hS0.trans (hba.mono hS0.size)
      have I5:=Lib.hid ia5
      obtain ⟨b5,hb5⟩:∃ b5,u0.heap.size = b5:=⟨_,rfl⟩
      rw [hb5] at I5
      refine Reg.wpOp_list rfl ?_
      go_wp2_with fail
      change _ ∧ _
      refine ⟨hS1,?_⟩
      clear hu1 hba ia5 hb5
      refine wpAnyH_all (rs:=[3]) (by kernel_rfl) (by simp) ?_
      intro i hi
      obtain rfl:=List.mem_singleton.1 hi
      have hz:=hS1.size
      refine Reg.wpOp_list rfl ?_
      (refine Own.wpList_append_src rfl (.const (.slice none 0 0)) (.tmp 43) 32 32 rfl wc.heap.size 9 i0 _ 1 16 Tryz.underlying32 HI0.out hz0 hz1 hz2 rfl _ 0 [] rfl (World.ownsRow_nil _ _ _ _) _ t HC rfl (SH.out _ hS1) (by simp only [maxLen]; omega) (by omega) hz ?_; intro v3 u2 o3 g3)
      go_wp2_with fail
      change _ ∧ _
      have hS2:Below wc.heap.size wc u2:=Own.below_grown hS1 (World.ownsRow_nil u1 wc.heap.size 9 1) g3 hz
      rw [Nat.zero_add,List.nil_append] at o3
      have O3:=Lib.hid o3
      have I5':=Rl.is_on I5.out (Own.below_grown (Below.refl u1.heap.size u1) (World.ownsRow_nil u1 u1.heap.size 9 1) g3 (Nat.le_refl _))
      clear I5
      have I5:=Lib.hid I5'
      refine ⟨hS2,?_⟩
      clear o3 g3 hz
      refine wpAnyH_all (rs:=[7]) (by kernel_rfl) (by simp) ?_
      intro i hi
      obtain rfl:=List.mem_singleton.1 hi
      have hz:=hS2.size
      have S5:=txs_src (w:=u2) (v:=.slice (some ⟨b5,0,none⟩) 1 1) (l:=[x.nm]) ⟨by simp,_,1,rfl,by simp,fun _=>⟨b5,0,rfl,fun i hi=>by
       have:i = 0:=by have:i < 1:=hi; omega
       subst this
       exact I5.out.at (i:=0) rfl⟩⟩
      refine Reg.wpOp_list rfl ?_
      (refine Own.wpList_append_src rfl (.tmp 44) (.tmp 47) 32 32 rfl wc.heap.size 9 i0 _ 1 16 Tryz.underlying32 HI0.out hz0 hz1 hz2 rfl v3 t HC rfl O3.out (.slice (some ⟨b5,0,none⟩) 1 1) 1 (txs [x.nm]) rfl S5 (by simp only [maxLen]; omega) (by omega) hz ?_; intro v6 u3 o6 g6)
      go_wp2_with fail
      change _ ∧ _
      have hS3:Below wc.heap.size wc u3:=Own.below_grown hS2 O3.out g6 hz
      have O6:=Lib.hid o6
      refine ⟨hS3,?_⟩
      clear o6 g6 hz O3 I5 S5
      refine wpAnyH_all (rs:=[11]) (by kernel_rfl) (by simp) ?_
      intro i hi
      obtain rfl:=List.mem_singleton.1 hi
      have hz:=hS3.size
      refine Reg.wpOp_list rfl ?_
      (refine Own.wpList_append_src rfl (.tmp 48) (.tmp 51) 32 32 rfl wc.heap.size 9 i0 _ 1 16 Tryz.underlying32 HI0.out hz0 hz1 hz2 rfl v6 (t + 1) (HC ++ txs [x.nm]) rfl O6.out vt (t - t) TC rfl (ST.out _ hS3) (by simp only [maxLen]; omega) (by omega) hz ?_; intro v10 u4 o10 g10)
      go_wp2_with fail
      change _ ∧ _
      have hS4:Below wc.heap.size wc u4:=Own.below_grown hS3 O6.out g10 hz
      rw [show t + 1 + (t - t) = t + 1 by omega] at o10
      obtain ⟨a10,c10,rfl,_⟩:=Rl.own_shape o10
      have O10:=Lib.hid o10
      refine ⟨hS4,?_⟩
      clear o10 g10 hz O6
      refine wpAnyH_all (rs:=[12]) (by kernel_rfl) (by simp) ?_
      intro i hi
      obtain rfl:=List.mem_singleton.1 hi
      refine Reg.wpOp_list rfl ?_
      go_wp2_with fail
      change _ ∧ _
      refine ⟨hS4,?_⟩
      refine wpAnyH_done (by kernel_rfl) ?_ _
      have hbz:=BWW.out.trans (hS4.mono BWW.out.size)
      have hfin:=Rl.own_mono O10.out BWW.out.size
      have hcat:(HC ++ txs [x.nm]) ++ TC = txs (ss.take t ++ [x.nm] ++ ss.drop t):=by
       rw [← HHC.out,← HTC.out]
       unfold txs
       simp
      rw [hcat] at hfin
      have HFIN:=Lib.hid hfin
      have BZ:=Lib.hid hbz
      clear hS0 hS1 hS2 hS3 hS4 hbz hfin hcat
      go_wp2_with fail
      go_roundg g'
      case measure=>omega
      case rel=>exact ⟨k + 1,t + 1,a10,c10,ss.take t ++ [x.nm] ++ ss.drop t,rfl,by go_num,HFIN,INS,BZ,by omega,by omega,by omega⟩
  ·obtain rfl:k = N:=by omega
   have hge:¬ (k:Int) < (k:Int):=by omega
   have htx:Txt.Texts wr (.slice ra m rc) (ss.map S):=Txt.Texts.owned (by
    have h:=HO.out
    unfold txs at h
    rw [List.length_map,List.map_map,HX.out.1]
    exact h) (by rw [List.length_map,HX.out.1]; omega)
   rw [HX.out.2,List.take_of_length_le (Nat.le_of_eq HN.out)] at htx
   have HTX:=Lib.hid htx
   clear htx HO
   go_wp2_with fail
   go_ret
   exact ⟨_,rfl,HTX.out,HB.out⟩
end Ix
end Go.Proofs.YtmhpjjjjgakpiaaGreatDoor

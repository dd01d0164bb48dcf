/-
newWorklist: a worklist into which no name has entered. slices.Sorted of slices.Values: texts, sorted, in a row of their own.
-/
import Derived.Test.YtmhpjjjjgakpiaaGreatDoorDUniAt
import Derived.Test.YtmhpjjjjgakpiaaGreatDoorDIxIns
import Derived.Test.YtmhpjjjjgakpiaaGreatDoorDIxOrd
import Derived.Test.YtmhpjjjjgakpiaaGreatDoorDUniDef
import Derived.RangeFuncBox
import Derived.RangeFuncLeaves
import Derived.Shelf.Abstract
import Derived.WalkKit
import Derived.OwnWalkIn
import Derived.TacticsInMore
import Derived.LoopNIn
import Derived.LoopIn
import Derived.Maps.AppendAt
import Derived.Sort.OwnSorted
import Derived.CallsIn
namespace Go.Proofs.YtmhpjjjjgakpiaaGreatDoor
open Go.RowKit
set_option linter.unusedSimpArgs false
set_option linter.unusedVariables false
namespace Un
open Ver (Bs S S_size)
open Rl (mem_getD)
open Rc (Pk)
open Ix (Idx LimS gK rising Kp)
theorem texts_kp {w u:World} (h:Kp w u) {v:Value} {l:List ByteArray} (k:Txt.Texts w v l):Txt.Texts u v l:=by
 obtain ⟨h0,a,cap,h1,hc,h2⟩:=k
 exact ⟨h0,a,cap,h1,hc,fun hl=>by
  obtain ⟨b,off,h3,h4⟩:=h2 hl
  exact ⟨b,off,h3,fun i hi=>h _ _ (h4 i hi)⟩⟩
theorem SetM.kp {w u:World} {b n:Nat} {ks:Bs → Bool} (h:SetM w b n ks) (hg:w.grownBy u (some b)):Kp w u:=by
 obtain ⟨D,⟨es,clock,h1,_⟩,_⟩:=h
 refine Kp.maps (Q:=fun k=>k = b) ((Blk.Chg.refl _ w).grown hg fun k hk _=>(Option.some.inj hk).symm) fun k _ hk=>?_
 subst hk
 exact ⟨es,clock,h1⟩
set_option maxRecDepth 100000 in
set_option maxHeartbeats 8000000 in
theorem newWork_any (pb:Nat) (xs:List Pk) (NX:List Bs) (w:World) (h:Idx w pb xs) (hnd:NX.Nodup) (hm:∀ x,x ∈ NX ↔ gK xs xs.length false x ≠ []) (hl:NX.length ≤ 60000) (hs:∀ n ∈ NX,LimS n) :
  Calls Tryz.prog 28 #[.pointer (some ⟨pb,0,none⟩)] w fun e w'=>e = .returned (.pointer (some ⟨w.heap.size + 1,0,none⟩)) ∧ WL w' (w.heap.size + 2) (w.heap.size + 1) w.heap.size pb (.slice none 0 0) NX [] ∧ Below w.heap.size w w':=by
 have hb1:=(Below.refl w.heap.size w).alloc (Nat.le_refl _) (.map #[] 0)
 have hs1:(w.alloc (.map #[] 0)).heap.size = w.heap.size + 1:=by simp
 have m1:=SetM.made w
 have hb2:=hb1.alloc hb1.size (.cells #[.pointer (some ⟨pb,0,none⟩),.slice none 0 0,.map (some w.heap.size)] 93)
 have i2:=Blk.Is.new (w.alloc (.map #[] 0)) 93 #[.pointer (some ⟨pb,0,none⟩),.slice none 0 0,.map (some w.heap.size)]
 have hbx:=(Below.refl (w.alloc (.map #[] 0)).heap.size (w.alloc (.map #[] 0))).alloc (Nat.le_refl _) (.cells #[.pointer (some ⟨pb,0,none⟩),.slice none 0 0,.map (some w.heap.size)] 93)
 have m2:=m1.below hbx
 have hs2:((w.alloc (.map #[] 0)).alloc (.cells #[.pointer (some ⟨pb,0,none⟩),.slice none 0 0,.map (some w.heap.size)] 93)).heap.size = w.heap.size + 2:=by simp
 rw [hs1] at i2
 obtain ⟨W,hW⟩:∃ W,(w.alloc (.map #[] 0)).alloc (.cells #[.pointer (some ⟨pb,0,none⟩),.slice none 0 0,.map (some w.heap.size)] 93) = W:=⟨_,rfl⟩
 rw [hW] at hb2 i2 m2 hs2
 have cn:=Ix.names_any pb xs W NX (Idx.below h hb2) hnd hm hl
 have hlen:(rising NX).length = NX.length:=by unfold rising; exact List.length_mergeSort _
 obtain ⟨ns,hns⟩:∃ ns,rising NX = ns:=⟨_,rfl⟩
 have hmem:∀ x,x ∈ ns ↔ x ∈ NX:=fun x=>by rw [← hns]; exact rising_mem NX x
 rw [hns] at cn hlen
 obtain ⟨n,hn⟩:∃ n,NX.length = n:=⟨_,rfl⟩
 rw [hn] at hl hlen
 have HM:=Lib.hid hmem
 have HN:=Lib.hid hlen
 have HNX:=Lib.hid hn
 have HB:=Lib.hid hb2
 have I2:=Lib.hid i2
 have M2:=Lib.hid m2
 have S2:=Lib.hid hs2
 have HS:=Lib.hid hs
 have hmm:=@run_makeMap Tryz.prog
 have hu:=hW
 clear h hnd hm hs hb1 hs1 m1 hb2 i2 hbx m2 hs2 hW hlen hns hmem hn
 go_enter Tryz.func28,Tryz.ntmps28
 go_wp2_with fail
 clear hu hmm
 refine cn.mono ?_
 rintro e w1 ⟨v,rfl,ht,k1⟩
 obtain ⟨ht0,sa,cap,rfl,hcap,_⟩:=id ht
 rw [List.length_map,HN.out] at ht0 hcap
 have HT:=Lib.hid ht
 rw [List.length_map,HN.out] at HT
 have I1:=Lib.hid (Rl.is_on I2.out k1)
 have M1:=Lib.hid (M2.out.below k1)
 have HB1:=Lib.hid (HB.out.trans (k1.mono HB.out.size))
 have Z1:Hid (w.heap.size + 2 ≤ w1.heap.size):=by show w.heap.size + 2 ≤ w1.heap.size; have:=S2.out; have:=k1.size; omega
 clear cn ht k1 I2 M2 HB
 rw [List.length_map,HN.out]
 go_wp2_with fail
 go_loopg [13] n (fun gf s13 wx=>∃ k:Nat,s13 = .int .i64 k ∧ Hid (SetM wx w.heap.size k (fun x=>decide (x ∈ ns.take k))) ∧ Hid (Blk.Is wx (w.heap.size + 1) 93 #[.pointer (some ⟨pb,0,none⟩),.slice none 0 0,.map (some w.heap.size)]) ∧ Hid (Kp w1 wx) ∧ Hid (Below w.heap.size w wx) ∧ Hid (w.heap.size + 2 ≤ wx.heap.size) ∧ k ≤ n ∧ n ≤ k + gf)
 case atStart=>exact ⟨0,rfl,Lib.hid (M1.out.eq fun x=>by simp),I1,Lib.hid (Kp.refl _),HB1,Z1,by omega,by omega⟩
 case round =>
  obtain ⟨k,rfl,HX,HI,HK,HBX,HZ,hkn,hfu⟩:=hrel
  by_cases hlt:k < n
  ·obtain ⟨g',rfl⟩:∃ g',gk = g' + 1:=⟨gk - 1,by omega⟩
   have hlt':(k:Int) < (n:Int):=by omega
   have hk0:(0:Int) ≤ k:=by omega
   have hkl:k < ns.length:=by rw [HN.out]; exact hlt
   obtain ⟨_,a',cap',e1,_,hread⟩:=texts_kp HK.out HT.out
   rw [List.length_map,HN.out] at e1 hread
   simp only [Value.slice.injEq,true_and] at e1
   obtain ⟨rfl,rfl⟩:=e1
   obtain ⟨kb,off,rfl,hat⟩:=hread (by omega)
   have x0:=hat k hlt
   have e0:(ns.map S).getD k ByteArray.empty = S (ns.getD k []):=by simp [List.getD_eq_getElem?_getD,hkl]
   rw [e0] at x0
   have hmx:=mem_getD (z:=([]:Bs)) hkl
   have htk:=take_snoc (z:=([]:Bs)) hkl
   obtain ⟨x,hx⟩:∃ x,ns.getD k [] = x:=⟨_,rfl⟩
   rw [hx] at x0 hmx htk
   have hlim:=HS.out x ((HM.out x).1 hmx)
   have q2:=HI.out.at (i:=2) rfl
   obtain ⟨w5,hr5,hset,hg5⟩:=HX.out.put hlim (by omega)
   have hset2:SetM w5 w.heap.size (k + 1) (fun y=>decide (y ∈ ns.take (k + 1))):=hset.eq fun y=>by
    rw [htk]
    by_cases e:y = x
    ·subst e; simp
    ·rw [if_neg e]; simp [e]
   have c5:Blk.Chg (fun j=>j = w.heap.size) wr w5:=(Blk.Chg.refl _ wr).grown hg5 fun j hj _=>(Option.some.inj hj).symm
   have H5:=Lib.hid hset2
   have HI5:=Lib.hid (c5.is HI.out (by omega))
   have HK5:=Lib.hid (HK.out.trans (HX.out.kp hg5))
   have HB5:=Lib.hid (HBX.out.trans (c5.below (B:=w.heap.size) (fun j hj=>by omega) HBX.out.size))
   have HZ5:Hid (w.heap.size + 2 ≤ w5.heap.size):=Nat.le_trans HZ.out c5.size
   clear hat e0 hmx htk hx hread hlim hset hset2 hg5 c5 HX HI HK HBX HZ
   go_wp2_with fail
   go_roundg g'
   case measure=>omega
   case rel=>exact ⟨k + 1,by go_num,H5,HI5,HK5,HB5,HZ5,by omega,by omega⟩
  ·have hge:¬ (n:Int) < (n:Int):=by omega
   obtain rfl:n = k:=by omega
   have hall:ns.take n = ns:=List.take_of_length_le (Nat.le_of_eq HN.out)
   rw [hall] at HX
   have hwl:WL wr (w.heap.size + 2) (w.heap.size + 1) w.heap.size pb (.slice none 0 0) NX [] :=
    ⟨HI.out,(HX.out.mono hl).eq fun x=>by simp [HM.out x],World.ownsRow_nil _ _ _ _,by omega,by omega,by omega,HZ.out,List.nodup_nil,(fun n hn=>by cases hn),by rw [HNX.out]; exact hl⟩
   have HWL:=Lib.hid hwl
   clear hall hwl HX HI
   go_wp2_with fail
   go_ret
   exact ⟨rfl,HWL.out,HBX.out⟩
end Un
end Go.Proofs.YtmhpjjjjgakpiaaGreatDoor
namespace Go.Proofs.YtmhpjjjjgakpiaaGreatDoor
open Go.RowKit Go.Shelf Go.Sort
set_option linter.unusedSimpArgs false
set_option linter.unusedVariables false
attribute [local go_sem] Oper.semAt_some
namespace Un
open Ver (Bs S)
open Ix (rising sortsS)
theorem take_get {ns:List Bs} {k:Nat} (hk:k < ns.length):ns.take (k + 1) = ns.take k ++ [ns.getD k []]:=by
 rw [List.getD_eq_getElem?_getD,List.getElem?_eq_getElem hk,Option.getD_some,List.take_append_getElem hk]
set_option maxRecDepth 100000 in
set_option maxHeartbeats 2000000 in
theorem valuesIt_in (n:Nat) (hn:1 ≤ n) (l Bn n₀ b off cap:Nat) (ns:List Bs) (hlen:ns.length ≤ 60000) (hb:b < n₀) (J Jx:List Bs → World → Prop)
  (hY:∀ pre x W,J pre W → pre.length < ns.length → YieldAt Fence.wide (n - 1) Tryz.prog l #[.string (S x)] W fun e W'=>(e = .returned (.bool true) ∧ J (pre ++ [x]) W' ∧ Below n₀ W W') ∨ (e = .returned (.bool false) ∧ Jx (pre ++ [x]) W'))
  (W:World) (hBn:W.cell? ⟨Bn,0,none⟩ = some (.slice (some ⟨b,off,none⟩) ns.length cap)) (hc:∀ j,j < ns.length → W.cell? ⟨b,off + j,none⟩ = some (.string (S (ns.getD j [])))) (h0:J [] W) :
  CallsIn Fence.wide n Tryz.prog 80 #[.func (.yield l) #[] #[],.pointer (some ⟨Bn,0,none⟩)] W fun e W'=>(∃ v,e = .returned v) ∧ ((∃ ys,ys = ns ∧ J ys W') ∨ (∃ pre,pre <+: ns ∧ Jx pre W')):=by
 obtain ⟨len,hl⟩:∃ len,ns.length = len:=⟨_,rfl⟩
 have HL:=Lib.hid hl
 rw [hl] at hY hBn hc hlen
 clear hl
 have hF:Fence.wide.fn 80:=trivial
 refine callsIn_of_wp Tryz.func80 rfl hF ?_ rfl
 simp only [Tryz.ntmps80,List.size_toArray,List.length_cons,List.length_nil,Nat.reduceAdd,Nat.reduceSub,Array.replicate_succ,Array.replicate_zero,List.push_toArray,List.append_toArray,List.nil_append,List.cons_append]
 gi_wp2
 gi_loopw [7] (fun i wr=>∃ k:Nat,k ≤ len ∧ i = .int .i64 k ∧ J (ns.take k) wr ∧ Below n₀ W wr)
  (fun i _=>len - (intOf i).toNat)
 case atStart=>exact ⟨0,Nat.zero_le _,rfl,h0,Below.refl _ _⟩
 case round =>
  obtain ⟨k,hk,rfl,hJs,hnx⟩:=hrel
  have hcx:k < len → wr.cell? ⟨b,off + k,none⟩ = some (.string (S (ns.getD k []))):=fun h=>(hnx.cell (p:=⟨b,off + k,none⟩) hb).trans (hc k h)
  by_cases hlt:k < len
  ·have hkl:k < ns.length:=by rw [HL.out]; exact hlt
   have htl:(ns.take k).length < len:=by rw [List.length_take,HL.out]; omega
   obtain ⟨fn,tmps,assign,body,hy,hR⟩:=hY _ (ns.getD k []) wr hJs htl
   rw [← take_get hkl] at hR
   have hcx':=hcx hlt
   generalize S (ns.getD k []) = X at *
   gi_wp2
   refine hR.mono ?_
   rintro e W3 (⟨rfl,hJ3,hk3⟩ | ⟨rfl,hJx3⟩)
   ·gi_wp2
    go_roundw
    case rel=>exact ⟨k + 1,by omega,by simp,hJ3,hnx.trans hk3⟩
    case measure=>simp [intOf]; omega
   ·gi_wp2
    refine bodyPost_ret (results_none rfl _ _ _) rfl ?_
    exact ⟨⟨_,rfl⟩,.inr ⟨_,List.take_prefix _ _,hJx3⟩⟩
  ·obtain rfl:k = len:=by omega
   rw [List.take_of_length_le (Nat.le_of_eq HL.out)] at hJs
   gi_wp2
   go_end0
   exact ⟨⟨_,rfl⟩,.inl ⟨_,rfl,hJs⟩⟩
set_option maxRecDepth 100000 in
set_option maxHeartbeats 1000000 in
theorem valuesNil_in (n:Nat) (l Bn:Nat) (a:Option Addr) (cap:Nat) (J:List Bs → World → Prop) (W:World) (hBn:W.cell? ⟨Bn,0,none⟩ = some (.slice a 0 cap)) (h0:J [] W) :
  CallsIn Fence.wide n Tryz.prog 80 #[.func (.yield l) #[] #[],.pointer (some ⟨Bn,0,none⟩)] W fun e W'=>(∃ v,e = .returned v) ∧ J [] W':=by
 have hF:Fence.wide.fn 80:=trivial
 refine callsIn_of_wp Tryz.func80 rfl hF ?_ rfl
 simp only [Tryz.ntmps80,List.size_toArray,List.length_cons,List.length_nil,Nat.reduceAdd,Nat.reduceSub,Array.replicate_succ,Array.replicate_zero,List.push_toArray,List.append_toArray,List.nil_append,List.cons_append]
 gi_wp2
 gi_loopw [7] (fun i wr=>i = .int .i64 0 ∧ J [] wr) (fun _ _=>0)
 case atStart=>exact ⟨rfl,h0⟩
 case round =>
  obtain ⟨rfl,hJs⟩:=hrel
  gi_wp2
  go_end0
  exact ⟨⟨_,rfl⟩,hJs⟩
theorem values_any (a:Option Addr) (len cap:Nat) (w:World):Calls Tryz.prog 49 #[.slice a len cap] w fun e w'=>e = .returned (.func (.func 80) #[] #[.pointer (some ⟨w.heap.size,0,none⟩)]) ∧ w' = w.alloc (.cells #[.slice a len cap] 32):=by
 go_enter Tryz.func49,Tryz.ntmps49
 go_wp2_with fail
 go_ret
 exact ⟨rfl,rfl⟩
theorem valuesStops (n:Nat) (hn:1 ≤ n) (Bn n₀:Nat) (sv:Value) (ns:List Bs) (hlen:ns.length ≤ 60000) (w:World) (hBn:Bn < w.heap.size) (hn₀:n₀ ≤ w.heap.size)
  (hc:w.cell? ⟨Bn,0,none⟩ = some sv) (hI:Txt.Texts w sv (ns.map S)) (hlow:∀ b,sv.ownBlock = some b → b < n₀) :
  SeqStopsK Fence.wide n Tryz.prog 80 #[.pointer (some ⟨Bn,0,none⟩)] (fun x:Bs=>#[Value.string (S x)]) (Below n₀) (fun ys=>ys = ns) (fun pre=>pre <+: ns) ns.length w:=fun l J Jx W hW _ _ hY h0=>by
 have hc':=(hW.cell (p:=⟨Bn,0,none⟩) hBn).trans hc
 obtain ⟨_,a,cap,rfl,_,hr⟩:=hI.below hW
 rw [List.length_map] at hc' hr hlow
 by_cases hz:ns.length = 0
 ·obtain rfl:ns = []:=List.eq_nil_of_length_eq_zero hz
  exact (valuesNil_in n l Bn a cap J W hc' h0).mono fun e W' ⟨he,hj⟩=>⟨he,.inl ⟨_,rfl,hj⟩⟩
 ·obtain ⟨b,off,rfl,hcs⟩:=hr (by omega)
  refine valuesIt_in n hn l Bn n₀ b off cap ns hlen (hlow b rfl) J Jx hY W hc' (fun j hj=>?_) h0
  have:=hcs j hj
  rw [this]
  simp [List.getD_eq_getElem?_getD,hj]
set_option maxRecDepth 100000 in
set_option maxHeartbeats 2000000 in
theorem appendSeq_in (n:Nat) (hn:3 ≤ n) (Bn:Nat) (sv:Value) (ns:List Bs) (hlen:ns.length ≤ 60000) (w:World) (hBn:Bn < w.heap.size)
  (hc:w.cell? ⟨Bn,0,none⟩ = some sv) (hI:Txt.Texts w sv (ns.map S)) (hlow:∀ b,sv.ownBlock = some b → b < w.heap.size) :
  CallsIn Fence.wide n Tryz.prog 104 #[.slice none 0 0,.func (.func 80) #[] #[.pointer (some ⟨Bn,0,none⟩)]] w fun e W'=>∃ v,e = .returned v ∧ W'.ownsRow w.heap.size 9 1 v ns.length (tx ns) ∧ Below w.heap.size w W':=by
 have h1:1 ≤ n:=by omega
 obtain ⟨i0,hi,hz0,hz1,hz2⟩:=info_parts infoTx
 have hF:Fence.wide.fn 104:=trivial
 refine callsIn_of_wp_marks Tryz.func104 rfl hF ?_ rfl
 simp only [Tryz.ntmps104,List.size_toArray,List.length_cons,List.length_nil,Nat.reduceAdd,Nat.reduceSub,Array.replicate_succ,Array.replicate_zero,List.push_toArray,List.append_toArray,List.nil_append,List.cons_append]
 gi_wp2
 have bO:=Boxed.new w 32 (.slice none 0 0)
 have hB0:Below w.heap.size w (w.alloc (.cells #[.slice none 0 0] 32)):=(Below.refl _ w).alloc (Nat.le_refl _) _
 refine wpIn_rangeFunc_ownG rfl h1 (gf:=80) (lb:=#[.pointer (some ⟨Bn,0,none⟩)]) rfl trivial (enters_of Tryz.func80 (by kernel_rfl) rfl)
  (valuesStops (n - 1) (by omega) Bn w.heap.size sv ns hlen _ (by simp; omega) (by simp) ((hB0.cell (p:=⟨Bn,0,none⟩) hBn).trans hc) (hI.below hB0) hlow) belowK_t (belowK_b (by simp)) (Below.refl _ _) (fun _=>rfl)
  (fun pre W=>(∃ v,Boxed W w.heap.size 32 v ∧ W.ownsRow w.heap.size 9 1 v pre.length (tx pre) ∧ True) ∧ Below w.heap.size w W)
  (fun _ _ _=>False)
  (OwnFrom.and (Own.from (holdsRow_own w.heap.size w.heap.size 32 9 1 (fun pre:List Bs=>pre.length) (fun pre=>tx pre) (fun pre v=>True)) _) (ownFrom_below (Nat.le_refl _) (by simp)))
  (fun _ _ _ _ _ hs _ _=>hs)
  ⟨⟨_,bO,World.ownsRow_nil _ _ _ _,trivial⟩,hB0⟩
  (fun x=>{ tmps:=#[.slice none 0 0,.func (.func 80) #[] #[.pointer (some ⟨Bn,0,none⟩)],.pointer (some ⟨w.heap.size,0,none⟩),undef,.slice none 0 0,.string (S x),.func (.func 80) #[] #[.pointer (some ⟨Bn,0,none⟩)],.string (S x),undef,undef,undef,undef,undef],defers:=[] }) ?assign ?body ?done ?stop
 case assign =>
  intro l x W K hK
  gi_wp2
  exact hK
 case body =>
  rintro l pre x W ⟨⟨v,hv,hrow,_⟩,hB⟩ hlt
  have hc:=hv.cell
  gi_wp2_with (gi_at_builtin; refine wpListIn_append_own _ rfl _ _ 32 rfl w.heap.size 9 i0 (.string ⟨#[]⟩) 1 16 Tryz.underlying32 hi hz0 hz1 hz2 rfl (by decide) _ _ _ rfl (hrow.alloc _) ⟨W.heap.size,0,none⟩ 1 1 [.string (S x)] rfl rfl (cell_one_new _ _ _) (by simp [Value.oneCell']) (by simp only [maxLen]; omega) (by omega) (by have:=hB.size; simp; omega) ?_; intro v' w1 hown' hgrow _; obtain ⟨g',cap',rfl⟩:=ownsRow_succ hown'; obtain ⟨hv1,hv2,hr2,hk2,hb2⟩:=hv.appended (by decide) hrow hB.size (Nat.le_refl _) hown' hgrow; have hc1:=hv1.cell; have hf1:=hv1.frozen)
  exact ⟨hk2.from _,hb2,⟨_,hv2,by rw [tx_app,List.length_append]; exact hr2,trivial⟩,hB.trans hb2⟩
 case done =>
  rintro D ys W hD rfl ⟨⟨v,hv,hrow,_⟩,hB⟩ hK
  have hc:=hv.cell
  gi_wp2
  refine ⟨by simp,.inl ⟨_,_,rfl,run_takeDeferred hK,?_⟩⟩
  exact ⟨_,results_tmp rfl _ _ _,v,rfl,ownsRow_putObj hrow _ hK rfl,hB.trans (belowK_b (w:=w) (Nat.le_refl _) W D _ _ (by simp at hD; omega) hK rfl rfl)⟩
 case stop =>
  rintro D c pre W _ _ h _
  exact h.elim
set_option maxRecDepth 100000 in
set_option maxHeartbeats 1000000 in
theorem collect_any (Bn:Nat) (sv:Value) (ns:List Bs) (hlen:ns.length ≤ 60000) (w:World) (hBn:Bn < w.heap.size)
  (hc:w.cell? ⟨Bn,0,none⟩ = some sv) (hI:Txt.Texts w sv (ns.map S)) (hlow:∀ b,sv.ownBlock = some b → b < w.heap.size) :
  Calls Tryz.prog 73 #[.func (.func 80) #[] #[.pointer (some ⟨Bn,0,none⟩)]] w fun e W'=>∃ v,e = .returned v ∧ W'.ownsRow w.heap.size 9 1 v ns.length (tx ns) ∧ Below w.heap.size w W':=by
 have ca:=callsIn_wide.1 (appendSeq_in 5 (by omega) Bn sv ns hlen w hBn hc hI hlow)
 have hlen2:=hlen
 generalize ns.length = N at *
 generalize tx ns = T at *
 clear hc hI hlow
 go_enter Tryz.func73,Tryz.ntmps73
 go_wp2_with fail
 refine ca.mono ?_
 rintro e w1 ⟨v,rfl,ho,k1⟩
 have HO:=Lib.hid ho
 clear ca ho
 go_wp2_with fail
 go_ret
 exact ⟨_,rfl,HO.out,k1⟩
set_option maxRecDepth 100000 in
set_option maxHeartbeats 2000000 in
theorem sortedVals_any (Bn:Nat) (sv:Value) (ns:List Bs) (hlen:ns.length ≤ 60000) (w:World) (hBn:Bn < w.heap.size)
  (hc:w.cell? ⟨Bn,0,none⟩ = some sv) (hI:Txt.Texts w sv (ns.map S)) (hlow:∀ b,sv.ownBlock = some b → b < w.heap.size) :
  Calls Tryz.prog 44 #[.func (.func 80) #[] #[.pointer (some ⟨Bn,0,none⟩)]] w fun e W'=>∃ v,e = .returned v ∧ W'.ownsRow w.heap.size 9 1 v ns.length (tx (rising ns)) ∧ Below w.heap.size w W':=by
 have ca:=collect_any Bn sv ns hlen w hBn hc hI hlow
 have HL:=Lib.hid hlen
 clear hc hI hlow hBn hlen
 go_enter Tryz.func44,Tryz.ntmps44
 go_wp2_with fail
 refine ca.mono ?_
 rintro e W ⟨v,rfl,hrow,hb⟩
 clear ca
 rcases hrow.2 with ⟨rfl,hz⟩ | ⟨gb,cap,cur,rfl,hbase,hgb,r1,r2,r3,r4⟩
 ·have hss:ns = []:=List.eq_nil_of_length_eq_zero hz
  subst hss
  have cs:=callsIn_wide.1 ((sortsS 5).2 none 0 W)
  have HO:=Lib.hid hrow
  clear hrow
  go_wp2_with fail
  refine cs.mono ?_
  rintro e w' ⟨rfl,rfl⟩
  clear cs
  go_wp2_with fail
  go_ret
  exact ⟨_,rfl,by rw [show rising ([]:List Bs) = [] by simp [rising]]; exact HO.out,hb⟩
 ·have hH:Holds encStr W gb 0 ns.toArray:=holds_of_block hgb (by rw [Nat.mul_one] at r4; exact r4)
  have hgl:gb < W.heap.size:=(Array.getElem?_eq_some_iff.1 hgb).1
  have cs:=callsIn_wide.1 ((sortsS 5).1 gb 0 cap ns W hH hgl (by have:=HL.out; omega))
  have HO:∀ (k:Nat) (os:Array Obj),(grow (putRow encStr (Sort.ahead W k) gb 0 (ns.mergeSort fun x y=>decide (x ≤ y)).toArray) os).ownsRow w.heap.size 9 1 (.slice (some ⟨gb,0,none⟩) ns.length cap) ns.length ((ns.mergeSort fun x y=>decide (x ≤ y)).map encStr) :=
   fun k os=>ownsRow_sorted (by simp) hbase hgb r1 r2 r3
  have HHO:=Lib.hid HO
  have HB:=Lib.hid hb
  have HBA:=Lib.hid hbase
  have hsz:ns.length ≤ 60000:=HL.out
  clear hrow hgb r1 r2 r3 r4 hH HO hb hbase
  go_wp2_with fail
  refine cs.mono ?_
  rintro e w' ⟨rfl,nn,os,rfl⟩
  have ho:=HHO.out nn os
  have hb2:=HB.out.grown (grownBy_sorted (w:=W) (g:=gb) (n:=nn) (os:=os) (ns.mergeSort fun x y=>decide (x ≤ y)).toArray) HB.out.size (fun j hj=>by cases hj; exact HBA.out)
  generalize grow (putRow encStr (Sort.ahead W nn) gb 0 (ns.mergeSort fun x y=>decide (x ≤ y)).toArray) os = W9 at *
  have HO9:=Lib.hid ho
  clear cs ho
  go_wp2_with fail
  go_ret
  exact ⟨_,rfl,HO9.out,hb2⟩
end Un
end Go.Proofs.YtmhpjjjjgakpiaaGreatDoor

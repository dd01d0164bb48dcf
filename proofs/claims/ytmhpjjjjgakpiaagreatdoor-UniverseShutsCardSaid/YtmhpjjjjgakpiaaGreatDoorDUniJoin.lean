/-
isThere, join: what is there already and what is to be had, as an index.
-/
import Derived.Test.YtmhpjjjjgakpiaaGreatDoorDUniDef
import Derived.Test.YtmhpjjjjgakpiaaGreatDoorDIxNew
import Derived.Test.YtmhpjjjjgakpiaaGreatDoorDStaConf
import Derived.Test.YtmhpjjjjgakpiaaGreatDoorDRecAll2
namespace Go.Proofs.YtmhpjjjjgakpiaaGreatDoor
open Go.RowKit
set_option linter.unusedSimpArgs false
set_option linter.unusedVariables false
namespace Un
open Ver (Bs S S_size S_li sameV)
open Rl (Vars mem_getD)
open Rc (Pk nPk En nEn Pks Ens PkV PkC Has In Acc append_big infoPk in_low mayAll mayEn)
open Ix (Idx Sorts)
open Sa (fnd pkA)
theorem take_snoc2 {α:Type} {l:List α} {z:α} {k:Nat} (hk:k < l.length):l.take (k + 1) = l.take k ++ [l.getD k z]:=by
 rw [List.getD_eq_getElem?_getD,List.getElem?_eq_getElem hk,Option.getD_some,List.take_append_getElem hk]
set_option maxRecDepth 100000 in
set_option maxHeartbeats 4000000 in
theorem isThere_any (v:Value) (s:List En) (pv:Value) (x:Pk) (w:World) (h:Ens w v s) (hp:PkV w pv x) (hLs:∀ y ∈ s,y.pk.Lim) (hL:x.Lim) (hm:Ver.MaxLen w) :
  Calls Tryz.prog 40 #[v,pv] w fun e w'=>e = .returned (.bool (thr s x)) ∧ Below w.heap.size w w':=by
 obtain ⟨u1,u2,u3,u4,u5,u6,rfl,hh⟩:=hp
 have hb1:=(Below.refl w.heap.size w).alloc (Nat.le_refl _) (.cells #[.string (S x.nm),.string (S x.vs),u1,u2,u3,u4,u5,u6,.bool x.ess] 40)
 have i1:=Blk.Is.new w 40 #[.string (S x.nm),.string (S x.vs),u1,u2,u3,u4,u5,u6,.bool x.ess]
 have cf:=Sa.find_any v s x.nm _ (h.below hb1)
 obtain ⟨sa,cap,rfl⟩:=h.shape
 have H:=Lib.hid (h.below hb1)
 obtain ⟨W,hW⟩:∃ W,w.alloc (.cells #[.string (S x.nm),.string (S x.vs),u1,u2,u3,u4,u5,u6,.bool x.ess] 40) = W:=⟨_,rfl⟩
 rw [hW] at hb1 i1 cf H
 have hmW:=hm.on hb1
 have HM:=Lib.hid hmW
 have c0:=i1.at (i:=0) rfl
 have I1:=Lib.hid i1
 have HB:=Lib.hid hb1
 have HL:=Lib.hid hL
 have HLS:=Lib.hid hLs
 obtain ⟨n,hn⟩:∃ n,s.length = n:=⟨_,rfl⟩
 have HN:=Lib.hid hn
 rw [hn] at cf H ⊢
 obtain ⟨G,hG⟩:∃ G,thr s x = G:=⟨_,rfl⟩
 have HG:=Lib.hid hG
 rw [hG]
 have hu:=hW
 clear h hh hb1 i1 hm hmW hL hLs hn hW hG
 cases hF:fnd s x.nm with
 | none =>
  simp only [hF] at cf
  have hg:G = false:=by rw [← HG.out]; unfold thr; rw [hF]
  subst hg
  clear HG hF
  go_enter Tryz.func40,Tryz.ntmps40
  go_wp2_with fail
  refine cf.mono ?_
  rintro e w1 ⟨rfl,k1⟩
  have hb:=HB.out.trans (k1.mono HB.out.size)
  have K1:=Lib.hid hb
  clear cf c0 hu k1 hb
  go_upto_region 2 with fail
  refine wp_region_held (S:=fun u=>Below w1.heap.size w1 u) (by kernel_rfl) ?_
  have hS0:Below w1.heap.size w1 w1.drew:=(Below.refl _ _).drew
  change wpAnyH _ _ _ _ _ 13 _ _ w1.drew
  generalize w1.drew = u0 at *
  refine wpAnyH_take (i:=0) (v:=.bool false) rfl (by kernel_rfl) (by kernel_rfl) (by kernel_rfl) (fun _ _ _ h=>h) (.inl ⟨rfl,fun w _=>rfl⟩) hS0 ?_
  simp only [Act.put,List.getElem_toArray,List.getElem_cons_zero,List.getElem_cons_succ,List.setIfInBounds_toArray,List.set_cons_zero,List.set_cons_succ]
  refine wpAnyH_take (i:=1) (v:=.bool false) rfl (by kernel_rfl) (by kernel_rfl) (by kernel_rfl) (fun _ _ _ h=>h) (.inl ⟨rfl,fun w _=>rfl⟩) hS0 ?_
  simp only [Act.put,List.getElem_toArray,List.getElem_cons_zero,List.getElem_cons_succ,List.setIfInBounds_toArray,List.set_cons_zero,List.set_cons_succ]
  refine wpAnyH_take (i:=2) (v:=undef) rfl (by kernel_rfl) (by kernel_rfl) (by kernel_rfl) (fun _ _ _ h=>h) (.inr ⟨by kernel_rfl,rfl⟩) hS0 ?_
  simp only [Act.put,List.getElem_toArray,List.getElem_cons_zero,List.getElem_cons_succ,List.setIfInBounds_toArray,List.set_cons_zero,List.set_cons_succ]
  refine wpAnyH_take (i:=3) (v:=undef) rfl (by kernel_rfl) (by kernel_rfl) (by kernel_rfl) (fun _ _ _ h=>h) (.inr ⟨by kernel_rfl,rfl⟩) hS0 ?_
  simp only [Act.put,List.getElem_toArray,List.getElem_cons_zero,List.getElem_cons_succ,List.setIfInBounds_toArray,List.set_cons_zero,List.set_cons_succ]
  refine wpAnyH_take (i:=4) (v:=undef) rfl (by kernel_rfl) (by kernel_rfl) (by kernel_rfl) (fun _ _ _ h=>h) (.inr ⟨by kernel_rfl,rfl⟩) hS0 ?_
  simp only [Act.put,List.getElem_toArray,List.getElem_cons_zero,List.getElem_cons_succ,List.setIfInBounds_toArray,List.set_cons_zero,List.set_cons_succ]
  refine wpAnyH_take (i:=5) (v:=undef) rfl (by kernel_rfl) (by kernel_rfl) (by kernel_rfl) (fun _ _ _ h=>h) (.inr ⟨by kernel_rfl,rfl⟩) hS0 ?_
  simp only [Act.put,List.getElem_toArray,List.getElem_cons_zero,List.getElem_cons_succ,List.setIfInBounds_toArray,List.set_cons_zero,List.set_cons_succ]
  refine wpAnyH_take (i:=6) (v:=undef) rfl (by kernel_rfl) (by kernel_rfl) (by kernel_rfl) (fun _ _ _ h=>h) (.inr ⟨by kernel_rfl,rfl⟩) hS0 ?_
  simp only [Act.put,List.getElem_toArray,List.getElem_cons_zero,List.getElem_cons_succ,List.setIfInBounds_toArray,List.set_cons_zero,List.set_cons_succ]
  refine wpAnyH_take (i:=7) (v:=undef) rfl (by kernel_rfl) (by kernel_rfl) (by kernel_rfl) (fun _ _ _ h=>h) (.inr ⟨by kernel_rfl,rfl⟩) hS0 ?_
  simp only [Act.put,List.getElem_toArray,List.getElem_cons_zero,List.getElem_cons_succ,List.setIfInBounds_toArray,List.set_cons_zero,List.set_cons_succ]
  refine wpAnyH_take (i:=8) (v:=undef) rfl (by kernel_rfl) (by kernel_rfl) (by kernel_rfl) (fun _ _ _ h=>h) (.inr ⟨by kernel_rfl,rfl⟩) hS0 ?_
  simp only [Act.put,List.getElem_toArray,List.getElem_cons_zero,List.getElem_cons_succ,List.setIfInBounds_toArray,List.set_cons_zero,List.set_cons_succ]
  refine wpAnyH_take (i:=9) (v:=undef) rfl (by kernel_rfl) (by kernel_rfl) (by kernel_rfl) (fun _ _ _ h=>h) (.inr ⟨by kernel_rfl,rfl⟩) hS0 ?_
  simp only [Act.put,List.getElem_toArray,List.getElem_cons_zero,List.getElem_cons_succ,List.setIfInBounds_toArray,List.set_cons_zero,List.set_cons_succ]
  refine wpAnyH_take (i:=10) (v:=undef) rfl (by kernel_rfl) (by kernel_rfl) (by kernel_rfl) (fun _ _ _ h=>h) (.inr ⟨by kernel_rfl,rfl⟩) hS0 ?_
  simp only [Act.put,List.getElem_toArray,List.getElem_cons_zero,List.getElem_cons_succ,List.setIfInBounds_toArray,List.set_cons_zero,List.set_cons_succ]
  refine wpAnyH_all (rs:=[11]) (by kernel_rfl) (by simp) ?_
  intro i hi
  obtain rfl:=List.mem_singleton.1 hi
  refine Reg.wpOp_list rfl ?_
  go_wp2_with fail
  change _ ∧ _
  refine ⟨hS0,?_⟩
  refine wpAnyH_all (rs:=[12]) (by kernel_rfl) (by simp) ?_
  intro i hi
  obtain rfl:=List.mem_singleton.1 hi
  refine Reg.wpOp_list rfl ?_
  go_wp2_with fail
  change _ ∧ _
  refine ⟨hS0,?_⟩
  refine wpAnyH_done (by kernel_rfl) ?_ _
  have hb:=K1.out.trans (hS0.mono K1.out.size)
  go_wp2_with fail
  go_ret
  exact ⟨rfl,hb⟩
 | some k =>
  simp only [hF] at cf
  have hk:=Sa.fnd_lt hF
  have hg:G = sameV (pkA s k).vs x.vs:=by rw [← HG.out]; unfold thr; rw [hF]
  have hmem:s.getD k nEn ∈ s:=mem_getD hk
  have hlv:=(HLS.out _ hmem).vs
  rw [HN.out] at hk
  have HK:=Lib.hid hk
  have hk0:(0:Int) ≤ k:=by omega
  have hklt:(k:Int) < (n:Int):=by omega
  have HLV:=Lib.hid hlv
  clear HG hF hmem hlv
  go_enter Tryz.func40,Tryz.ntmps40
  go_wp2_with fail
  refine cf.mono ?_
  rintro e w1 ⟨rfl,k1⟩
  obtain ⟨_,a',cap',e1,_,hcells⟩:=H.out.below k1
  rw [HN.out] at e1
  simp only [Value.slice.injEq,true_and] at e1
  obtain ⟨rfl,rfl⟩:=e1
  obtain ⟨kb,off,rfl,hcl2⟩:=hcells (by have:=HK.out; rw [HN.out]; omega)
  obtain ⟨a1,n1,c1,a2,n2,c2,a3,n3,c3,a4,n4,c4,a5,n5,c5,a6,n6,c6,⟨x0,x1,x2,x3,x4,x5,x6,x7,x8,x9,x10⟩,hh⟩:=Rc.en_read (hcl2 k (by rw [HN.out]; exact HK.out))
  rw [Nat.mul_comm 11 k] at x0 x1 x2 x3 x4 x5 x6 x7 x8 x9 x10
  have d1:=(Rl.is_on I1.out k1).at (i:=1) rfl
  have hb:=HB.out.trans (k1.mono HB.out.size)
  have HB1:=Lib.hid hb
  have hpe:(s.getD k nEn).pk = pkA s k:=rfl
  rw [hpe] at x1
  rw [hpe] at HLV
  obtain ⟨V1,hV1⟩:∃ V,(pkA s k).vs = V:=⟨_,rfl⟩
  rw [hV1] at x1 hg HLV
  have cs:=Ver.same_any (S V1) (S x.vs) w1 (by rw [S_size]; have:=HLV.out; omega) (by rw [S_size]; have:=HL.out.vs; omega) (HM.out.on k1)
  rw [S_li,S_li,← hg] at cs
  have CS:Hid (∀ u,Below w1.heap.size w1 u → Calls Tryz.prog 65 #[.string (S V1),.string (S x.vs)] u fun e w'=>e = .returned (.bool G) ∧ Below u.heap.size u w'):=fun u hu=>by
   have:=Ver.same_any (S V1) (S x.vs) u (by rw [S_size]; have:=HLV.out; omega) (by rw [S_size]; have:=HL.out.vs; omega) ((HM.out.on k1).on hu)
   rw [S_li,S_li,← hg] at this
   exact this
  have X1:Hid (∀ u,Below w1.heap.size w1 u → u.cell? ⟨kb,off + k * 11 + 1,none⟩ = some (.string (S V1))):=fun u hu=>Rl.cell_on x1 hu
  have D1:Hid (∀ u,Below w1.heap.size w1 u → u.cell? ⟨w.heap.size,1,none⟩ = some (.string (S x.vs))):=fun u hu=>Rl.cell_on d1 hu
  clear cf c0 hcells hcl2 hh hpe hV1 hg hb k1 hu cs x0 x1 x2 x3 x4 x5 x6 x7 x8 x9 x10 d1
  go_upto_region 2 with fail
  refine wp_region_held (S:=fun u=>Below w1.heap.size w1 u) (by kernel_rfl) ?_
  have hS0:Below w1.heap.size w1 w1.drew:=(Below.refl _ _).drew
  change wpAnyH _ _ _ _ _ 13 _ _ w1.drew
  generalize w1.drew = u0 at *
  refine wpAnyH_take (i:=0) (v:=.bool true) rfl (by kernel_rfl) (by kernel_rfl) (by kernel_rfl) (fun _ _ _ h=>h) (.inl ⟨rfl,fun w _=>rfl⟩) hS0 ?_
  simp only [Act.put,List.getElem_toArray,List.getElem_cons_zero,List.getElem_cons_succ,List.setIfInBounds_toArray,List.set_cons_zero,List.set_cons_succ]
  refine wpAnyH_take (i:=1) (v:=.bool true) rfl (by kernel_rfl) (by kernel_rfl) (by kernel_rfl) (fun _ _ _ h=>h) (.inl ⟨rfl,fun w _=>rfl⟩) hS0 ?_
  simp only [Act.put,List.getElem_toArray,List.getElem_cons_zero,List.getElem_cons_succ,List.setIfInBounds_toArray,List.set_cons_zero,List.set_cons_succ]
  refine wpAnyH_take (i:=2) (v:=.slice (some ⟨kb,off,none⟩) n cap) rfl (by kernel_rfl) (by kernel_rfl) (by kernel_rfl) (fun _ _ _ h=>h) (.inl ⟨rfl,fun w _=>rfl⟩) hS0 ?_
  simp only [Act.put,List.getElem_toArray,List.getElem_cons_zero,List.getElem_cons_succ,List.setIfInBounds_toArray,List.set_cons_zero,List.set_cons_succ]
  refine wpAnyH_take (i:=3) (v:=.int .i64 k) rfl (by kernel_rfl) (by kernel_rfl) (by kernel_rfl) (fun _ _ _ h=>h) (.inl ⟨rfl,fun w _=>rfl⟩) hS0 ?_
  simp only [Act.put,List.getElem_toArray,List.getElem_cons_zero,List.getElem_cons_succ,List.setIfInBounds_toArray,List.set_cons_zero,List.set_cons_succ]
  refine wpAnyH_take (i:=4) (v:=.pointer (some ⟨kb,off + k * 11,none⟩)) rfl (by kernel_rfl) (by kernel_rfl) (by kernel_rfl) (fun _ _ _ h=>h) (.inl ⟨rfl,fun w _=>by simp [execOp,go_sem,Addr.add,hklt] <;> first | omega | (intro h; omega) | (intro h; simp [h])⟩) hS0 ?_
  simp only [Act.put,List.getElem_toArray,List.getElem_cons_zero,List.getElem_cons_succ,List.setIfInBounds_toArray,List.set_cons_zero,List.set_cons_succ]
  refine wpAnyH_take (i:=5) (v:=.pointer (some ⟨kb,off + k * 11,none⟩)) rfl (by kernel_rfl) (by kernel_rfl) (by kernel_rfl) (fun _ _ _ h=>h) (.inl ⟨rfl,fun w _=>rfl⟩) hS0 ?_
  simp only [Act.put,List.getElem_toArray,List.getElem_cons_zero,List.getElem_cons_succ,List.setIfInBounds_toArray,List.set_cons_zero,List.set_cons_succ]
  refine wpAnyH_take (i:=6) (v:=.pointer (some ⟨kb,off + k * 11 + 1,none⟩)) rfl (by kernel_rfl) (by kernel_rfl) (by kernel_rfl) (fun _ _ _ h=>h) (.inl ⟨rfl,fun w _=>rfl⟩) hS0 ?_
  simp only [Act.put,List.getElem_toArray,List.getElem_cons_zero,List.getElem_cons_succ,List.setIfInBounds_toArray,List.set_cons_zero,List.set_cons_succ]
  refine wpAnyH_take (i:=7) (v:=.string (S V1)) rfl (by kernel_rfl) (by kernel_rfl) (by kernel_rfl) (fun _ _ _ h=>h) (Held.load1 rfl 9 (.tmp 20) rfl kb (off + k * 11 + 1) rfl _ _ X1.out Tryz.underlying9 rfl) hS0 ?_
  simp only [Act.put,List.getElem_toArray,List.getElem_cons_zero,List.getElem_cons_succ,List.setIfInBounds_toArray,List.set_cons_zero,List.set_cons_succ]
  refine wpAnyH_take (i:=8) (v:=.pointer (some ⟨w.heap.size,1,none⟩)) rfl (by kernel_rfl) (by kernel_rfl) (by kernel_rfl) (fun _ _ _ h=>h) (.inl ⟨rfl,fun w _=>rfl⟩) hS0 ?_
  simp only [Act.put,List.getElem_toArray,List.getElem_cons_zero,List.getElem_cons_succ,List.setIfInBounds_toArray,List.set_cons_zero,List.set_cons_succ]
  refine wpAnyH_take (i:=9) (v:=.string (S x.vs)) rfl (by kernel_rfl) (by kernel_rfl) (by kernel_rfl) (fun _ _ _ h=>h) (Held.load1 rfl 9 (.tmp 22) rfl w.heap.size 1 rfl _ _ D1.out Tryz.underlying9 rfl) hS0 ?_
  simp only [Act.put,List.getElem_toArray,List.getElem_cons_zero,List.getElem_cons_succ,List.setIfInBounds_toArray,List.set_cons_zero,List.set_cons_succ]
  have cx:=CS.out u0 hS0
  refine wpAnyH_all (rs:=[10]) (by kernel_rfl) (by simp) ?_
  intro i hi
  obtain rfl:=List.mem_singleton.1 hi
  refine Reg.wpOp_list rfl ?_
  go_wp2_with fail
  refine cx.mono ?_
  rintro e u1 ⟨rfl,k1⟩
  go_wp2_with fail
  change _ ∧ _
  have hS1:Below w1.heap.size w1 u1:=hS0.trans (k1.mono hS0.size)
  refine ⟨hS1,?_⟩
  clear cx
  refine wpAnyH_all (rs:=[11]) (by kernel_rfl) (by simp) ?_
  intro i hi
  obtain rfl:=List.mem_singleton.1 hi
  refine Reg.wpOp_list rfl ?_
  go_wp2_with fail
  change _ ∧ _
  refine ⟨hS1,?_⟩
  refine wpAnyH_all (rs:=[12]) (by kernel_rfl) (by simp) ?_
  intro i hi
  obtain rfl:=List.mem_singleton.1 hi
  refine Reg.wpOp_list rfl ?_
  go_wp2_with fail
  change _ ∧ _
  refine ⟨hS1,?_⟩
  refine wpAnyH_done (by kernel_rfl) ?_ _
  have hb:=HB1.out.trans (hS1.mono HB1.out.size)
  go_wp2_with fail
  go_ret
  exact ⟨rfl,hb⟩
set_option maxRecDepth 100000 in
set_option maxHeartbeats 16000000 in
theorem join_any (v1 v2:Value) (r:List Pk) (s:List En) (w:World) (h1:Pks w v1 r) (h2:Ens w v2 s) (hL1:∀ x ∈ r,x.Lim) (hL2:∀ x ∈ s,x.pk.Lim) (hv:Vars w) :
  Calls Tryz.prog 20 #[v1,v2] w fun e w'=>((allE r s ≠ 0 ∧ e = .returned (.tuple #[.pointer none,.int .i64 (allE r s)])) ∨ (allE r s = 0 ∧ ∃ pb xs,e = .returned (.tuple #[.pointer (some ⟨pb,0,none⟩),.int .i64 0]) ∧ Sorts (joinL r s) xs ∧ Idx w' pb xs)) ∧ Below w.heap.size w w':=by
 have cA:=Rc.mayAll_any v1 r w h1 hL1 hv
 have cB:=fun u (hb:Below w.heap.size w u)=>Rc.mayEntries_any v2 s u (h2.below hb) hL2 (hv.on hb)
 obtain ⟨sa1,cap1,rfl⟩:=h1.shape
 obtain ⟨sa2,cap2,rfl⟩:=h2.shape
 have H1:=Lib.hid h1
 have H2:=Lib.hid h2
 have HL1:=Lib.hid hL1
 have HL2:=Lib.hid hL2
 have HV:=Lib.hid hv
 have HCB:=Lib.hid cB
 obtain ⟨n,hn⟩:∃ n,r.length = n:=⟨_,rfl⟩
 obtain ⟨m,hm⟩:∃ m,s.length = m:=⟨_,rfl⟩
 have HN:=Lib.hid hn
 have HMN:=Lib.hid hm
 rw [hn] at cA H1 ⊢
 rw [hm] at H2 HCB ⊢
 obtain ⟨E,hE⟩:∃ E,allE r s = E:=⟨_,rfl⟩
 have HE:=Lib.hid hE
 rw [hE]
 clear h1 h2 hL1 hL2 hv cB hn hm hE
 by_cases hr:mayAll r ≠ 0
 ·have he:E = mayAll r:=by rw [← HE.out]; unfold allE; rw [if_pos hr]
  have hne:(mayAll r != 0) = true:=by simp [hr]
  have hE0:E ≠ 0:=by rw [he]; exact hr
  have HE0:=Lib.hid hE0
  rw [← he] at cA hne
  clear HE he hr hE0
  go_enter Tryz.func20,Tryz.ntmps20
  go_wp2_with fail
  refine cA.mono ?_
  rintro e w1 ⟨rfl,k1⟩
  clear cA
  go_wp2_with fail
  go_ret2
  exact ⟨.inl ⟨HE0.out,rfl⟩,k1⟩
 ·have hr:mayAll r = 0:=Decidable.of_not_not hr
  rw [hr] at cA
  have HR:=Lib.hid hr
  by_cases hs:mayEn s ≠ 0
  ·have he:E = mayEn s:=by rw [← HE.out]; unfold allE; rw [if_neg (by simpa using hr),if_pos hs]
   have hne:(mayEn s != 0) = true:=by simp [hs]
   have hE0:E ≠ 0:=by rw [he]; exact hs
   have HE0:=Lib.hid hE0
   rw [← he] at HCB hne
   clear HE he hr hs hE0 HR
   go_enter Tryz.func20,Tryz.ntmps20
   go_wp2_with fail
   refine cA.mono ?_
   rintro e w1 ⟨rfl,k1⟩
   have cB:=HCB.out w1 k1
   have K1:=Lib.hid k1
   clear cA k1
   go_wp2_with fail
   refine cB.mono ?_
   rintro e w2 ⟨rfl,k2⟩
   have hb:=K1.out.trans (k2.mono K1.out.size)
   clear cB
   go_wp2_with fail
   go_ret2
   exact ⟨.inl ⟨HE0.out,rfl⟩,hb⟩
  ·have hs:mayEn s = 0:=Decidable.of_not_not hs
   rw [hs] at HCB
   have HSS:=Lib.hid hs
   have he:E = mayAll (joinL r s):=by rw [← HE.out]; unfold allE; rw [if_neg (by simpa using hr),if_neg (by simpa using hs)]
   have HEE:=Lib.hid he
   have hn24:n ≤ 24:=by rw [← HN.out]; exact (Ix.mayAll_of hr).len
   have hm10:m ≤ 10:=by rw [← HMN.out]; exact (mayEn_of hs).len
   have hn9:(Tryz.prog.info? 40).map (·.size) = some 9:=by kernel_rfl
   clear HE he hr hs
   go_enter Tryz.func20,Tryz.ntmps20
   go_wp2_with fail
   refine cA.mono ?_
   rintro e w1 ⟨rfl,k1⟩
   have cB:=HCB.out w1 k1
   have K1:=Lib.hid k1
   clear cA k1
   go_wp2_with fail
   refine cB.mono ?_
   rintro e w2 ⟨rfl,k2⟩
   have hb:=K1.out.trans (k2.mono K1.out.size)
   have HB2:=Lib.hid hb
   clear cB k2 hb
   go_wp2_with fail
   go_loopg [8,25] m (fun gf s8 s25 wx=>∃ (k:Nat) (pa:Option Addr) (pc:Nat),s8 = .slice pa k pc ∧ s25 = .int .i64 k ∧ Hid (Acc PkC 9 40 w.heap.size 0 wx (.slice pa k pc) ((s.take k).map En.pk)) ∧ Hid (Below w.heap.size w wx) ∧ k ≤ m ∧ m ≤ k + gf)
   case atStart=>exact ⟨0,none,0,rfl,rfl,Lib.hid (Acc.nil _ _ _ _ _ _),HB2,by omega,by omega⟩
   case round =>
    obtain ⟨k,pa,pc,rfl,rfl,HA,HBW,hkn,hfu⟩:=hrel
    have hbw:=HBW.out
    by_cases hlt:k < m
    ·obtain ⟨g',rfl⟩:∃ g',gk = g' + 1:=⟨gk - 1,by omega⟩
     have hlt':(k:Int) < (m:Int):=by omega
     have hk0:(0:Int) ≤ k:=by omega
     have hkl:k < s.length:=by rw [HMN.out]; exact hlt
     obtain ⟨_,a',cap',e1,_,hcells⟩:=H2.out
     rw [HMN.out] at e1
     simp only [Value.slice.injEq,true_and] at e1
     obtain ⟨rfl,rfl⟩:=e1
     obtain ⟨kb,off,rfl,hcl2⟩:=hcells (by omega)
     obtain ⟨a1,n1,c1,a2,n2,c2,a3,n3,c3,a4,n4,c4,a5,n5,c5,a6,n6,c6,⟨x0,x1,x2,x3,x4,x5,x6,x7,x8,x9,x10⟩,hh⟩:=Rc.en_read (hcl2 k hkl)
     rw [Nat.mul_comm 11 k] at x0 x1 x2 x3 x4 x5 x6 x7 x8 x9 x10
     replace x0:=Rl.cell_on x0 hbw
     replace x1:=Rl.cell_on x1 hbw
     replace x2:=Rl.cell_on x2 hbw
     replace x3:=Rl.cell_on x3 hbw
     replace x4:=Rl.cell_on x4 hbw
     replace x5:=Rl.cell_on x5 hbw
     replace x6:=Rl.cell_on x6 hbw
     replace x7:=Rl.cell_on x7 hbw
     replace x8:=Rl.cell_on x8 hbw
     replace x9:=Rl.cell_on x9 hbw
     replace x10:=Rl.cell_on x10 hbw
     have ht:=take_snoc2 (z:=nEn) hkl
     have hlen:((s.take k).map En.pk).length = k:=by rw [List.length_map,List.length_take,HMN.out]; omega
     generalize hx:s.getD k nEn = x at *
     have HT:=Lib.hid ht
     have HLE:=Lib.hid hlen
     have hb2:=(Below.refl wr.heap.size wr).alloc (Nat.le_refl _) (.cells #[.string (S x.pk.nm),.string (S x.pk.vs),.slice a1 n1 c1,.slice a2 n2 c2,.slice a3 n3 c3,.slice a4 n4 c4,.slice a5 n5 c5,.slice a6 n6 c6,.bool x.pk.ess,.bool x.cfg,.bool x.hld] 52)
     have i2:=Blk.Is.new wr 52 #[.string (S x.pk.nm),.string (S x.pk.vs),.slice a1 n1 c1,.slice a2 n2 c2,.slice a3 n3 c3,.slice a4 n4 c4,.slice a5 n5 c5,.slice a6 n6 c6,.bool x.pk.ess,.bool x.cfg,.bool x.hld]
     have hs2:(wr.alloc (.cells #[.string (S x.pk.nm),.string (S x.pk.vs),.slice a1 n1 c1,.slice a2 n2 c2,.slice a3 n3 c3,.slice a4 n4 c4,.slice a5 n5 c5,.slice a6 n6 c6,.bool x.pk.ess,.bool x.cfg,.bool x.hld] 52)).heap.size = wr.heap.size + 1:=by simp
     have hb3:=hb2.alloc hb2.size (.cells #[.string (S x.pk.nm),.string (S x.pk.vs),.slice a1 n1 c1,.slice a2 n2 c2,.slice a3 n3 c3,.slice a4 n4 c4,.slice a5 n5 c5,.slice a6 n6 c6,.bool x.pk.ess] 40)
     have i3:=Blk.Is.new (wr.alloc (.cells #[.string (S x.pk.nm),.string (S x.pk.vs),.slice a1 n1 c1,.slice a2 n2 c2,.slice a3 n3 c3,.slice a4 n4 c4,.slice a5 n5 c5,.slice a6 n6 c6,.bool x.pk.ess,.bool x.cfg,.bool x.hld] 52)) 40 #[.string (S x.pk.nm),.string (S x.pk.vs),.slice a1 n1 c1,.slice a2 n2 c2,.slice a3 n3 c3,.slice a4 n4 c4,.slice a5 n5 c5,.slice a6 n6 c6,.bool x.pk.ess]
     have acc3:=HA.out.on hb3
     have hk1:(k + 1) * 184 ≤ 140737488355328:=by omega
     have hin:In 0 w.heap.size w (fun u=>PkC u [.string (S x.pk.nm),.string (S x.pk.vs),.slice a1 n1 c1,.slice a2 n2 c2,.slice a3 n3 c3,.slice a4 n4 c4,.slice a5 n5 c5,.slice a6 n6 c6,.bool x.pk.ess] x.pk):=in_low fun u hu=>⟨_,_,_,_,_,_,rfl,hh.below hu⟩
     have hin3:=(hin.on (Blk.Chg.ofBelow' hbw)).on (Blk.Chg.ofBelow' hb3)
     have rg:(wr.alloc (.cells #[.string (S x.pk.nm),.string (S x.pk.vs),.slice a1 n1 c1,.slice a2 n2 c2,.slice a3 n3 c3,.slice a4 n4 c4,.slice a5 n5 c5,.slice a6 n6 c6,.bool x.pk.ess,.bool x.cfg,.bool x.hld] 52)).rangeAt wr.heap.size 0 [.string (S x.pk.nm),.string (S x.pk.vs),.slice a1 n1 c1,.slice a2 n2 c2,.slice a3 n3 c3,.slice a4 n4 c4,.slice a5 n5 c5,.slice a6 n6 c6,.bool x.pk.ess]:=fun j u hj=>by
      rw [Nat.zero_add]
      refine i2.at ?_
      have hjl:j < 9:=(List.getElem?_eq_some_iff.1 hj).1
      have hj2:([.string (S x.pk.nm),.string (S x.pk.vs),.slice a1 n1 c1,.slice a2 n2 c2,.slice a3 n3 c3,.slice a4 n4 c4,.slice a5 n5 c5,.slice a6 n6 c6,.bool x.pk.ess] ++ [.bool x.cfg,.bool x.hld])[j]? = some u:=by rw [List.getElem?_append_left hjl]; exact hj
      rw [← Array.getElem?_toList]; exact hj2
     have hB3:=hbw.trans (hb3.mono hbw.size)
     have hlow:∀ g,Value.ownBlock (.slice pa k pc) = some g → g < 0 ∨ w.heap.size ≤ g:=fun g hg=>by
      obtain ⟨_,ho⟩:=HA.out.own
      exact .inr (Rl.own_lt ho hg).1
     obtain ⟨W2,hW2⟩:∃ W2,wr.alloc (.cells #[.string (S x.pk.nm),.string (S x.pk.vs),.slice a1 n1 c1,.slice a2 n2 c2,.slice a3 n3 c3,.slice a4 n4 c4,.slice a5 n5 c5,.slice a6 n6 c6,.bool x.pk.ess,.bool x.cfg,.bool x.hld] 52) = W2:=⟨_,rfl⟩
     obtain ⟨W3,hW3⟩:∃ W3,W2.alloc (.cells #[.string (S x.pk.nm),.string (S x.pk.vs),.slice a1 n1 c1,.slice a2 n2 c2,.slice a3 n3 c3,.slice a4 n4 c4,.slice a5 n5 c5,.slice a6 n6 c6,.bool x.pk.ess] 40) = W3:=⟨_,rfl⟩
     rw [hW2] at hb3 i3 acc3 hin3 rg hs2 hB3
     rw [hW3] at hb3 i3 acc3 hin3 hB3
     rw [hs2] at i3
     have own3:∃ xs,W3.ownsRow w.heap.size 40 9 (.slice pa k pc) k xs:=by
      have:=acc3.own
      rwa [hlen] at this
     have hsz3:w.heap.size ≤ W3.heap.size:=hB3.size
     have AC3:=Lib.hid acc3
     have IN3:=Lib.hid hin3
     have LO:=Lib.hid hlow
     have B3:=Lib.hid hB3
     have I3:=Lib.hid i3
     have OW:=Lib.hid own3
     have RG:=Lib.hid rg
     have HW3:=Lib.hid hW3
     have hk2:k + 1 ≤ 4611686018427387904:=by omega
     obtain ⟨bx,hbx⟩:∃ bx,wr.heap.size = bx:=⟨_,rfl⟩
     rw [hbx] at I3 RG hs2
     clear hcells hcl2 hx ht hlen hb2 i2 hb3 i3 acc3 hin hin3 rg hlow hB3 hW3 own3 hh HA hbw HBW
     go_wp2_with (first | (at_builtin; (try rw [HW3.out]); refine append_big Tryz.underlying22 infoPk rfl rfl (.tmp 29) (.tmp 32) rfl w.heap.size (.slice pa k pc) k rfl OW.out (bx + 1) 1 rfl [.string (S x.pk.nm),.string (S x.pk.vs),.slice a1 n1 c1,.slice a2 n2 c2,.slice a3 n3 c3,.slice a4 n4 c4,.slice a5 n5 c5,.slice a6 n6 c6,.bool x.pk.ess] rfl (fun j u hj=>I3.out.at (by rw [← Array.getElem?_toList]; exact hj)) (fun u hu=>by simp only [List.mem_cons,List.not_mem_nil,or_false] at hu; rcases hu with rfl | rfl | rfl | rfl | rfl | rfl | rfl | rfl | rfl <;> rfl) hk1 hk2 hsz3 ?_; intro v' w9 h2 h3 h4; have acc9:=AC3.out.more (cs:=[.string (S x.pk.nm),.string (S x.pk.vs),.slice a1 n1 c1,.slice a2 n2 c2,.slice a3 n3 c3,.slice a4 n4 c4,.slice a5 n5 c5,.slice a6 n6 c6,.bool x.pk.ess]) rfl IN3.out hsz3 LO.out (Nat.zero_le _) (by rw [HLE.out]; exact h2) h3 h4; obtain ⟨a9,c9,e9⟩:=acc9.shape; rw [List.length_append,HLE.out,List.length_singleton] at e9; subst e9; have hb9:=Own.below_grown B3.out (Classical.choose_spec OW.out) h3 hsz3; have AC9:=Lib.hid acc9; have HB9:=Lib.hid hb9; clear acc9 hb9 h2 h3 h4 AC3 IN3 LO B3 I3 OW RG HW3) | (refine BigFrame.wpList_want rfl fun KK hKK=>wp_load_mid 40 (.tmp 30) rfl bx 0 rfl [.string (S x.pk.nm),.string (S x.pk.vs),.slice a1 n1 c1,.slice a2 n2 c2,.slice a3 n3 c3,.slice a4 n4 c4,.slice a5 n5 c5,.slice a6 n6 c6,.bool x.pk.ess] _ RG.out Tryz.underlying40 rfl hn9 (hKK _ _ ?_)))
     go_roundg g'
     case measure=>omega
     case rel =>
      refine ⟨k + 1,a9,c9,rfl,by go_num,Lib.hid ?_,HB9,by omega,by omega⟩
      rw [HT.out,List.map_append]
      exact AC9.out
    ·have hge:¬ (m:Int) < (m:Int):=by omega
     obtain rfl:m = k:=by omega
     have hacc:=HA.out
     rw [List.take_of_length_le (Nat.le_of_eq HMN.out)] at hacc
     have HA0:=Lib.hid hacc
     clear hacc HA hbw hkn hfu
     go_wp2_with fail
     go_loopg [8,37] n (fun gf s8 s37 wx=>∃ (k K:Nat) (pa:Option Addr) (pc:Nat),s8 = .slice pa K pc ∧ s37 = .int .i64 k ∧ Hid (Acc PkC 9 40 w.heap.size 0 wx (.slice pa K pc) (s.map En.pk ++ (r.take k).filter fun p=>!thr s p)) ∧ Hid ((s.map En.pk ++ (r.take k).filter fun p=>!thr s p).length = K) ∧ Hid (Below w.heap.size w wx) ∧ K ≤ m + k ∧ k ≤ n ∧ n ≤ k + gf)
     case atStart=>exact ⟨0,m,pa,pc,rfl,rfl,Lib.hid (by rw [List.take_zero,List.filter_nil,List.append_nil]; exact HA0.out),Lib.hid (by rw [List.take_zero,List.filter_nil,List.append_nil,List.length_map]; exact HMN.out),HBW,by omega,by omega,by omega⟩
     case round =>
      obtain ⟨k,K,qa,qc,rfl,rfl,HA,HKL,HBZ,hKm,hkn,hfu⟩:=hrel
      have hbw:=HBZ.out
      by_cases hlt:k < n
      ·obtain ⟨g',rfl⟩:∃ g',gk = g' + 1:=⟨gk - 1,by omega⟩
       have hlt':(k:Int) < (n:Int):=by omega
       have hk0:(0:Int) ≤ k:=by omega
       have hkl:k < r.length:=by rw [HN.out]; exact hlt
       obtain ⟨_,a',cap',e1,_,hcells⟩:=H1.out
       rw [HN.out] at e1
       simp only [Value.slice.injEq,true_and] at e1
       obtain ⟨rfl,rfl⟩:=e1
       obtain ⟨kb,off,rfl,hcl2⟩:=hcells (by omega)
       obtain ⟨a1,n1,c1,a2,n2,c2,a3,n3,c3,a4,n4,c4,a5,n5,c5,a6,n6,c6,⟨x0,x1,x2,x3,x4,x5,x6,x7,x8⟩,hh⟩:=Rc.pk_read (hcl2 k hkl)
       rw [Nat.mul_comm 9 k] at x0 x1 x2 x3 x4 x5 x6 x7 x8
       replace x0:=Rl.cell_on x0 hbw
       replace x1:=Rl.cell_on x1 hbw
       replace x2:=Rl.cell_on x2 hbw
       replace x3:=Rl.cell_on x3 hbw
       replace x4:=Rl.cell_on x4 hbw
       replace x5:=Rl.cell_on x5 hbw
       replace x6:=Rl.cell_on x6 hbw
       replace x7:=Rl.cell_on x7 hbw
       replace x8:=Rl.cell_on x8 hbw
       have ht:=take_snoc2 (z:=nPk) hkl
       have hlim:=HL1.out _ (mem_getD (z:=nPk) hkl)
       obtain ⟨x,hx⟩:∃ x,r.getD k nPk = x:=⟨_,rfl⟩
       rw [hx] at x0 x1 x8 hh ht hlim
       have hnext:s.map En.pk ++ (r.take (k + 1)).filter (fun p=>!thr s p) = (s.map En.pk ++ (r.take k).filter fun p=>!thr s p) ++ (if thr s x = true then [] else [x]):=by
        rw [ht,List.filter_append,List.append_assoc]
        congr 2
        cases hth:thr s x <;> simp [hth]
       have hb2:=(Below.refl wr.heap.size wr).alloc (Nat.le_refl _) (.cells #[.string (S x.nm),.string (S x.vs),.slice a1 n1 c1,.slice a2 n2 c2,.slice a3 n3 c3,.slice a4 n4 c4,.slice a5 n5 c5,.slice a6 n6 c6,.bool x.ess] 40)
       have i2:=Blk.Is.new wr 40 #[.string (S x.nm),.string (S x.vs),.slice a1 n1 c1,.slice a2 n2 c2,.slice a3 n3 c3,.slice a4 n4 c4,.slice a5 n5 c5,.slice a6 n6 c6,.bool x.ess]
       obtain ⟨V1,hV1⟩:∃ V1,wr.alloc (.cells #[.string (S x.nm),.string (S x.vs),.slice a1 n1 c1,.slice a2 n2 c2,.slice a3 n3 c3,.slice a4 n4 c4,.slice a5 n5 c5,.slice a6 n6 c6,.bool x.ess] 40) = V1:=⟨_,rfl⟩
       rw [hV1] at hb2 i2
       have z0:=i2.at (i:=0) rfl
       have z1:=i2.at (i:=1) rfl
       have z2:=i2.at (i:=2) rfl
       have z3:=i2.at (i:=3) rfl
       have z4:=i2.at (i:=4) rfl
       have z5:=i2.at (i:=5) rfl
       have z6:=i2.at (i:=6) rfl
       have z7:=i2.at (i:=7) rfl
       have z8:=i2.at (i:=8) rfl
       have hwv:Below w.heap.size w V1:=hbw.trans (hb2.mono hbw.size)
       have ct:=isThere_any _ s (.agg #[.string (S x.nm),.string (S x.vs),.slice a1 n1 c1,.slice a2 n2 c2,.slice a3 n3 c3,.slice a4 n4 c4,.slice a5 n5 c5,.slice a6 n6 c6,.bool x.ess]) x V1 (H2.out.below hwv) ⟨_,_,_,_,_,_,rfl,hh.below hwv⟩ HL2.out hlim (HV.out.on hwv).maxLen
       have HH:=Lib.hid hh
       have HNX:=Lib.hid hnext
       have I2:=Lib.hid i2
       have HWV:=Lib.hid hwv
       have HBV:=Lib.hid hb2
       obtain ⟨bx,hbx⟩:∃ bx,wr.heap.size = bx:=⟨_,rfl⟩
       rw [hbx] at I2 z0 z1 z2 z3 z4 z5 z6 z7 z8
       have hu:=hV1
       clear hcells hcl2 ht hlim hx hh hnext hb2 i2 hV1 hwv hbw hkl
       cases hth:thr s x with
       | true =>
        rw [hth] at ct
        rw [if_pos hth] at HNX
        clear hth
        go_wp2_with fail
        clear hu z0 z1 z2 z3 z4 z5 z6 z7 z8 x0 x1 x2 x3 x4 x5 x6 x7 x8 hbx
        refine ct.mono ?_
        rintro e w3 ⟨rfl,k3⟩
        have HB3:=Lib.hid (HWV.out.trans (k3.mono HWV.out.size))
        have HA3:=Lib.hid ((HA.out.on HBV.out).on k3)
        clear ct k3 HA HBZ
        rw [List.append_nil] at HNX
        go_wp2_with fail
        go_roundg g'
        case measure=>omega
        case rel=>exact ⟨k + 1,K,qa,qc,rfl,by go_num,by rw [HNX.out]; exact HA3,by rw [HNX.out]; exact HKL,HB3,by omega,by omega,by omega⟩
       | false =>
        rw [hth] at ct
        rw [if_neg (by rw [hth]; simp)] at HNX
        clear hth
        go_wp2_with fail
        clear hu z0 z1 z2 z3 z4 z5 z6 z7 z8 x0 x1 x2 x3 x4 x5 x6 x7 x8 hbx
        refine ct.mono ?_
        rintro e w3 ⟨rfl,k3⟩
        have i3:=Rl.is_on I2.out k3
        have z0:=i3.at (i:=0) rfl
        have z1:=i3.at (i:=1) rfl
        have z2:=i3.at (i:=2) rfl
        have z3:=i3.at (i:=3) rfl
        have z4:=i3.at (i:=4) rfl
        have z5:=i3.at (i:=5) rfl
        have z6:=i3.at (i:=6) rfl
        have z7:=i3.at (i:=7) rfl
        have z8:=i3.at (i:=8) rfl
        have hw3:Below w.heap.size w w3:=HWV.out.trans (k3.mono HWV.out.size)
        have hba:=(Below.refl w3.heap.size w3).alloc (Nat.le_refl _) (.cells #[.string (S x.nm),.string (S x.vs),.slice a1 n1 c1,.slice a2 n2 c2,.slice a3 n3 c3,.slice a4 n4 c4,.slice a5 n5 c5,.slice a6 n6 c6,.bool x.ess] 40)
        have ia:=Blk.Is.new w3 40 #[.string (S x.nm),.string (S x.vs),.slice a1 n1 c1,.slice a2 n2 c2,.slice a3 n3 c3,.slice a4 n4 c4,.slice a5 n5 c5,.slice a6 n6 c6,.bool x.ess]
        obtain ⟨V4,hV4⟩:∃ V4,w3.alloc (.cells #[.string (S x.nm),.string (S x.vs),.slice a1 n1 c1,.slice a2 n2 c2,.slice a3 n3 c3,.slice a4 n4 c4,.slice a5 n5 c5,.slice a6 n6 c6,.bool x.ess] 40) = V4:=⟨_,rfl⟩
        rw [hV4] at hba ia
        have acc4:=((HA.out.on HBV.out).on k3).on hba
        have hB4:Below w.heap.size w V4:=hw3.trans (hba.mono hw3.size)
        have hin:In 0 w.heap.size w (fun u=>PkC u [.string (S x.nm),.string (S x.vs),.slice a1 n1 c1,.slice a2 n2 c2,.slice a3 n3 c3,.slice a4 n4 c4,.slice a5 n5 c5,.slice a6 n6 c6,.bool x.ess] x):=in_low fun u hu=>⟨_,_,_,_,_,_,rfl,HH.out.below hu⟩
        have hin4:=hin.on (Blk.Chg.ofBelow' (S:=fun k=>k < 0 ∨ w.heap.size ≤ k) ⟨hB4.os,hB4.tape,hB4.output,hB4.size,fun k hk=>hB4.block k hk⟩)
        have hlow:∀ g,Value.ownBlock (.slice qa K qc) = some g → g < 0 ∨ w.heap.size ≤ g:=fun g hg=>by
         obtain ⟨_,ho⟩:=HA.out.own
         exact .inr (Rl.own_lt ho hg).1
        have own4:∃ ys,V4.ownsRow w.heap.size 40 9 (.slice qa K qc) K ys:=by
         have:=acc4.own
         rwa [HKL.out] at this
        have hsz4:w.heap.size ≤ V4.heap.size:=hB4.size
        have AC4:=Lib.hid acc4
        have IN4:=Lib.hid hin4
        have LO:=Lib.hid hlow
        have B4:=Lib.hid hB4
        have I4:=Lib.hid ia
        have OW:=Lib.hid own4
        have SZ:=Lib.hid hsz4
        have HV4:=Lib.hid hV4
        have hk1:(K + 1) * 184 ≤ 140737488355328:=by omega
        have hk2:K + 1 ≤ 4611686018427387904:=by omega
        clear ct k3 i3 hw3 hba ia hV4 acc4 hin hin4 hlow own4 hsz4 hB4 HA HBZ
        go_wp2_with (at_builtin; (try rw [HV4.out]); refine append_big Tryz.underlying22 infoPk rfl rfl (.tmp 45) (.tmp 47) rfl w.heap.size (.slice qa K qc) K rfl OW.out w3.heap.size 1 rfl [.string (S x.nm),.string (S x.vs),.slice a1 n1 c1,.slice a2 n2 c2,.slice a3 n3 c3,.slice a4 n4 c4,.slice a5 n5 c5,.slice a6 n6 c6,.bool x.ess] rfl (fun j u hj=>I4.out.at (by rw [← Array.getElem?_toList]; exact hj)) (fun u hu=>by simp only [List.mem_cons,List.not_mem_nil,or_false] at hu; rcases hu with rfl | rfl | rfl | rfl | rfl | rfl | rfl | rfl | rfl <;> rfl) hk1 hk2 SZ.out ?_; intro v' w9 h2 h3 h4; have acc9:=AC4.out.more (cs:=[.string (S x.nm),.string (S x.vs),.slice a1 n1 c1,.slice a2 n2 c2,.slice a3 n3 c3,.slice a4 n4 c4,.slice a5 n5 c5,.slice a6 n6 c6,.bool x.ess]) rfl IN4.out SZ.out LO.out (Nat.zero_le _) (by rw [HKL.out]; exact h2) h3 h4; obtain ⟨a9,c9,e9⟩:=acc9.shape; rw [List.length_append,HKL.out,List.length_singleton] at e9; subst e9; have hb9:=Own.below_grown B4.out (Classical.choose_spec OW.out) h3 SZ.out; have AC9:=Lib.hid acc9; have HB9:=Lib.hid hb9; clear acc9 hb9 h2 h3 h4 AC4 IN4 LO B4 I4 OW HV4)
        go_roundg g'
        case measure=>omega
        case rel=>exact ⟨k + 1,K + 1,a9,c9,rfl,by go_num,by rw [HNX.out]; exact AC9,by rw [HNX.out]; show List.length _ = _; rw [List.length_append,HKL.out]; rfl,HB9,by omega,by omega,by omega⟩
      ·have hge:¬ (n:Int) < (n:Int):=by omega
       obtain rfl:n = k:=by omega
       have hfull:s.map En.pk ++ (r.take n).filter (fun p=>!thr s p) = joinL r s:=by rw [List.take_of_length_le (Nat.le_of_eq HN.out)]; rfl
       have hacc:=HA.out
       rw [hfull] at hacc HKL
       have hpks:Pks wr (.slice qa K qc) (joinL r s):=Acc.slc nPk hacc (by rw [HKL.out]; omega)
       have hlj:∀ x ∈ joinL r s,x.Lim:=fun x hx=>by
        rcases List.mem_append.1 hx with hx | hx
        ·obtain ⟨y,hy,rfl⟩:=List.mem_map.1 hx
         exact HL2.out y hy
        ·exact HL1.out x (List.mem_filter.1 hx).1
       have hv:=HV.out.on hbw
       by_cases hE0:E = 0
       ·have cn:=Ix.new_yes _ (joinL r s) wr hpks hlj hv (by rw [← HEE.out]; exact hE0)
        clear hpks hlj hv hacc HA hfull HKL hbw
        go_wp2_with fail
        refine cn.mono ?_
        rintro e w9 ⟨pb,xs,rfl,hso,hix,k9⟩
        have hb9:=HBZ.out.trans (k9.mono HBZ.out.size)
        have HSO:=Lib.hid hso
        have HIX:=Lib.hid hix
        have HE0:=Lib.hid hE0
        clear cn hso hix k9 hE0
        go_wp2_with fail
        go_ret2
        exact ⟨.inr ⟨HE0.out,pb,xs,rfl,HSO.out,HIX.out⟩,hb9⟩
       ·have cn:=Ix.new_no _ (joinL r s) wr hpks hlj hv (by rw [← HEE.out]; exact hE0)
        rw [← HEE.out] at cn
        have HE0:=Lib.hid hE0
        clear hpks hlj hv hacc HA hfull HKL hbw hE0
        go_wp2_with fail
        refine cn.mono ?_
        rintro e w9 ⟨rfl,k9⟩
        have hb9:=HBZ.out.trans (k9.mono HBZ.out.size)
        clear cn k9
        go_wp2_with fail
        go_ret2
        exact ⟨.inl ⟨HE0.out,rfl⟩,hb9⟩
end Un
end Go.Proofs.YtmhpjjjjgakpiaaGreatDoor

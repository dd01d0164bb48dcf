/-
The reference's All.
-/
import Derived.Test.YtmhpjjjjgakpiaaGreatDoorBUniJoin
import Derived.Test.YtmhpjjjjgakpiaaGreatDoorBIxBack
import Derived.Test.YtmhpjjjjgakpiaaGreatDoorBIxYSort
import Derived.Test.YtmhpjjjjgakpiaaGreatDoorBIxYNames
import Derived.Test.YtmhpjjjjgakpiaaGreatDoorBVerRefCompare
import Derived.Test.YtmhpjjjjgakpiaaGreatDoorBTextTexts
namespace Go.Proofs.YtmhpjjjjgakpiaaGreatDoor
open Go.RowKit
set_option linter.unusedSimpArgs false
set_option linter.unusedVariables false
namespace Un
open Ver (Bs S S_size S_li sameV)
open Rl (Vars mem_getD)
open Rc (Pk nPk En nEn Pks Ens PkV PkC Has In Acc append_big infoPk in_low mayAll mayEn nmsOf)
open Ix (Idx Sorts insAll)
theorem names_len (l:List Pk):(Ix.insNs (l.map Pk.nm) []).length = (nmsOf l []).length:=by
 have hu:=Ix.up_nodup (Ix.insNs_up (l.map Pk.nm) [] List.Pairwise.nil)
 have hn:=Ix.nms_nodup l [] List.nodup_nil
 have e:∀ x,x ∈ Ix.insNs (l.map Pk.nm) [] ↔ x ∈ nmsOf l []:=fun x=>by
  rw [Ix.insNs_mem,Ix.nms_mem,List.mem_map]
  simp
 exact Nat.le_antisymm (Ix.len_le hu fun x hx=>(e x).1 hx) (Ix.len_le hn fun x hx=>(e x).2 hx)
set_option maxRecDepth 100000 in
set_option maxHeartbeats 16000000 in
theorem yall_any (v1 v2:Value) (r:List Pk) (s:List En) (w:World) (h1:Pks w v1 r) (h2:Ens w v2 s) (hL1:∀ x ∈ r,x.Lim) (hL2:∀ x ∈ s,x.pk.Lim) :
  Calls Tryz.prog 11 #[v1,v2] w fun e w'=>((allE r s ≠ 0 ∧ e = .returned (.tuple #[.slice none 0 0,.int .i64 (allE r s)])) ∨ (allE r s = 0 ∧ ∃ v',e = .returned (.tuple #[v',.int .i64 0]) ∧ Pks w' v' (insAll (joinL r s) []))) ∧ Below w.heap.size w w':=by
 have cA:=Rc.ymayAll_any v1 r w h1 hL1
 have cB:=fun u (hb:Below w.heap.size w u)=>Rc.ymayEntries_any v2 s u (h2.below hb) hL2
 obtain ⟨sa1,cap1,rfl⟩:=h1.shape
 obtain ⟨sa2,cap2,rfl⟩:=h2.shape
 have H1:=Lib.hid h1
 have H2:=Lib.hid h2
 have HL1:=Lib.hid hL1
 have HL2:=Lib.hid hL2
 have HCB:=Lib.hid cB
 obtain ⟨n,hn⟩:∃ n,r.length = n:=⟨_,rfl⟩
 obtain ⟨m,hm⟩:∃ m,s.length = m:=⟨_,rfl⟩
 have HN:=Lib.hid hn
 have HMN:=Lib.hid hm
 rw [hn] at cA H1 ⊢
 rw [hm] at H2 HCB ⊢
 obtain ⟨E,hE⟩:∃ E,allE r s = E:=⟨_,rfl⟩
 have HE:=Lib.hid hE
 rw [hE]
 clear h1 h2 hL1 hL2 cB hn hm hE
 by_cases hr:mayAll r ≠ 0
 ·have he:E = mayAll r:=by rw [← HE.out]; unfold allE; rw [if_pos hr]
  have hne:(mayAll r != 0) = true:=by simp [hr]
  have hE0:E ≠ 0:=by rw [he]; exact hr
  have HE0:=Lib.hid hE0
  rw [← he] at cA hne
  clear HE he hr hE0
  go_enter Tryz.func11,Tryz.ntmps11
  go_wp2_with fail
  refine cA.mono ?_
  rintro e w1 ⟨rfl,k1⟩
  clear cA
  go_wp2_with fail
  go_ret2
  exact ⟨.inl ⟨HE0.out,rfl⟩,k1⟩
 ·have hr:mayAll r = 0:=Decidable.of_not_not hr
  rw [hr] at cA
  have HR:=Lib.hid hr
  by_cases hs:mayEn s ≠ 0
  ·have he:E = mayEn s:=by rw [← HE.out]; unfold allE; rw [if_neg (by simpa using hr),if_pos hs]
   have hne:(mayEn s != 0) = true:=by simp [hs]
   have hE0:E ≠ 0:=by rw [he]; exact hs
   have HE0:=Lib.hid hE0
   rw [← he] at HCB hne
   clear HE he hr hs hE0 HR
   go_enter Tryz.func11,Tryz.ntmps11
   go_wp2_with fail
   refine cA.mono ?_
   rintro e w1 ⟨rfl,k1⟩
   have cB:=HCB.out w1 k1
   have K1:=Lib.hid k1
   clear cA k1
   go_wp2_with fail
   refine cB.mono ?_
   rintro e w2 ⟨rfl,k2⟩
   have hb:=K1.out.trans (k2.mono K1.out.size)
   clear cB
   go_wp2_with fail
   go_ret2
   exact ⟨.inl ⟨HE0.out,rfl⟩,hb⟩
  ·have hs:mayEn s = 0:=Decidable.of_not_not hs
   rw [hs] at HCB
   have HSS:=Lib.hid hs
   have he:E = mayAll (joinL r s):=by rw [← HE.out]; unfold allE; rw [if_neg (by simpa using hr),if_neg (by simpa using hs)]
   have HEE:=Lib.hid (he.trans (join_may hr hs))
   have HEK:=Lib.hid (join_each (Ix.mayAll_iff.1 hr).2.1 (mayEn_of hs).each)
   have hn24:n ≤ 24:=by rw [← HN.out]; exact (Ix.mayAll_of hr).len
   have hm10:m ≤ 10:=by rw [← HMN.out]; exact (mayEn_of hs).len
   have hn9:(Tryz.prog.info? 40).map (·.size) = some 9:=by kernel_rfl
   clear HE he hr hs
   go_enter Tryz.func11,Tryz.ntmps11
   go_wp2_with fail
   refine cA.mono ?_
   rintro e w1 ⟨rfl,k1⟩
   have cB:=HCB.out w1 k1
   have K1:=Lib.hid k1
   clear cA k1
   go_wp2_with fail
   refine cB.mono ?_
   rintro e w2 ⟨rfl,k2⟩
   have hb:=K1.out.trans (k2.mono K1.out.size)
   have HB2:=Lib.hid hb
   clear cB k2 hb
   go_wp2_with fail
   go_loopg [8,26] m (fun gf s8 s25 wx=>∃ (k:Nat) (pa:Option Addr) (pc:Nat),s8 = .slice pa k pc ∧ s25 = .int .i64 k ∧ Hid (Acc PkC 9 40 w.heap.size 0 wx (.slice pa k pc) ((s.take k).map En.pk)) ∧ Hid (Below w.heap.size w wx) ∧ k ≤ m ∧ m ≤ k + gf)
   case atStart=>exact ⟨0,none,0,rfl,rfl,Lib.hid (Acc.nil _ _ _ _ _ _),HB2,by omega,by omega⟩
   case round =>
    obtain ⟨k,pa,pc,rfl,rfl,HA,HBW,hkn,hfu⟩:=hrel
    have hbw:=HBW.out
    by_cases hlt:k < m
    ·obtain ⟨g',rfl⟩:∃ g',gk = g' + 1:=⟨gk - 1,by omega⟩
     have hlt':(k:Int) < (m:Int):=by omega
     have hk0:(0:Int) ≤ k:=by omega
     have hkl:k < s.length:=by rw [HMN.out]; exact hlt
     obtain ⟨_,a',cap',e1,_,hcells⟩:=H2.out
     rw [HMN.out] at e1
     simp only [Value.slice.injEq,true_and] at e1
     obtain ⟨rfl,rfl⟩:=e1
     obtain ⟨kb,off,rfl,hcl2⟩:=hcells (by omega)
     obtain ⟨a1,n1,c1,a2,n2,c2,a3,n3,c3,a4,n4,c4,a5,n5,c5,a6,n6,c6,⟨x0,x1,x2,x3,x4,x5,x6,x7,x8,x9,x10⟩,hh⟩:=Rc.en_read (hcl2 k hkl)
     rw [Nat.mul_comm 11 k] at x0 x1 x2 x3 x4 x5 x6 x7 x8 x9 x10
     replace x0:=Rl.cell_on x0 hbw
     replace x1:=Rl.cell_on x1 hbw
     replace x2:=Rl.cell_on x2 hbw
     replace x3:=Rl.cell_on x3 hbw
     replace x4:=Rl.cell_on x4 hbw
     replace x5:=Rl.cell_on x5 hbw
     replace x6:=Rl.cell_on x6 hbw
     replace x7:=Rl.cell_on x7 hbw
     replace x8:=Rl.cell_on x8 hbw
     replace x9:=Rl.cell_on x9 hbw
     replace x10:=Rl.cell_on x10 hbw
     have ht:=take_snoc2 (z:=nEn) hkl
     have hlen:((s.take k).map En.pk).length = k:=by rw [List.length_map,List.length_take,HMN.out]; omega
     generalize hx:s.getD k nEn = x at *
     have HT:=Lib.hid ht
     have HLE:=Lib.hid hlen
     have hb2:=(Below.refl wr.heap.size wr).alloc (Nat.le_refl _) (.cells #[.string (S x.pk.nm),.string (S x.pk.vs),.slice a1 n1 c1,.slice a2 n2 c2,.slice a3 n3 c3,.slice a4 n4 c4,.slice a5 n5 c5,.slice a6 n6 c6,.bool x.pk.ess,.bool x.cfg,.bool x.hld] 52)
     have i2:=Blk.Is.new wr 52 #[.string (S x.pk.nm),.string (S x.pk.vs),.slice a1 n1 c1,.slice a2 n2 c2,.slice a3 n3 c3,.slice a4 n4 c4,.slice a5 n5 c5,.slice a6 n6 c6,.bool x.pk.ess,.bool x.cfg,.bool x.hld]
     have hs2:(wr.alloc (.cells #[.string (S x.pk.nm),.string (S x.pk.vs),.slice a1 n1 c1,.slice a2 n2 c2,.slice a3 n3 c3,.slice a4 n4 c4,.slice a5 n5 c5,.slice a6 n6 c6,.bool x.pk.ess,.bool x.cfg,.bool x.hld] 52)).heap.size = wr.heap.size + 1:=by simp
     have hb3:=hb2.alloc hb2.size (.cells #[.string (S x.pk.nm),.string (S x.pk.vs),.slice a1 n1 c1,.slice a2 n2 c2,.slice a3 n3 c3,.slice a4 n4 c4,.slice a5 n5 c5,.slice a6 n6 c6,.bool x.pk.ess] 40)
     have i3:=Blk.Is.new (wr.alloc (.cells #[.string (S x.pk.nm),.string (S x.pk.vs),.slice a1 n1 c1,.slice a2 n2 c2,.slice a3 n3 c3,.slice a4 n4 c4,.slice a5 n5 c5,.slice a6 n6 c6,.bool x.pk.ess,.bool x.cfg,.bool x.hld] 52)) 40 #[.string (S x.pk.nm),.string (S x.pk.vs),.slice a1 n1 c1,.slice a2 n2 c2,.slice a3 n3 c3,.slice a4 n4 c4,.slice a5 n5 c5,.slice a6 n6 c6,.bool x.pk.ess]
     have acc3:=HA.out.on hb3
     have hk1:(k + 1) * 184 ≤ 140737488355328:=by omega
     have hin:In 0 w.heap.size w (fun u=>PkC u [.string (S x.pk.nm),.string (S x.pk.vs),.slice a1 n1 c1,.slice a2 n2 c2,.slice a3 n3 c3,.slice a4 n4 c4,.slice a5 n5 c5,.slice a6 n6 c6,.bool x.pk.ess] x.pk):=in_low fun u hu=>⟨_,_,_,_,_,_,rfl,hh.below hu⟩
     have hin3:=(hin.on (Blk.Chg.ofBelow' hbw)).on (Blk.Chg.ofBelow' hb3)
     have rg:(wr.alloc (.cells #[.string (S x.pk.nm),.string (S x.pk.vs),.slice a1 n1 c1,.slice a2 n2 c2,.slice a3 n3 c3,.slice a4 n4 c4,.slice a5 n5 c5,.slice a6 n6 c6,.bool x.pk.ess,.bool x.cfg,.bool x.hld] 52)).rangeAt wr.heap.size 0 [.string (S x.pk.nm),.string (S x.pk.vs),.slice a1 n1 c1,.slice a2 n2 c2,.slice a3 n3 c3,.slice a4 n4 c4,.slice a5 n5 c5,.slice a6 n6 c6,.bool x.pk.ess]:=fun j u hj=>by
      rw [Nat.zero_add]
      refine i2.at ?_
      have hjl:j < 9:=(List.getElem?_eq_some_iff.1 hj).1
      have hj2:([.string (S x.pk.nm),.string (S x.pk.vs),.slice a1 n1 c1,.slice a2 n2 c2,.slice a3 n3 c3,.slice a4 n4 c4,.slice a5 n5 c5,.slice a6 n6 c6,.bool x.pk.ess] ++ [.bool x.cfg,.bool x.hld])[j]? = some u:=by rw [List.getElem?_append_left hjl]; exact hj
      rw [← Array.getElem?_toList]; exact hj2
     have hB3:=hbw.trans (hb3.mono hbw.size)
     have hlow:∀ g,Value.ownBlock (.slice pa k pc) = some g → g < 0 ∨ w.heap.size ≤ g:=fun g hg=>by
      obtain ⟨_,ho⟩:=HA.out.own
      exact .inr (Rl.own_lt ho hg).1
     obtain ⟨W2,hW2⟩:∃ W2,wr.alloc (.cells #[.string (S x.pk.nm),.string (S x.pk.vs),.slice a1 n1 c1,.slice a2 n2 c2,.slice a3 n3 c3,.slice a4 n4 c4,.slice a5 n5 c5,.slice a6 n6 c6,.bool x.pk.ess,.bool x.cfg,.bool x.hld] 52) = W2:=⟨_,rfl⟩
     obtain ⟨W3,hW3⟩:∃ W3,W2.alloc (.cells #[.string (S x.pk.nm),.string (S x.pk.vs),.slice a1 n1 c1,.slice a2 n2 c2,.slice a3 n3 c3,.slice a4 n4 c4,.slice a5 n5 c5,.slice a6 n6 c6,.bool x.pk.ess] 40) = W3:=⟨_,rfl⟩
     rw [hW2] at hb3 i3 acc3 hin3 rg hs2 hB3
     rw [hW3] at hb3 i3 acc3 hin3 hB3
     rw [hs2] at i3
     have own3:∃ xs,W3.ownsRow w.heap.size 40 9 (.slice pa k pc) k xs:=by
      have:=acc3.own
      rwa [hlen] at this
     have hsz3:w.heap.size ≤ W3.heap.size:=hB3.size
     have AC3:=Lib.hid acc3
     have IN3:=Lib.hid hin3
     have LO:=Lib.hid hlow
     have B3:=Lib.hid hB3
     have I3:=Lib.hid i3
     have OW:=Lib.hid own3
     have RG:=Lib.hid rg
     have HW3:=Lib.hid hW3
     have hk2:k + 1 ≤ 4611686018427387904:=by omega
     obtain ⟨bx,hbx⟩:∃ bx,wr.heap.size = bx:=⟨_,rfl⟩
     rw [hbx] at I3 RG hs2
     clear hcells hcl2 hx ht hlen hb2 i2 hb3 i3 acc3 hin hin3 rg hlow hB3 hW3 own3 hh HA hbw HBW
     go_wp2_with (first | (at_builtin; (try rw [HW3.out]); refine append_big Tryz.underlying22 infoPk rfl rfl (.tmp 30) (.tmp 33) rfl w.heap.size (.slice pa k pc) k rfl OW.out (bx + 1) 1 rfl [.string (S x.pk.nm),.string (S x.pk.vs),.slice a1 n1 c1,.slice a2 n2 c2,.slice a3 n3 c3,.slice a4 n4 c4,.slice a5 n5 c5,.slice a6 n6 c6,.bool x.pk.ess] rfl (fun j u hj=>I3.out.at (by rw [← Array.getElem?_toList]; exact hj)) (fun u hu=>by simp only [List.mem_cons,List.not_mem_nil,or_false] at hu; rcases hu with rfl | rfl | rfl | rfl | rfl | rfl | rfl | rfl | rfl <;> rfl) hk1 hk2 hsz3 ?_; intro v' w9 h2 h3 h4; have acc9:=AC3.out.more (cs:=[.string (S x.pk.nm),.string (S x.pk.vs),.slice a1 n1 c1,.slice a2 n2 c2,.slice a3 n3 c3,.slice a4 n4 c4,.slice a5 n5 c5,.slice a6 n6 c6,.bool x.pk.ess]) rfl IN3.out hsz3 LO.out (Nat.zero_le _) (by rw [HLE.out]; exact h2) h3 h4; obtain ⟨a9,c9,e9⟩:=acc9.shape; rw [List.length_append,HLE.out,List.length_singleton] at e9; subst e9; have hb9:=Own.below_grown B3.out (Classical.choose_spec OW.out) h3 hsz3; have AC9:=Lib.hid acc9; have HB9:=Lib.hid hb9; clear acc9 hb9 h2 h3 h4 AC3 IN3 LO B3 I3 OW RG HW3) | (refine BigFrame.wpList_want rfl fun KK hKK=>wp_load_mid 40 (.tmp 31) rfl bx 0 rfl [.string (S x.pk.nm),.string (S x.pk.vs),.slice a1 n1 c1,.slice a2 n2 c2,.slice a3 n3 c3,.slice a4 n4 c4,.slice a5 n5 c5,.slice a6 n6 c6,.bool x.pk.ess] _ RG.out Tryz.underlying40 rfl hn9 (hKK _ _ ?_)))
     go_roundg g'
     case measure=>omega
     case rel =>
      refine ⟨k + 1,a9,c9,rfl,by go_num,Lib.hid ?_,HB9,by omega,by omega⟩
      rw [HT.out,List.map_append]
      exact AC9.out
    ·have hge:¬ (m:Int) < (m:Int):=by omega
     obtain rfl:m = k:=by omega
     have hacc:=HA.out
     rw [List.take_of_length_le (Nat.le_of_eq HMN.out)] at hacc
     have HA0:=Lib.hid hacc
     clear hacc HA hbw hkn hfu
     go_wp2_with fail
     go_loopg [8,38] n (fun gf s8 s37 wx=>∃ (k K:Nat) (pa:Option Addr) (pc:Nat),s8 = .slice pa K pc ∧ s37 = .int .i64 k ∧ Hid (Acc PkC 9 40 w.heap.size 0 wx (.slice pa K pc) (s.map En.pk ++ (r.take k).filter fun p=>!thr s p)) ∧ Hid ((s.map En.pk ++ (r.take k).filter fun p=>!thr s p).length = K) ∧ Hid (Below w.heap.size w wx) ∧ K ≤ m + k ∧ k ≤ n ∧ n ≤ k + gf)
     case atStart=>exact ⟨0,m,pa,pc,rfl,rfl,Lib.hid (by rw [List.take_zero,List.filter_nil,List.append_nil]; exact HA0.out),Lib.hid (by rw [List.take_zero,List.filter_nil,List.append_nil,List.length_map]; exact HMN.out),HBW,by omega,by omega,by omega⟩
     case round =>
      obtain ⟨k,K,qa,qc,rfl,rfl,HA,HKL,HBZ,hKm,hkn,hfu⟩:=hrel
      have hbw:=HBZ.out
      by_cases hlt:k < n
      ·obtain ⟨g',rfl⟩:∃ g',gk = g' + 1:=⟨gk - 1,by omega⟩
       have hlt':(k:Int) < (n:Int):=by omega
       have hk0:(0:Int) ≤ k:=by omega
       have hkl:k < r.length:=by rw [HN.out]; exact hlt
       obtain ⟨_,a',cap',e1,_,hcells⟩:=H1.out
       rw [HN.out] at e1
       simp only [Value.slice.injEq,true_and] at e1
       obtain ⟨rfl,rfl⟩:=e1
       obtain ⟨kb,off,rfl,hcl2⟩:=hcells (by omega)
       obtain ⟨a1,n1,c1,a2,n2,c2,a3,n3,c3,a4,n4,c4,a5,n5,c5,a6,n6,c6,⟨x0,x1,x2,x3,x4,x5,x6,x7,x8⟩,hh⟩:=Rc.pk_read (hcl2 k hkl)
       rw [Nat.mul_comm 9 k] at x0 x1 x2 x3 x4 x5 x6 x7 x8
       replace x0:=Rl.cell_on x0 hbw
       replace x1:=Rl.cell_on x1 hbw
       replace x2:=Rl.cell_on x2 hbw
       replace x3:=Rl.cell_on x3 hbw
       replace x4:=Rl.cell_on x4 hbw
       replace x5:=Rl.cell_on x5 hbw
       replace x6:=Rl.cell_on x6 hbw
       replace x7:=Rl.cell_on x7 hbw
       replace x8:=Rl.cell_on x8 hbw
       have ht:=take_snoc2 (z:=nPk) hkl
       have hlim:=HL1.out _ (mem_getD (z:=nPk) hkl)
       obtain ⟨x,hx⟩:∃ x,r.getD k nPk = x:=⟨_,rfl⟩
       rw [hx] at x0 x1 x8 hh ht hlim
       have hnext:s.map En.pk ++ (r.take (k + 1)).filter (fun p=>!thr s p) = (s.map En.pk ++ (r.take k).filter fun p=>!thr s p) ++ (if thr s x = true then [] else [x]):=by
        rw [ht,List.filter_append,List.append_assoc]
        congr 2
        cases hth:thr s x <;> simp [hth]
       have hb2:=(Below.refl wr.heap.size wr).alloc (Nat.le_refl _) (.cells #[.string (S x.nm),.string (S x.vs),.slice a1 n1 c1,.slice a2 n2 c2,.slice a3 n3 c3,.slice a4 n4 c4,.slice a5 n5 c5,.slice a6 n6 c6,.bool x.ess] 40)
       have i2:=Blk.Is.new wr 40 #[.string (S x.nm),.string (S x.vs),.slice a1 n1 c1,.slice a2 n2 c2,.slice a3 n3 c3,.slice a4 n4 c4,.slice a5 n5 c5,.slice a6 n6 c6,.bool x.ess]
       obtain ⟨V1,hV1⟩:∃ V1,wr.alloc (.cells #[.string (S x.nm),.string (S x.vs),.slice a1 n1 c1,.slice a2 n2 c2,.slice a3 n3 c3,.slice a4 n4 c4,.slice a5 n5 c5,.slice a6 n6 c6,.bool x.ess] 40) = V1:=⟨_,rfl⟩
       rw [hV1] at hb2 i2
       have z0:=i2.at (i:=0) rfl
       have z1:=i2.at (i:=1) rfl
       have z2:=i2.at (i:=2) rfl
       have z3:=i2.at (i:=3) rfl
       have z4:=i2.at (i:=4) rfl
       have z5:=i2.at (i:=5) rfl
       have z6:=i2.at (i:=6) rfl
       have z7:=i2.at (i:=7) rfl
       have z8:=i2.at (i:=8) rfl
       have hwv:Below w.heap.size w V1:=hbw.trans (hb2.mono hbw.size)
       have cf:=Sa.yfind_any _ s x.nm V1 (H2.out.below hwv)
       have HH:=Lib.hid hh
       have HNX:=Lib.hid hnext
       have I2:=Lib.hid i2
       have HWV:=Lib.hid hwv
       have HBV:=Lib.hid hb2
       have HXL:=Lib.hid hlim
       obtain ⟨bx,hbx⟩:∃ bx,wr.heap.size = bx:=⟨_,rfl⟩
       rw [hbx] at I2 z0 z1 z2 z3 z4 z5 z6 z7 z8
       have hu:=hV1
       clear hcells hcl2 ht hlim hx hh hnext hb2 i2 hV1 hwv hbw hkl
       cases hF:Sa.fnd s x.nm with
       | none =>
        simp only [hF] at cf
        have hth:thr s x = false:=by unfold thr; rw [hF]
        rw [if_neg (by rw [hth]; simp)] at HNX
        clear hth hF
        go_wp2_with fail
        clear hu z0 z1 z2 z3 z4 z5 z6 z7 z8 x0 x1 x2 x3 x4 x5 x6 x7 x8 hbx
        refine cf.mono ?_
        rintro e w2 ⟨rfl,k2⟩
        have K2:=Lib.hid k2
        clear cf k2
        go_upto_region 17 with fail
        refine wp_region_held (S:=fun u=>Below w2.heap.size w2 u) (by kernel_rfl) ?_
        have hS0:Below w2.heap.size w2 w2.drew:=(Below.refl _ _).drew
        change wpAnyH _ _ _ _ _ 14 _ _ w2.drew
        generalize w2.drew = u0 at *
        refine wpAnyH_take (i:=0) (v:=.int .i64 (-1)) rfl (by kernel_rfl) (by kernel_rfl) (by kernel_rfl) (fun _ _ _ h=>h) (.inl ⟨rfl,fun w _=>rfl⟩) hS0 ?_
        simp only [Act.put,List.getElem_toArray,List.getElem_cons_zero,List.getElem_cons_succ,List.setIfInBounds_toArray,List.set_cons_zero,List.set_cons_succ]
        refine wpAnyH_all (rs:=[1]) (by kernel_rfl) (by simp) ?_
        intro i hi
        obtain rfl:=List.mem_singleton.1 hi
        refine Reg.wpOp_list rfl ?_
        go_wp2_with fail
        change _ ∧ _
        refine ⟨hS0,?_⟩
        refine wpAnyH_all (rs:=[2]) (by kernel_rfl) (by simp) ?_
        intro i hi
        obtain rfl:=List.mem_singleton.1 hi
        refine Reg.wpOp_list rfl ?_
        go_wp2_with fail
        change _ ∧ _
        refine ⟨hS0,?_⟩
        refine wpAnyH_take (i:=3) (v:=undef) rfl (by kernel_rfl) (by kernel_rfl) (by kernel_rfl) (fun _ _ _ h=>h) (.inr ⟨by kernel_rfl,rfl⟩) hS0 ?_
        simp only [Act.put,List.getElem_toArray,List.getElem_cons_zero,List.getElem_cons_succ,List.setIfInBounds_toArray,List.set_cons_zero,List.set_cons_succ]
        refine wpAnyH_take (i:=4) (v:=undef) rfl (by kernel_rfl) (by kernel_rfl) (by kernel_rfl) (fun _ _ _ h=>h) (.inr ⟨by kernel_rfl,rfl⟩) hS0 ?_
        simp only [Act.put,List.getElem_toArray,List.getElem_cons_zero,List.getElem_cons_succ,List.setIfInBounds_toArray,List.set_cons_zero,List.set_cons_succ]
        refine wpAnyH_take (i:=5) (v:=undef) rfl (by kernel_rfl) (by kernel_rfl) (by kernel_rfl) (fun _ _ _ h=>h) (.inr ⟨by kernel_rfl,rfl⟩) hS0 ?_
        simp only [Act.put,List.getElem_toArray,List.getElem_cons_zero,List.getElem_cons_succ,List.setIfInBounds_toArray,List.set_cons_zero,List.set_cons_succ]
        refine wpAnyH_take (i:=6) (v:=undef) rfl (by kernel_rfl) (by kernel_rfl) (by kernel_rfl) (fun _ _ _ h=>h) (.inr ⟨by kernel_rfl,rfl⟩) hS0 ?_
        simp only [Act.put,List.getElem_toArray,List.getElem_cons_zero,List.getElem_cons_succ,List.setIfInBounds_toArray,List.set_cons_zero,List.set_cons_succ]
        refine wpAnyH_take (i:=7) (v:=undef) rfl (by kernel_rfl) (by kernel_rfl) (by kernel_rfl) (fun _ _ _ h=>h) (.inr ⟨by kernel_rfl,rfl⟩) hS0 ?_
        simp only [Act.put,List.getElem_toArray,List.getElem_cons_zero,List.getElem_cons_succ,List.setIfInBounds_toArray,List.set_cons_zero,List.set_cons_succ]
        refine wpAnyH_take (i:=8) (v:=undef) rfl (by kernel_rfl) (by kernel_rfl) (by kernel_rfl) (fun _ _ _ h=>h) (.inr ⟨by kernel_rfl,rfl⟩) hS0 ?_
        simp only [Act.put,List.getElem_toArray,List.getElem_cons_zero,List.getElem_cons_succ,List.setIfInBounds_toArray,List.set_cons_zero,List.set_cons_succ]
        refine wpAnyH_take (i:=9) (v:=undef) rfl (by kernel_rfl) (by kernel_rfl) (by kernel_rfl) (fun _ _ _ h=>h) (.inr ⟨by kernel_rfl,rfl⟩) hS0 ?_
        simp only [Act.put,List.getElem_toArray,List.getElem_cons_zero,List.getElem_cons_succ,List.setIfInBounds_toArray,List.set_cons_zero,List.set_cons_succ]
        refine wpAnyH_take (i:=10) (v:=undef) rfl (by kernel_rfl) (by kernel_rfl) (by kernel_rfl) (fun _ _ _ h=>h) (.inr ⟨by kernel_rfl,rfl⟩) hS0 ?_
        simp only [Act.put,List.getElem_toArray,List.getElem_cons_zero,List.getElem_cons_succ,List.setIfInBounds_toArray,List.set_cons_zero,List.set_cons_succ]
        refine wpAnyH_take (i:=11) (v:=undef) rfl (by kernel_rfl) (by kernel_rfl) (by kernel_rfl) (fun _ _ _ h=>h) (.inr ⟨by kernel_rfl,rfl⟩) hS0 ?_
        simp only [Act.put,List.getElem_toArray,List.getElem_cons_zero,List.getElem_cons_succ,List.setIfInBounds_toArray,List.set_cons_zero,List.set_cons_succ]
        refine wpAnyH_take (i:=12) (v:=undef) rfl (by kernel_rfl) (by kernel_rfl) (by kernel_rfl) (fun _ _ _ h=>h) (.inr ⟨by kernel_rfl,rfl⟩) hS0 ?_
        simp only [Act.put,List.getElem_toArray,List.getElem_cons_zero,List.getElem_cons_succ,List.setIfInBounds_toArray,List.set_cons_zero,List.set_cons_succ]
        refine wpAnyH_all (rs:=[13]) (by kernel_rfl) (by simp) ?_
        intro i hi
        obtain rfl:=List.mem_singleton.1 hi
        refine Reg.wpOp_list rfl ?_
        go_wp2_with fail
        change _ ∧ _
        refine ⟨hS0,?_⟩
        refine wpAnyH_done (by kernel_rfl) ?_ _
        have K3:=Lib.hid (K2.out.trans (hS0.mono K2.out.size))
        generalize u0 = w3 at *
        clear hS0
        have i3:=Rl.is_on I2.out K3.out
        have z0:=i3.at (i:=0) rfl
        have z1:=i3.at (i:=1) rfl
        have z2:=i3.at (i:=2) rfl
        have z3:=i3.at (i:=3) rfl
        have z4:=i3.at (i:=4) rfl
        have z5:=i3.at (i:=5) rfl
        have z6:=i3.at (i:=6) rfl
        have z7:=i3.at (i:=7) rfl
        have z8:=i3.at (i:=8) rfl
        have hw3:Below w.heap.size w w3:=HWV.out.trans (K3.out.mono HWV.out.size)
        have hba:=(Below.refl w3.heap.size w3).alloc (Nat.le_refl _) (.cells #[.string (S x.nm),.string (S x.vs),.slice a1 n1 c1,.slice a2 n2 c2,.slice a3 n3 c3,.slice a4 n4 c4,.slice a5 n5 c5,.slice a6 n6 c6,.bool x.ess] 40)
        have ia:=Blk.Is.new w3 40 #[.string (S x.nm),.string (S x.vs),.slice a1 n1 c1,.slice a2 n2 c2,.slice a3 n3 c3,.slice a4 n4 c4,.slice a5 n5 c5,.slice a6 n6 c6,.bool x.ess]
        obtain ⟨V4,hV4⟩:∃ V4,w3.alloc (.cells #[.string (S x.nm),.string (S x.vs),.slice a1 n1 c1,.slice a2 n2 c2,.slice a3 n3 c3,.slice a4 n4 c4,.slice a5 n5 c5,.slice a6 n6 c6,.bool x.ess] 40) = V4:=⟨_,rfl⟩
        rw [hV4] at hba ia
        have acc4:=((HA.out.on HBV.out).on K3.out).on hba
        have hB4:Below w.heap.size w V4:=hw3.trans (hba.mono hw3.size)
        have hin:In 0 w.heap.size w (fun u=>PkC u [.string (S x.nm),.string (S x.vs),.slice a1 n1 c1,.slice a2 n2 c2,.slice a3 n3 c3,.slice a4 n4 c4,.slice a5 n5 c5,.slice a6 n6 c6,.bool x.ess] x):=in_low fun u hu=>⟨_,_,_,_,_,_,rfl,HH.out.below hu⟩
        have hin4:=hin.on (Blk.Chg.ofBelow' (S:=fun k=>k < 0 ∨ w.heap.size ≤ k) ⟨hB4.os,hB4.tape,hB4.output,hB4.size,fun k hk=>hB4.block k hk⟩)
        have hlow:∀ g,Value.ownBlock (.slice qa K qc) = some g → g < 0 ∨ w.heap.size ≤ g:=fun g hg=>by
         obtain ⟨_,ho⟩:=HA.out.own
         exact .inr (Rl.own_lt ho hg).1
        have own4:∃ ys,V4.ownsRow w.heap.size 40 9 (.slice qa K qc) K ys:=by
         have:=acc4.own
         rwa [HKL.out] at this
        have hsz4:w.heap.size ≤ V4.heap.size:=hB4.size
        have AC4:=Lib.hid acc4
        have IN4:=Lib.hid hin4
        have LO:=Lib.hid hlow
        have B4:=Lib.hid hB4
        have I4:=Lib.hid ia
        have OW:=Lib.hid own4
        have SZ:=Lib.hid hsz4
        have HV4:=Lib.hid hV4
        have hk1:(K + 1) * 184 ≤ 140737488355328:=by omega
        have hk2:K + 1 ≤ 4611686018427387904:=by omega
        clear i3 hw3 hba ia hV4 acc4 hin hin4 hlow own4 hsz4 hB4 HA HBZ
        go_wp2_with (at_builtin; (try rw [HV4.out]); refine append_big Tryz.underlying22 infoPk rfl rfl (.tmp 60) (.tmp 62) rfl w.heap.size (.slice qa K qc) K rfl OW.out w3.heap.size 1 rfl [.string (S x.nm),.string (S x.vs),.slice a1 n1 c1,.slice a2 n2 c2,.slice a3 n3 c3,.slice a4 n4 c4,.slice a5 n5 c5,.slice a6 n6 c6,.bool x.ess] rfl (fun j u hj=>I4.out.at (by rw [← Array.getElem?_toList]; exact hj)) (fun u hu=>by simp only [List.mem_cons,List.not_mem_nil,or_false] at hu; rcases hu with rfl | rfl | rfl | rfl | rfl | rfl | rfl | rfl | rfl <;> rfl) hk1 hk2 SZ.out ?_; intro v' w9 h2 h3 h4; have acc9:=AC4.out.more (cs:=[.string (S x.nm),.string (S x.vs),.slice a1 n1 c1,.slice a2 n2 c2,.slice a3 n3 c3,.slice a4 n4 c4,.slice a5 n5 c5,.slice a6 n6 c6,.bool x.ess]) rfl IN4.out SZ.out LO.out (Nat.zero_le _) (by rw [HKL.out]; exact h2) h3 h4; obtain ⟨a9,c9,e9⟩:=acc9.shape; rw [List.length_append,HKL.out,List.length_singleton] at e9; subst e9; have hb9:=Own.below_grown B4.out (Classical.choose_spec OW.out) h3 SZ.out; have AC9:=Lib.hid acc9; have HB9:=Lib.hid hb9; clear acc9 hb9 h2 h3 h4 AC4 IN4 LO B4 I4 OW HV4)
        go_roundg g'
        case measure=>omega
        case rel=>exact ⟨k + 1,K + 1,a9,c9,rfl,by go_num,by rw [HNX.out]; exact AC9,by rw [HNX.out]; show List.length _ = _; rw [List.length_append,HKL.out]; rfl,HB9,by omega,by omega,by omega⟩
       | some q =>
        simp only [hF] at cf
        have hq:=Sa.fnd_lt hF
        have hth:thr s x = sameV (Sa.pkA s q).vs x.vs:=by unfold thr; rw [hF]
        have hmem:s.getD q nEn ∈ s:=mem_getD hq
        have hlv:=(HL2.out _ hmem).vs
        have hpe:(s.getD q nEn).pk = Sa.pkA s q:=rfl
        rw [hpe] at hlv
        obtain ⟨V9,hV9⟩:∃ V,(Sa.pkA s q).vs = V:=⟨_,rfl⟩
        rw [hV9] at hlv hth
        rw [HMN.out] at hq
        have hk0q:(0:Int) ≤ q:=by omega
        have hklt:(q:Int) < (m:Int):=by omega
        have HQ:=Lib.hid hq
        have HLV:=Lib.hid hlv
        have HVE:=Lib.hid hV9
        obtain ⟨G,hG⟩:∃ G,thr s x = G:=⟨_,rfl⟩
        rw [hG] at hth HNX
        clear hF hmem hlv hV9 hpe hG hq
        go_wp2_with fail
        clear hu z0 z1 z2 z3 z4 z5 z6 z7 z8 x0 x1 x2 x3 x4 x5 x6 x7 x8 hbx
        refine cf.mono ?_
        rintro e w2 ⟨rfl,k2⟩
        have K2:=Lib.hid k2
        have hw2:Below w.heap.size w w2:=HWV.out.trans (k2.mono HWV.out.size)
        obtain ⟨_,a',cap',e1,_,hcells⟩:=H2.out.below hw2
        rw [HMN.out] at e1
        simp only [Value.slice.injEq,true_and] at e1
        obtain ⟨rfl,rfl⟩:=e1
        obtain ⟨kb,off,rfl,hcl2⟩:=hcells (by have:=HQ.out; rw [HMN.out]; omega)
        obtain ⟨a1',n1',c1',a2',n2',c2',a3',n3',c3',a4',n4',c4',a5',n5',c5',a6',n6',c6',⟨x0,x1,x2,x3,x4,x5,x6,x7,x8,x9,x10⟩,hh⟩:=Rc.en_read (hcl2 q (by rw [HMN.out]; exact HQ.out))
        rw [Nat.mul_comm 11 q] at x0 x1 x2 x3 x4 x5 x6 x7 x8 x9 x10
        have hpe:(s.getD q nEn).pk = Sa.pkA s q:=rfl
        rw [hpe,HVE.out] at x1
        have d1:=(Rl.is_on I2.out k2).at (i:=1) rfl
        have CS:Hid (∀ u,Below w2.heap.size w2 u → Calls Tryz.prog 26 #[.string (S V9),.string (S x.vs)] u fun e w'=>e = .returned (.bool G) ∧ Below u.heap.size u w'):=fun u hu=>by
         have:=Ver.ysame_any (S V9) (S x.vs) u (by rw [S_size]; have:=HLV.out; omega) (by rw [S_size]; have:=HXL.out.vs; omega)
         rw [S_li,S_li,← hth] at this
         exact this
        have X1:Hid (∀ u,Below w2.heap.size w2 u → u.cell? ⟨kb,off + q * 11 + 1,none⟩ = some (.string (S V9))):=fun u hu=>Rl.cell_on x1 hu
        have D1:Hid (∀ u,Below w2.heap.size w2 u → u.cell? ⟨bx,1,none⟩ = some (.string (S x.vs))):=fun u hu=>Rl.cell_on d1 hu
        clear cf k2 hw2 hcells hcl2 hh hpe x0 x1 x2 x3 x4 x5 x6 x7 x8 x9 x10 d1 hth
        cases G with
        | true =>
         rw [if_pos rfl,List.append_nil] at HNX
         go_upto_region 17 with fail
         refine wp_region_held (S:=fun u=>Below w2.heap.size w2 u) (by kernel_rfl) ?_
         have hS0:Below w2.heap.size w2 w2.drew:=(Below.refl _ _).drew
         change wpAnyH _ _ _ _ _ 14 _ _ w2.drew
         generalize w2.drew = u0 at *
         refine wpAnyH_take (i:=0) (v:=.int .i64 q) rfl (by kernel_rfl) (by kernel_rfl) (by kernel_rfl) (fun _ _ _ h=>h) (.inl ⟨rfl,fun w _=>rfl⟩) hS0 ?_
         simp only [Act.put,List.getElem_toArray,List.getElem_cons_zero,List.getElem_cons_succ,List.setIfInBounds_toArray,List.set_cons_zero,List.set_cons_succ]
         refine wpAnyH_all (rs:=[1]) (by kernel_rfl) (by simp) ?_
         intro i hi
         obtain rfl:=List.mem_singleton.1 hi
         refine Reg.wpOp_list rfl ?_
         go_wp2_with fail
         change _ ∧ _
         refine ⟨hS0,?_⟩
         refine wpAnyH_all (rs:=[2]) (by kernel_rfl) (by simp) ?_
         intro i hi
         obtain rfl:=List.mem_singleton.1 hi
         refine Reg.wpOp_list rfl ?_
         go_wp2_with fail
         change _ ∧ _
         refine ⟨hS0,?_⟩
         refine wpAnyH_take (i:=3) (v:=.slice (some ⟨kb,off,none⟩) m cap2) rfl (by kernel_rfl) (by kernel_rfl) (by kernel_rfl) (fun _ _ _ h=>h) (.inl ⟨rfl,fun w _=>rfl⟩) hS0 ?_
         simp only [Act.put,List.getElem_toArray,List.getElem_cons_zero,List.getElem_cons_succ,List.setIfInBounds_toArray,List.set_cons_zero,List.set_cons_succ]
         refine wpAnyH_take (i:=4) (v:=.int .i64 q) rfl (by kernel_rfl) (by kernel_rfl) (by kernel_rfl) (fun _ _ _ h=>h) (.inl ⟨rfl,fun w _=>rfl⟩) hS0 ?_
         simp only [Act.put,List.getElem_toArray,List.getElem_cons_zero,List.getElem_cons_succ,List.setIfInBounds_toArray,List.set_cons_zero,List.set_cons_succ]
         refine wpAnyH_take (i:=5) (v:=.pointer (some ⟨kb,off + q * 11,none⟩)) rfl (by kernel_rfl) (by kernel_rfl) (by kernel_rfl) (fun _ _ _ h=>h) (.inl ⟨rfl,fun w _=>by simp [execOp,go_sem,Addr.add,hklt] <;> first | omega | (intro h; omega) | (intro h; simp [h])⟩) hS0 ?_
         simp only [Act.put,List.getElem_toArray,List.getElem_cons_zero,List.getElem_cons_succ,List.setIfInBounds_toArray,List.set_cons_zero,List.set_cons_succ]
         refine wpAnyH_take (i:=6) (v:=.pointer (some ⟨kb,off + q * 11,none⟩)) rfl (by kernel_rfl) (by kernel_rfl) (by kernel_rfl) (fun _ _ _ h=>h) (.inl ⟨rfl,fun w _=>rfl⟩) hS0 ?_
         simp only [Act.put,List.getElem_toArray,List.getElem_cons_zero,List.getElem_cons_succ,List.setIfInBounds_toArray,List.set_cons_zero,List.set_cons_succ]
         refine wpAnyH_take (i:=7) (v:=.pointer (some ⟨kb,off + q * 11 + 1,none⟩)) rfl (by kernel_rfl) (by kernel_rfl) (by kernel_rfl) (fun _ _ _ h=>h) (.inl ⟨rfl,fun w _=>rfl⟩) hS0 ?_
         simp only [Act.put,List.getElem_toArray,List.getElem_cons_zero,List.getElem_cons_succ,List.setIfInBounds_toArray,List.set_cons_zero,List.set_cons_succ]
         refine wpAnyH_take (i:=8) (v:=.string (S V9)) rfl (by kernel_rfl) (by kernel_rfl) (by kernel_rfl) (fun _ _ _ h=>h) (Held.load1 rfl 9 (.tmp 53) rfl kb (off + q * 11 + 1) rfl _ _ X1.out Tryz.underlying9 rfl) hS0 ?_
         simp only [Act.put,List.getElem_toArray,List.getElem_cons_zero,List.getElem_cons_succ,List.setIfInBounds_toArray,List.set_cons_zero,List.set_cons_succ]
         refine wpAnyH_take (i:=9) (v:=.pointer (some ⟨bx,1,none⟩)) rfl (by kernel_rfl) (by kernel_rfl) (by kernel_rfl) (fun _ _ _ h=>h) (.inl ⟨rfl,fun w _=>rfl⟩) hS0 ?_
         simp only [Act.put,List.getElem_toArray,List.getElem_cons_zero,List.getElem_cons_succ,List.setIfInBounds_toArray,List.set_cons_zero,List.set_cons_succ]
         refine wpAnyH_take (i:=10) (v:=.string (S x.vs)) rfl (by kernel_rfl) (by kernel_rfl) (by kernel_rfl) (fun _ _ _ h=>h) (Held.load1 rfl 9 (.tmp 55) rfl bx 1 rfl _ _ D1.out Tryz.underlying9 rfl) hS0 ?_
         simp only [Act.put,List.getElem_toArray,List.getElem_cons_zero,List.getElem_cons_succ,List.setIfInBounds_toArray,List.set_cons_zero,List.set_cons_succ]
         have cx:=CS.out u0 hS0
         refine wpAnyH_all (rs:=[11]) (by kernel_rfl) (by simp) ?_
         intro i hi
         obtain rfl:=List.mem_singleton.1 hi
         refine Reg.wpOp_list rfl ?_
         go_wp2_with fail
         refine cx.mono ?_
         rintro e u1 ⟨rfl,k1⟩
         go_wp2_with fail
         change _ ∧ _
         have hS1:Below w2.heap.size w2 u1:=hS0.trans (k1.mono hS0.size)
         refine ⟨hS1,?_⟩
         clear cx
         refine wpAnyH_all (rs:=[12]) (by kernel_rfl) (by simp) ?_
         intro i hi
         obtain rfl:=List.mem_singleton.1 hi
         refine Reg.wpOp_list rfl ?_
         go_wp2_with fail
         change _ ∧ _
         refine ⟨hS1,?_⟩
         refine wpAnyH_all (rs:=[13]) (by kernel_rfl) (by simp) ?_
         intro i hi
         obtain rfl:=List.mem_singleton.1 hi
         refine Reg.wpOp_list rfl ?_
         go_wp2_with fail
         change _ ∧ _
         refine ⟨hS1,?_⟩
         refine wpAnyH_done (by kernel_rfl) ?_ _
         have K3:=Lib.hid (K2.out.trans (hS1.mono K2.out.size))
         generalize u1 = w3 at *
         clear hS0 hS1 k1
         have HB3:=Lib.hid (HWV.out.trans (K3.out.mono HWV.out.size))
         have HA3:=Lib.hid ((HA.out.on HBV.out).on K3.out)
         clear HA HBZ
         go_wp2_with fail
         go_roundg g'
         case measure=>omega
         case rel=>exact ⟨k + 1,K,qa,qc,rfl,by go_num,by rw [HNX.out]; exact HA3,by rw [HNX.out]; exact HKL,HB3,by omega,by omega,by omega⟩
        | false =>
         rw [if_neg (by simp)] at HNX
         go_upto_region 17 with fail
         refine wp_region_held (S:=fun u=>Below w2.heap.size w2 u) (by kernel_rfl) ?_
         have hS0:Below w2.heap.size w2 w2.drew:=(Below.refl _ _).drew
         change wpAnyH _ _ _ _ _ 14 _ _ w2.drew
         generalize w2.drew = u0 at *
         refine wpAnyH_take (i:=0) (v:=.int .i64 q) rfl (by kernel_rfl) (by kernel_rfl) (by kernel_rfl) (fun _ _ _ h=>h) (.inl ⟨rfl,fun w _=>rfl⟩) hS0 ?_
         simp only [Act.put,List.getElem_toArray,List.getElem_cons_zero,List.getElem_cons_succ,List.setIfInBounds_toArray,List.set_cons_zero,List.set_cons_succ]
         refine wpAnyH_all (rs:=[1]) (by kernel_rfl) (by simp) ?_
         intro i hi
         obtain rfl:=List.mem_singleton.1 hi
         refine Reg.wpOp_list rfl ?_
         go_wp2_with fail
         change _ ∧ _
         refine ⟨hS0,?_⟩
         refine wpAnyH_all (rs:=[2]) (by kernel_rfl) (by simp) ?_
         intro i hi
         obtain rfl:=List.mem_singleton.1 hi
         refine Reg.wpOp_list rfl ?_
         go_wp2_with fail
         change _ ∧ _
         refine ⟨hS0,?_⟩
         refine wpAnyH_take (i:=3) (v:=.slice (some ⟨kb,off,none⟩) m cap2) rfl (by kernel_rfl) (by kernel_rfl) (by kernel_rfl) (fun _ _ _ h=>h) (.inl ⟨rfl,fun w _=>rfl⟩) hS0 ?_
         simp only [Act.put,List.getElem_toArray,List.getElem_cons_zero,List.getElem_cons_succ,List.setIfInBounds_toArray,List.set_cons_zero,List.set_cons_succ]
         refine wpAnyH_take (i:=4) (v:=.int .i64 q) rfl (by kernel_rfl) (by kernel_rfl) (by kernel_rfl) (fun _ _ _ h=>h) (.inl ⟨rfl,fun w _=>rfl⟩) hS0 ?_
         simp only [Act.put,List.getElem_toArray,List.getElem_cons_zero,List.getElem_cons_succ,List.setIfInBounds_toArray,List.set_cons_zero,List.set_cons_succ]
         refine wpAnyH_take (i:=5) (v:=.pointer (some ⟨kb,off + q * 11,none⟩)) rfl (by kernel_rfl) (by kernel_rfl) (by kernel_rfl) (fun _ _ _ h=>h) (.inl ⟨rfl,fun w _=>by simp [execOp,go_sem,Addr.add,hklt] <;> first | omega | (intro h; omega) | (intro h; simp [h])⟩) hS0 ?_
         simp only [Act.put,List.getElem_toArray,List.getElem_cons_zero,List.getElem_cons_succ,List.setIfInBounds_toArray,List.set_cons_zero,List.set_cons_succ]
         refine wpAnyH_take (i:=6) (v:=.pointer (some ⟨kb,off + q * 11,none⟩)) rfl (by kernel_rfl) (by kernel_rfl) (by kernel_rfl) (fun _ _ _ h=>h) (.inl ⟨rfl,fun w _=>rfl⟩) hS0 ?_
         simp only [Act.put,List.getElem_toArray,List.getElem_cons_zero,List.getElem_cons_succ,List.setIfInBounds_toArray,List.set_cons_zero,List.set_cons_succ]
         refine wpAnyH_take (i:=7) (v:=.pointer (some ⟨kb,off + q * 11 + 1,none⟩)) rfl (by kernel_rfl) (by kernel_rfl) (by kernel_rfl) (fun _ _ _ h=>h) (.inl ⟨rfl,fun w _=>rfl⟩) hS0 ?_
         simp only [Act.put,List.getElem_toArray,List.getElem_cons_zero,List.getElem_cons_succ,List.setIfInBounds_toArray,List.set_cons_zero,List.set_cons_succ]
         refine wpAnyH_take (i:=8) (v:=.string (S V9)) rfl (by kernel_rfl) (by kernel_rfl) (by kernel_rfl) (fun _ _ _ h=>h) (Held.load1 rfl 9 (.tmp 53) rfl kb (off + q * 11 + 1) rfl _ _ X1.out Tryz.underlying9 rfl) hS0 ?_
         simp only [Act.put,List.getElem_toArray,List.getElem_cons_zero,List.getElem_cons_succ,List.setIfInBounds_toArray,List.set_cons_zero,List.set_cons_succ]
         refine wpAnyH_take (i:=9) (v:=.pointer (some ⟨bx,1,none⟩)) rfl (by kernel_rfl) (by kernel_rfl) (by kernel_rfl) (fun _ _ _ h=>h) (.inl ⟨rfl,fun w _=>rfl⟩) hS0 ?_
         simp only [Act.put,List.getElem_toArray,List.getElem_cons_zero,List.getElem_cons_succ,List.setIfInBounds_toArray,List.set_cons_zero,List.set_cons_succ]
         refine wpAnyH_take (i:=10) (v:=.string (S x.vs)) rfl (by kernel_rfl) (by kernel_rfl) (by kernel_rfl) (fun _ _ _ h=>h) (Held.load1 rfl 9 (.tmp 55) rfl bx 1 rfl _ _ D1.out Tryz.underlying9 rfl) hS0 ?_
         simp only [Act.put,List.getElem_toArray,List.getElem_cons_zero,List.getElem_cons_succ,List.setIfInBounds_toArray,List.set_cons_zero,List.set_cons_succ]
         have cx:=CS.out u0 hS0
         refine wpAnyH_all (rs:=[11]) (by kernel_rfl) (by simp) ?_
         intro i hi
         obtain rfl:=List.mem_singleton.1 hi
         refine Reg.wpOp_list rfl ?_
         go_wp2_with fail
         refine cx.mono ?_
         rintro e u1 ⟨rfl,k1⟩
         go_wp2_with fail
         change _ ∧ _
         have hS1:Below w2.heap.size w2 u1:=hS0.trans (k1.mono hS0.size)
         refine ⟨hS1,?_⟩
         clear cx
         refine wpAnyH_all (rs:=[12]) (by kernel_rfl) (by simp) ?_
         intro i hi
         obtain rfl:=List.mem_singleton.1 hi
         refine Reg.wpOp_list rfl ?_
         go_wp2_with fail
         change _ ∧ _
         refine ⟨hS1,?_⟩
         refine wpAnyH_all (rs:=[13]) (by kernel_rfl) (by simp) ?_
         intro i hi
         obtain rfl:=List.mem_singleton.1 hi
         refine Reg.wpOp_list rfl ?_
         go_wp2_with fail
         change _ ∧ _
         refine ⟨hS1,?_⟩
         refine wpAnyH_done (by kernel_rfl) ?_ _
         have K3:=Lib.hid (K2.out.trans (hS1.mono K2.out.size))
         generalize u1 = w3 at *
         clear hS0 hS1 k1
         have i3:=Rl.is_on I2.out K3.out
         have z0:=i3.at (i:=0) rfl
         have z1:=i3.at (i:=1) rfl
         have z2:=i3.at (i:=2) rfl
         have z3:=i3.at (i:=3) rfl
         have z4:=i3.at (i:=4) rfl
         have z5:=i3.at (i:=5) rfl
         have z6:=i3.at (i:=6) rfl
         have z7:=i3.at (i:=7) rfl
         have z8:=i3.at (i:=8) rfl
         have hw3:Below w.heap.size w w3:=HWV.out.trans (K3.out.mono HWV.out.size)
         have hba:=(Below.refl w3.heap.size w3).alloc (Nat.le_refl _) (.cells #[.string (S x.nm),.string (S x.vs),.slice a1 n1 c1,.slice a2 n2 c2,.slice a3 n3 c3,.slice a4 n4 c4,.slice a5 n5 c5,.slice a6 n6 c6,.bool x.ess] 40)
         have ia:=Blk.Is.new w3 40 #[.string (S x.nm),.string (S x.vs),.slice a1 n1 c1,.slice a2 n2 c2,.slice a3 n3 c3,.slice a4 n4 c4,.slice a5 n5 c5,.slice a6 n6 c6,.bool x.ess]
         obtain ⟨V4,hV4⟩:∃ V4,w3.alloc (.cells #[.string (S x.nm),.string (S x.vs),.slice a1 n1 c1,.slice a2 n2 c2,.slice a3 n3 c3,.slice a4 n4 c4,.slice a5 n5 c5,.slice a6 n6 c6,.bool x.ess] 40) = V4:=⟨_,rfl⟩
         rw [hV4] at hba ia
         have acc4:=((HA.out.on HBV.out).on K3.out).on hba
         have hB4:Below w.heap.size w V4:=hw3.trans (hba.mono hw3.size)
         have hin:In 0 w.heap.size w (fun u=>PkC u [.string (S x.nm),.string (S x.vs),.slice a1 n1 c1,.slice a2 n2 c2,.slice a3 n3 c3,.slice a4 n4 c4,.slice a5 n5 c5,.slice a6 n6 c6,.bool x.ess] x):=in_low fun u hu=>⟨_,_,_,_,_,_,rfl,HH.out.below hu⟩
         have hin4:=hin.on (Blk.Chg.ofBelow' (S:=fun k=>k < 0 ∨ w.heap.size ≤ k) ⟨hB4.os,hB4.tape,hB4.output,hB4.size,fun k hk=>hB4.block k hk⟩)
         have hlow:∀ g,Value.ownBlock (.slice qa K qc) = some g → g < 0 ∨ w.heap.size ≤ g:=fun g hg=>by
          obtain ⟨_,ho⟩:=HA.out.own
          exact .inr (Rl.own_lt ho hg).1
         have own4:∃ ys,V4.ownsRow w.heap.size 40 9 (.slice qa K qc) K ys:=by
          have:=acc4.own
          rwa [HKL.out] at this
         have hsz4:w.heap.size ≤ V4.heap.size:=hB4.size
         have AC4:=Lib.hid acc4
         have IN4:=Lib.hid hin4
         have LO:=Lib.hid hlow
         have B4:=Lib.hid hB4
         have I4:=Lib.hid ia
         have OW:=Lib.hid own4
         have SZ:=Lib.hid hsz4
         have HV4:=Lib.hid hV4
         have hk1:(K + 1) * 184 ≤ 140737488355328:=by omega
         have hk2:K + 1 ≤ 4611686018427387904:=by omega
         clear i3 hw3 hba ia hV4 acc4 hin hin4 hlow own4 hsz4 hB4 HA HBZ
         go_wp2_with (at_builtin; (try rw [HV4.out]); refine append_big Tryz.underlying22 infoPk rfl rfl (.tmp 60) (.tmp 62) rfl w.heap.size (.slice qa K qc) K rfl OW.out w3.heap.size 1 rfl [.string (S x.nm),.string (S x.vs),.slice a1 n1 c1,.slice a2 n2 c2,.slice a3 n3 c3,.slice a4 n4 c4,.slice a5 n5 c5,.slice a6 n6 c6,.bool x.ess] rfl (fun j u hj=>I4.out.at (by rw [← Array.getElem?_toList]; exact hj)) (fun u hu=>by simp only [List.mem_cons,List.not_mem_nil,or_false] at hu; rcases hu with rfl | rfl | rfl | rfl | rfl | rfl | rfl | rfl | rfl <;> rfl) hk1 hk2 SZ.out ?_; intro v' w9 h2 h3 h4; have acc9:=AC4.out.more (cs:=[.string (S x.nm),.string (S x.vs),.slice a1 n1 c1,.slice a2 n2 c2,.slice a3 n3 c3,.slice a4 n4 c4,.slice a5 n5 c5,.slice a6 n6 c6,.bool x.ess]) rfl IN4.out SZ.out LO.out (Nat.zero_le _) (by rw [HKL.out]; exact h2) h3 h4; obtain ⟨a9,c9,e9⟩:=acc9.shape; rw [List.length_append,HKL.out,List.length_singleton] at e9; subst e9; have hb9:=Own.below_grown B4.out (Classical.choose_spec OW.out) h3 SZ.out; have AC9:=Lib.hid acc9; have HB9:=Lib.hid hb9; clear acc9 hb9 h2 h3 h4 AC4 IN4 LO B4 I4 OW HV4)
         go_roundg g'
         case measure=>omega
         case rel=>exact ⟨k + 1,K + 1,a9,c9,rfl,by go_num,by rw [HNX.out]; exact AC9,by rw [HNX.out]; show List.length _ = _; rw [List.length_append,HKL.out]; rfl,HB9,by omega,by omega,by omega⟩
      ·have hge:¬ (n:Int) < (n:Int):=by omega
       obtain rfl:n = k:=by omega
       have hfull:s.map En.pk ++ (r.take n).filter (fun p=>!thr s p) = joinL r s:=by rw [List.take_of_length_le (Nat.le_of_eq HN.out)]; rfl
       have hacc:=HA.out
       rw [hfull] at hacc HKL
       have hpks:Pks wr (.slice qa K qc) (joinL r s):=Acc.slc nPk hacc (by rw [HKL.out]; omega)
       have hlj:∀ x ∈ joinL r s,x.Lim:=fun x hx=>by
        rcases List.mem_append.1 hx with hx | hx
        ·obtain ⟨y,hy,rfl⟩:=List.mem_map.1 hx
         exact HL2.out y hy
        ·exact HL1.out x (List.mem_filter.1 hx).1
       obtain ⟨JL,hJL⟩:∃ JL,joinL r s = JL:=⟨_,rfl⟩
       have hE:=HEE.out
       have hek:=HEK.out
       rw [hJL] at hpks hlj hE hek HKL
       have hkl:JL.length = K:=HKL.out
       rw [hkl] at hE
       have HJL:=Lib.hid hJL
       have HPK:=Lib.hid hpks
       have HLJ:=Lib.hid hlj
       have HE:=Lib.hid hE
       have HKK:=Lib.hid hkl
       have HE3:=Lib.hid hek
       clear hJL hE hek hpks hlj hkl hacc HA hfull hbw HKL
       by_cases h24:24 < K
       ·have h24':(K:Int) > 24:=by omega
        have he:E = 12:=by rw [HE.out,if_pos h24]
        subst he
        clear HE
        go_wp2_with fail
        go_ret2
        first | exact ⟨.inl ⟨by decide,rfl⟩,HBZ.out⟩ | exact ⟨rfl,HBZ.out⟩
       ·have h24':¬ (24:Int) < (K:Int):=by omega
        have cn:=Ix.ynames_any _ JL wr HPK.out (by rw [HKK.out]; omega)
        have hnl:(Ix.insNs (JL.map Pk.nm) []).length = (nmsOf JL []).length:=names_len JL
        obtain ⟨NN,hNN⟩:∃ NN,(nmsOf JL []).length = NN:=⟨_,rfl⟩
        rw [hNN] at hnl
        have HNL:=Lib.hid hnl
        have HNN:=Lib.hid hNN
        clear hnl hNN
        go_wp2_with fail
        refine cn.mono ?_
        rintro e w2 ⟨v2,rfl,ht,k2⟩
        obtain ⟨_,ta,tc,rfl,_,_⟩:=ht
        rw [List.length_map,HNL.out]
        have K2:=Lib.hid (HBZ.out.trans (k2.mono HBZ.out.size))
        have HPK2:=Lib.hid (HPK.out.below k2)
        clear cn k2
        by_cases h10:10 < NN
        ·have h10':(NN:Int) > 10:=by omega
         have he:E = 12:=by rw [HE.out,if_neg h24,HNN.out,if_pos h10]
         subst he
         clear HE
         go_wp2_with fail
         go_ret2
         first | exact ⟨.inl ⟨by decide,rfl⟩,K2.out⟩ | exact ⟨rfl,K2.out⟩
        ·have h10':¬ (10:Int) < (NN:Int):=by omega
         have he:E = 0:=by rw [HE.out,if_neg h24,HNN.out,if_neg h10]
         subst he
         have cs:=Ix.ysorted_any _ JL w2 HPK2.out (fun p hp=>⟨(Ix.mayK_of (Ix.eachK_iff.1 HE3.out p hp)).ver,HLJ.out p hp⟩) (by rw [HKK.out]; omega)
         clear HE
         go_wp2_with fail
         refine cs.mono ?_
         rintro e w3 ⟨v3,rfl,hp3,k3⟩
         have hb:=K2.out.trans (k3.mono K2.out.size)
         have HP3:=Lib.hid hp3
         clear cs hp3 k3
         go_wp2_with fail
         go_ret2
         first | exact ⟨.inr ⟨rfl,_,rfl,by rw [HJL.out]; exact HP3.out⟩,hb⟩ | exact ⟨⟨_,rfl,by rw [HJL.out]; exact HP3.out⟩,hb⟩
end Un
end Go.Proofs.YtmhpjjjjgakpiaaGreatDoor

/-
The packages of entries: the law's bare. Same: two packages: are they the same? and the reference's Same. The reference's SamePackages, SameEntries, where the lists are the same.
-/
import Derived.Test.YthmpepnikmdjpaaGreatDoorBRecMay
import Derived.Test.YthmpepnikmdjpaaGreatDoorBRecAll2
import Derived.Test.YthmpepnikmdjpaaGreatDoorBRecMay3
import Derived.Test.YthmpepnikmdjpaaGreatDoorBTextAwake
import Derived.BigQuiet
import Derived.Deep.RegionHeld3
import Derived.Deep.MidRow
import Derived.Test.YthmpepnikmdjpaaGreatDoorBRecFld
namespace Go.Proofs.YthmpepnikmdjpaaGreatDoor
open Go.RowKit
set_option linter.unusedSimpArgs false
set_option linter.unusedVariables false
namespace Rc
open Ver (Bs li li_len S S_self S_size S_li sameV)
open Rl (At Pv Ats Pvs Clss Slc LimA LimP LimC Vars nA nP mem_getD may nmB isV pvA aV pV tcells)
theorem append_big {tS e:TypeId} {z:Value} {sz bytes:Nat} (hu:Tryz.prog.underlying tS = some (.slice e)) (hi:(Tryz.prog.info? e).map (fun i=>(i.zero,i.size,i.bytes)) = some (some z,sz,bytes)) (hz:z.cells.size = sz)
  {w:World} {ops:Array Oper} {rest:List Oper} {o:Oper} {a:Act} {Q:Exit → Act → World → Prop} (hgd:o.guard = none) (s x:Operand)
  (ho:o.op = .call { callee:=.builtin .append,args:=#[s,x],argTypes:=#[tS,tS] })
  (B:Nat) (v:Value) (n:Nat) (hv:a.eval s = v) (hown:∃ xs,w.ownsRow B e sz v n xs) (k:Nat) (c:Nat) (hx:a.eval x = .slice (some ⟨k,0,none⟩) 1 c) (news:List Value) (hnl:news.length = sz) (hc:∀ (j:Nat) u,news[j]? = some u → w.cell? ⟨k,j,none⟩ = some u)
  (ho1:∀ u ∈ news,u.oneCell' = true) (hn:(n + 1) * bytes ≤ 140737488355328) (hn2:n + 1 ≤ 4611686018427387904) (hB:B ≤ w.heap.size)
  (h:∀ v' w',(∀ xs,w.ownsRow B e sz v n xs → w'.ownsRow B e sz v' (n + 1) (xs ++ news)) → w.grownBy w' v.ownBlock → (∀ k,v'.ownBlock = some k → v.ownBlock = some k ∨ w.heap.size ≤ k) → wpList Tryz.prog ops Q rest (a.put o.dst v') w'):wpList Tryz.prog ops Q (o :: rest) a w:=by
 obtain ⟨i0,hi,hz0,hz1,hz2⟩:=info_parts hi
 have hsrc:Src Tryz.prog sz tS (.slice (some ⟨k,0,none⟩) 1 c) 1 news w:=by
  refine Src.ofSlice w hu ⟨k,0,none⟩ 1 c news (by rw [hnl,Nat.one_mul]) (fun j u hj=>?_) ho1
  have:=hc j u hj
  have e:(⟨k,0,none⟩:Addr).add j = ⟨k,j,none⟩:=by cases j <;> simp [Addr.add]
  rw [e]; exact this
 obtain ⟨xs,hown⟩:=hown
 refine wpList_plain hgd fun K hK=>?_
 obtain ⟨v',w',hr,h2,h3,h4⟩:=Own.run_append_src (P:=Tryz.prog) tS tS o.type B e i0 z sz bytes hu hi hz0 hz1 hz2 hz v n xs hown _ 1 news hsrc (by simp only [maxLen]; omega) hn hB
 unfold Oper.wp execOp
 simp only [ho,resolve,invoke,builtin,Sem.run_bind,Sem.run_pure,Result.andThen_ok,List.map_toArray,List.map_cons,List.map_nil,hv,hx,hr]
 refine hK _ _ (h v' w' (fun ys hys=>?_) h3 h4)
 have hxy:ys = xs:=by
  rcases hown.2 with ⟨e1,e2⟩ | ⟨g,cap,cur,e1,_,hh,_,_,_,ht⟩
  ·have h5:=hown.1
   have h6:=hys.1
   rw [e2,Nat.zero_mul] at h5 h6
   rw [List.eq_nil_of_length_eq_zero h5,List.eq_nil_of_length_eq_zero h6]
  ·subst e1
   rcases hys.2 with ⟨e3,_⟩ | ⟨g',cap',cur',e3,_,hh',_,_,_,ht'⟩
   ·cases e3
   ·simp only [Value.slice.injEq,Option.some.injEq,Addr.mk.injEq,and_true,true_and] at e3
    obtain ⟨rfl,rfl⟩:=e3
    rw [hh] at hh'
    cases hh'
    rw [← ht,← ht']
 rw [hxy]
 exact h2
theorem in_low {w:World} {Q:World → Prop} (h:∀ u,Below w.heap.size w u → Q u):In 0 w.heap.size w Q:=fun u hu=>h u ⟨hu.os,hu.tape,hu.output,hu.size,fun k hk=>hu.block k hk (by omega)⟩
set_option maxRecDepth 100000 in
set_option maxHeartbeats 8000000 in
theorem bare_any (v:Value) (l:List En) (w:World) (h:Ens w v l) (hbig:l.length * 184 ≤ 140737488355328) :
  Calls Tryz.prog 13 #[v] w fun e w'=>∃ v',e = .returned v' ∧ Pks w' v' (l.map En.pk) ∧ Below w.heap.size w w':=by
 obtain ⟨sa,cap,rfl⟩:=h.shape
 have H:=Lib.hid h
 have hn0:=h.1
 obtain ⟨n,hn⟩:∃ n,l.length = n:=⟨_,rfl⟩
 have HN:=Lib.hid hn
 rw [hn] at hn0 hbig ⊢
 have hn9:(Tryz.prog.info? 31).map (·.size) = some 9:=by kernel_rfl
 clear hn h
 go_enter Tryz.func13,Tryz.ntmps13
 go_wp2_with fail
 go_loopg [3,8] n (fun gf s3 s8 wx=>∃ (k:Nat) (pa:Option Addr) (pc:Nat),s3 = .slice pa k pc ∧ s8 = .int .i64 k ∧ Hid (Acc PkC 9 31 w.heap.size 0 wx (.slice pa k pc) ((l.take k).map En.pk)) ∧ Below w.heap.size w wx ∧ k ≤ n ∧ n ≤ k + gf)
 case atStart=>exact ⟨0,none,0,rfl,rfl,Lib.hid (Acc.nil _ _ _ _ _ _),Below.refl _ _,by omega,by omega⟩
 case round =>
  obtain ⟨k,pa,pc,rfl,rfl,HA,hbw,hkn,hfu⟩:=hrel
  by_cases hlt:k < n
  ·obtain ⟨g',rfl⟩:∃ g',gk = g' + 1:=⟨gk - 1,by omega⟩
   have hlt':(k:Int) < (n:Int):=by omega
   have hk0:(0:Int) ≤ k:=by omega
   have hkl:k < l.length:=by rw [HN.out]; exact hlt
   obtain ⟨_,a',cap',e1,_,hcells⟩:=H.out
   simp only [Value.slice.injEq,true_and] at e1
   obtain ⟨rfl,rfl⟩:=e1
   obtain ⟨kb,off,rfl,hcl2⟩:=hcells (by omega)
   obtain ⟨a1,n1,c1,a2,n2,c2,a3,n3,c3,a4,n4,c4,a5,n5,c5,a6,n6,c6,⟨x0,x1,x2,x3,x4,x5,x6,x7,x8,x9,x10⟩,hh⟩:=en_read (hcl2 k hkl)
   rw [Nat.mul_comm 11 k] at x0 x1 x2 x3 x4 x5 x6 x7 x8 x9 x10
   have x0:=Rl.cell_on x0 hbw
   have x1:=Rl.cell_on x1 hbw
   have x2:=Rl.cell_on x2 hbw
   have x3:=Rl.cell_on x3 hbw
   have x4:=Rl.cell_on x4 hbw
   have x5:=Rl.cell_on x5 hbw
   have x6:=Rl.cell_on x6 hbw
   have x7:=Rl.cell_on x7 hbw
   have x8:=Rl.cell_on x8 hbw
   have x9:=Rl.cell_on x9 hbw
   have x10:=Rl.cell_on x10 hbw
   have ht:l.take (k + 1) = l.take k ++ [l.getD k nEn]:=by
    rw [List.getD_eq_getElem?_getD,List.getElem?_eq_getElem hkl,Option.getD_some,List.take_append_getElem hkl]
   have hlen:((l.take k).map En.pk).length = k:=by rw [List.length_map,List.length_take,HN.out]; omega
   generalize hx:l.getD k nEn = x at *
   have HT:=Lib.hid ht
   have HLE:=Lib.hid hlen
   have hb2:=(Below.refl wr.heap.size wr).alloc (Nat.le_refl _) (.cells #[.string (S x.pk.nm),.string (S x.pk.vs),.slice a1 n1 c1,.slice a2 n2 c2,.slice a3 n3 c3,.slice a4 n4 c4,.slice a5 n5 c5,.slice a6 n6 c6,.bool x.pk.ess,.bool x.cfg,.bool x.hld] 68)
   have i2:=Blk.Is.new wr 68 #[.string (S x.pk.nm),.string (S x.pk.vs),.slice a1 n1 c1,.slice a2 n2 c2,.slice a3 n3 c3,.slice a4 n4 c4,.slice a5 n5 c5,.slice a6 n6 c6,.bool x.pk.ess,.bool x.cfg,.bool x.hld]
   have hs2:(wr.alloc (.cells #[.string (S x.pk.nm),.string (S x.pk.vs),.slice a1 n1 c1,.slice a2 n2 c2,.slice a3 n3 c3,.slice a4 n4 c4,.slice a5 n5 c5,.slice a6 n6 c6,.bool x.pk.ess,.bool x.cfg,.bool x.hld] 68)).heap.size = wr.heap.size + 1:=by simp
   have hb3:=hb2.alloc hb2.size (.cells #[.string (S x.pk.nm),.string (S x.pk.vs),.slice a1 n1 c1,.slice a2 n2 c2,.slice a3 n3 c3,.slice a4 n4 c4,.slice a5 n5 c5,.slice a6 n6 c6,.bool x.pk.ess] 31)
   have i3:=Blk.Is.new (wr.alloc (.cells #[.string (S x.pk.nm),.string (S x.pk.vs),.slice a1 n1 c1,.slice a2 n2 c2,.slice a3 n3 c3,.slice a4 n4 c4,.slice a5 n5 c5,.slice a6 n6 c6,.bool x.pk.ess,.bool x.cfg,.bool x.hld] 68)) 31 #[.string (S x.pk.nm),.string (S x.pk.vs),.slice a1 n1 c1,.slice a2 n2 c2,.slice a3 n3 c3,.slice a4 n4 c4,.slice a5 n5 c5,.slice a6 n6 c6,.bool x.pk.ess]
   have acc3:=HA.out.on hb3
   have hk1:(k + 1) * 184 ≤ 140737488355328:=Nat.le_trans (Nat.mul_le_mul_right _ hlt) hbig
   have hin:In 0 w.heap.size w (fun u=>PkC u [.string (S x.pk.nm),.string (S x.pk.vs),.slice a1 n1 c1,.slice a2 n2 c2,.slice a3 n3 c3,.slice a4 n4 c4,.slice a5 n5 c5,.slice a6 n6 c6,.bool x.pk.ess] x.pk):=in_low fun u hu=>⟨_,_,_,_,_,_,rfl,hh.below hu⟩
   have hin3:=(hin.on (Blk.Chg.ofBelow' hbw)).on (Blk.Chg.ofBelow' hb3)
   have rg:(wr.alloc (.cells #[.string (S x.pk.nm),.string (S x.pk.vs),.slice a1 n1 c1,.slice a2 n2 c2,.slice a3 n3 c3,.slice a4 n4 c4,.slice a5 n5 c5,.slice a6 n6 c6,.bool x.pk.ess,.bool x.cfg,.bool x.hld] 68)).rangeAt wr.heap.size 0 [.string (S x.pk.nm),.string (S x.pk.vs),.slice a1 n1 c1,.slice a2 n2 c2,.slice a3 n3 c3,.slice a4 n4 c4,.slice a5 n5 c5,.slice a6 n6 c6,.bool x.pk.ess]:=fun j u hj=>by
    rw [Nat.zero_add]
    refine i2.at ?_
    have hjl:j < 9:=(List.getElem?_eq_some_iff.1 hj).1
    have hj2:([.string (S x.pk.nm),.string (S x.pk.vs),.slice a1 n1 c1,.slice a2 n2 c2,.slice a3 n3 c3,.slice a4 n4 c4,.slice a5 n5 c5,.slice a6 n6 c6,.bool x.pk.ess] ++ [.bool x.cfg,.bool x.hld])[j]? = some u:=by rw [List.getElem?_append_left hjl]; exact hj
    rw [← Array.getElem?_toList]; exact hj2
   have hB3:=hbw.trans (hb3.mono hbw.size)
   have hlow:∀ g,Value.ownBlock (.slice pa k pc) = some g → g < 0 ∨ w.heap.size ≤ g:=fun g hg=>by
    obtain ⟨_,ho⟩:=HA.out.own
    exact .inr (Rl.own_lt ho hg).1
   obtain ⟨W2,hW2⟩:∃ W2,wr.alloc (.cells #[.string (S x.pk.nm),.string (S x.pk.vs),.slice a1 n1 c1,.slice a2 n2 c2,.slice a3 n3 c3,.slice a4 n4 c4,.slice a5 n5 c5,.slice a6 n6 c6,.bool x.pk.ess,.bool x.cfg,.bool x.hld] 68) = W2:=⟨_,rfl⟩
   obtain ⟨W3,hW3⟩:∃ W3,W2.alloc (.cells #[.string (S x.pk.nm),.string (S x.pk.vs),.slice a1 n1 c1,.slice a2 n2 c2,.slice a3 n3 c3,.slice a4 n4 c4,.slice a5 n5 c5,.slice a6 n6 c6,.bool x.pk.ess] 31) = W3:=⟨_,rfl⟩
   rw [hW2] at hb3 i3 acc3 hin3 rg hs2 hB3
   rw [hW3] at hb3 i3 acc3 hin3 hB3
   rw [hs2] at i3
   have own3:∃ xs,W3.ownsRow w.heap.size 31 9 (.slice pa k pc) k xs:=by
    have:=acc3.own
    rwa [hlen] at this
   have hsz3:w.heap.size ≤ W3.heap.size:=hB3.size
   have hW23:w.heap.size ≤ W3.heap.size:=hsz3
   have AC3:=Lib.hid acc3
   have IN3:=Lib.hid hin3
   have LO:=Lib.hid hlow
   have B3:=Lib.hid hB3
   have I3:=Lib.hid i3
   have OW:=Lib.hid own3
   have RG:=Lib.hid rg
   have HW3:=Lib.hid hW3
   have hk2:k + 1 ≤ 4611686018427387904:=by omega
   obtain ⟨bx,hbx⟩:∃ bx,wr.heap.size = bx:=⟨_,rfl⟩
   rw [hbx] at I3 RG hs2
   clear hcells hcl2 hx ht hlen hb2 i2 hb3 i3 acc3 hin hin3 rg hlow hB3 hW3 own3 hh HA hbw
   go_wp2_with (first | (at_builtin; (try rw [HW3.out]); refine append_big Tryz.underlying22 infoPk rfl rfl (.tmp 12) (.tmp 15) rfl w.heap.size (.slice pa k pc) k rfl OW.out (bx + 1) 1 rfl [.string (S x.pk.nm),.string (S x.pk.vs),.slice a1 n1 c1,.slice a2 n2 c2,.slice a3 n3 c3,.slice a4 n4 c4,.slice a5 n5 c5,.slice a6 n6 c6,.bool x.pk.ess] rfl (fun j u hj=>I3.out.at (by rw [← Array.getElem?_toList]; exact hj)) (fun u hu=>by simp only [List.mem_cons,List.not_mem_nil,or_false] at hu; rcases hu with rfl | rfl | rfl | rfl | rfl | rfl | rfl | rfl | rfl <;> rfl) hk1 hk2 hsz3 ?_; intro v' w9 h2 h3 h4; have acc9:=AC3.out.more (cs:=[.string (S x.pk.nm),.string (S x.pk.vs),.slice a1 n1 c1,.slice a2 n2 c2,.slice a3 n3 c3,.slice a4 n4 c4,.slice a5 n5 c5,.slice a6 n6 c6,.bool x.pk.ess]) rfl IN3.out hsz3 LO.out (Nat.zero_le _) (by rw [HLE.out]; exact h2) h3 h4; obtain ⟨a9,c9,e9⟩:=acc9.shape; rw [List.length_append,HLE.out,List.length_singleton] at e9; subst e9; have hb9:=Own.below_grown B3.out (Classical.choose_spec OW.out) h3 hsz3; have AC9:=Lib.hid acc9; have HB9:=Lib.hid hb9; clear acc9 hb9 h2 h3 h4 AC3 IN3 LO B3 I3 OW RG HW3) | (refine BigFrame.wpList_want rfl fun KK hKK=>wp_load_mid 31 (.tmp 13) rfl bx 0 rfl [.string (S x.pk.nm),.string (S x.pk.vs),.slice a1 n1 c1,.slice a2 n2 c2,.slice a3 n3 c3,.slice a4 n4 c4,.slice a5 n5 c5,.slice a6 n6 c6,.bool x.pk.ess] _ RG.out Tryz.underlying31 rfl hn9 (hKK _ _ ?_)))
   go_roundg g'
   case measure=>omega
   case rel =>
    refine ⟨k + 1,a9,c9,rfl,by go_num,Lib.hid ?_,HB9.out,by omega,by omega⟩
    rw [HT.out,List.map_append]
    exact AC9.out
  ·have hge:¬ (k:Int) < (n:Int):=by omega
   obtain rfl:k = n:=by omega
   have hacc:=HA.out
   rw [List.take_of_length_le (by rw [HN.out]; exact Nat.le_refl _)] at hacc
   have hres:Pks wr (.slice pa k pc) (l.map En.pk):=Acc.slc nPk hacc (by rw [List.length_map,HN.out]; exact hn0)
   have HR:=Lib.hid hres
   have HBW:=Lib.hid hbw
   clear hacc hres hbw HA
   go_wp2_with fail
   go_ret
   exact ⟨_,rfl,HR.out,HBW.out⟩
end Rc
end Go.Proofs.YthmpepnikmdjpaaGreatDoor
namespace Go.Proofs.YthmpepnikmdjpaaGreatDoor
open Go.RowKit
set_option linter.unusedSimpArgs false
set_option linter.unusedVariables false
namespace Rc
open Ver (Bs li li_len S S_self S_size S_li sameV)
open Rl (At Pv Ats Pvs Clss Slc LimA LimP LimC Vars nA nP mem_getD may nmB isV pvA aV pV tcells neA neP guardA guardP same_all drewn_below drewn_more)
open Va (below_drewN)
def eqP (p q:Pk):Bool:=decide (p.nm = q.nm) && (decide (p.vs = q.vs) && (decide (p.pre = q.pre) && (decide (p.dep = q.dep) && (decide (p.rcm = q.rcm) && (decide (p.con = q.con) && (decide (p.brk = q.brk) && (decide (p.prv = q.prv) && (p.ess == q.ess))))))))
theorem eqP_iff (p q:Pk):eqP p q = true ↔ p = q:=by
 unfold eqP
 obtain ⟨⟩:=p
 obtain ⟨⟩:=q
 simp [Pk.mk.injEq]
set_option maxRecDepth 100000 in
set_option maxHeartbeats 16000000 in
theorem ysame_any (v1 v2:Value) (p q:Pk) (w:World) (h1:PkV w v1 p) (h2:PkV w v2 q) :
  Calls Tryz.prog 18 #[v1,v2] w fun e w'=>e = .returned (.bool (eqP p q)) ∧ Below w.heap.size w w':=by
 obtain ⟨u1,u2,u3,u4,u5,u6,rfl,h1⟩:=h1
 obtain ⟨y1,y2,y3,y4,y5,y6,rfl,h2⟩:=h2
 have hb1:=(Below.refl w.heap.size w).alloc (Nat.le_refl _) (.cells #[.string (S p.nm),.string (S p.vs),u1,u2,u3,u4,u5,u6,.bool p.ess] 31)
 have i1:=Blk.Is.new w 31 #[.string (S p.nm),.string (S p.vs),u1,u2,u3,u4,u5,u6,.bool p.ess]
 have hb2:=hb1.alloc hb1.size (.cells #[.string (S q.nm),.string (S q.vs),y1,y2,y3,y4,y5,y6,.bool q.ess] 31)
 have i2:=Blk.Is.new (w.alloc (.cells #[.string (S p.nm),.string (S p.vs),u1,u2,u3,u4,u5,u6,.bool p.ess] 31)) 31 #[.string (S q.nm),.string (S q.vs),y1,y2,y3,y4,y5,y6,.bool q.ess]
 have i1':=i1.alloc (.cells #[.string (S q.nm),.string (S q.vs),y1,y2,y3,y4,y5,y6,.bool q.ess] 31)
 have hsz:(w.alloc (.cells #[.string (S p.nm),.string (S p.vs),u1,u2,u3,u4,u5,u6,.bool p.ess] 31)).heap.size = w.heap.size + 1:=by simp
 rw [hsz] at i2
 obtain ⟨W,hW⟩:∃ W,(w.alloc (.cells #[.string (S p.nm),.string (S p.vs),u1,u2,u3,u4,u5,u6,.bool p.ess] 31)).alloc (.cells #[.string (S q.nm),.string (S q.vs),y1,y2,y3,y4,y5,y6,.bool q.ess] 31) = W:=⟨_,rfl⟩
 rw [hW] at hb2 i1' i2
 have H1:=Lib.hid (h1.below hb2)
 have H2:=Lib.hid (h2.below hb2)
 have HB:=Lib.hid hb2
 have I1:=Lib.hid i1'
 have I2:=Lib.hid i2
 have c0:=i1'.at (i:=0) rfl
 have c1:=i1'.at (i:=1) rfl
 have d0:=i2.at (i:=0) rfl
 have d1:=i2.at (i:=1) rfl
 have c2:=i1'.at (i:=2) rfl
 have d2:=i2.at (i:=2) rfl
 have c3:=i1'.at (i:=3) rfl
 have d3:=i2.at (i:=3) rfl
 have c4:=i1'.at (i:=4) rfl
 have d4:=i2.at (i:=4) rfl
 have c5:=i1'.at (i:=5) rfl
 have d5:=i2.at (i:=5) rfl
 have c6:=i1'.at (i:=6) rfl
 have d6:=i2.at (i:=6) rfl
 have c7:=i1'.at (i:=7) rfl
 have d7:=i2.at (i:=7) rfl
 have c8:=i1'.at (i:=8) rfl
 have d8:=i2.at (i:=8) rfl
 have q0:((S p.nm).toList == (S q.nm).toList) = decide (p.nm = q.nm):=Rl.S_beq _ _
 have q1:((S p.vs).toList == (S q.vs).toList) = decide (p.vs = q.vs):=Rl.S_beq _ _
 unfold eqP
 clear hb1 i1 hb2 i1' i2 hsz h1 h2
 generalize S p.nm = A0 at *
 generalize S q.nm = B0 at *
 generalize S p.vs = A1 at *
 generalize S q.vs = B1 at *
 generalize p.ess = E at *
 generalize q.ess = F at *
 generalize decide (p.nm = q.nm) = G0 at *
 generalize decide (p.vs = q.vs) = G1 at *
 obtain ⟨G2,hG2⟩:∃ G,decide (p.pre = q.pre) = G:=⟨_,rfl⟩
 rw [hG2]
 have HG2:=Lib.hid hG2
 clear hG2
 obtain ⟨G3,hG3⟩:∃ G,decide (p.dep = q.dep) = G:=⟨_,rfl⟩
 rw [hG3]
 have HG3:=Lib.hid hG3
 clear hG3
 obtain ⟨G4,hG4⟩:∃ G,decide (p.rcm = q.rcm) = G:=⟨_,rfl⟩
 rw [hG4]
 have HG4:=Lib.hid hG4
 clear hG4
 obtain ⟨G5,hG5⟩:∃ G,decide (p.con = q.con) = G:=⟨_,rfl⟩
 rw [hG5]
 have HG5:=Lib.hid hG5
 clear hG5
 obtain ⟨G6,hG6⟩:∃ G,decide (p.brk = q.brk) = G:=⟨_,rfl⟩
 rw [hG6]
 have HG6:=Lib.hid hG6
 clear hG6
 obtain ⟨G7,hG7⟩:∃ G,decide (p.prv = q.prv) = G:=⟨_,rfl⟩
 rw [hG7]
 have HG7:=Lib.hid hG7
 clear hG7
 cases G0 with
 | false =>
  rw [Bool.false_and]
  clear c2 d2 c3 d3 c4 d4 c5 d5 c6 d6 c7 d7 H1 H2
  go_enter Tryz.func18,Tryz.ntmps18
  go_wp2_with fail
  go_ret
  exact ⟨rfl,HB.out⟩
 | true =>
  rw [Bool.true_and]
  cases G1 with
  | false =>
   rw [Bool.false_and]
   clear c2 d2 c3 d3 c4 d4 c5 d5 c6 d6 c7 d7 H1 H2
   go_enter Tryz.func18,Tryz.ntmps18
   go_wp2_with fail
   go_ret
   exact ⟨rfl,HB.out⟩
  | true =>
   rw [Bool.true_and]
   cases hE:(E == F) with
   | false =>
    simp only [Bool.and_false]
    clear c2 d2 c3 d3 c4 d4 c5 d5 c6 d6 c7 d7 H1 H2
    go_enter Tryz.func18,Tryz.ntmps18
    go_wp2_with fail
    go_ret
    exact ⟨rfl,HB.out⟩
   | true =>
    simp only [Bool.and_true]
    go_enter Tryz.func18,Tryz.ntmps18
    go_wp2_with fail
    have K:=Below.refl W.heap.size W
    have KB:=HB.out
    have ca:=Rl.sameClauses_any _ _ p.pre q.pre W (H1.out.pre.below K) (H2.out.pre.below K)
    rw [HG2.out] at ca
    refine ca.mono ?_
    rintro e w2 ⟨rfl,kq⟩
    have k1:=Rl.drewn_below kq
    have K2:=K.trans (k1.mono K.size)
    have KB2:=KB.trans (k1.mono KB.size)
    have c3':=Rl.cell_on c3 K2
    have d3':=Rl.cell_on d3 K2
    clear ca kq k1 K KB
    cases G2 with
    | false =>
     go_wp2_with fail
     go_ret
     exact ⟨rfl,KB2⟩
    | true =>
     go_wp2_with fail
     have K:=K2
     have KB:=KB2
     clear K2 KB2
     have ca:=Rl.sameClauses_any _ _ p.dep q.dep w2 (H1.out.dep.below K) (H2.out.dep.below K)
     rw [HG3.out] at ca
     refine ca.mono ?_
     rintro e w3 ⟨rfl,kq⟩
     have k1:=Rl.drewn_below kq
     have K2:=K.trans (k1.mono K.size)
     have KB2:=KB.trans (k1.mono KB.size)
     have c4':=Rl.cell_on c4 K2
     have d4':=Rl.cell_on d4 K2
     clear ca kq k1 K KB
     cases G3 with
     | false =>
      go_wp2_with fail
      go_ret
      exact ⟨rfl,KB2⟩
     | true =>
      go_wp2_with fail
      have K:=K2
      have KB:=KB2
      clear K2 KB2
      have ca:=Rl.sameClauses_any _ _ p.rcm q.rcm w3 (H1.out.rcm.below K) (H2.out.rcm.below K)
      rw [HG4.out] at ca
      refine ca.mono ?_
      rintro e w4 ⟨rfl,kq⟩
      have k1:=Rl.drewn_below kq
      have K2:=K.trans (k1.mono K.size)
      have KB2:=KB.trans (k1.mono KB.size)
      have c5':=Rl.cell_on c5 K2
      have d5':=Rl.cell_on d5 K2
      clear ca kq k1 K KB
      cases G4 with
      | false =>
       go_wp2_with fail
       go_ret
       exact ⟨rfl,KB2⟩
      | true =>
       go_wp2_with fail
       have K:=K2
       have KB:=KB2
       clear K2 KB2
       have ca:=Rl.sameAtoms_any _ _ p.con q.con w4 (H1.out.con.below K) (H2.out.con.below K)
       rw [HG5.out] at ca
       refine ca.mono ?_
       rintro e w5 ⟨rfl,kq⟩
       have k1:=Rl.drewn_below kq
       have K2:=K.trans (k1.mono K.size)
       have KB2:=KB.trans (k1.mono KB.size)
       have c6':=Rl.cell_on c6 K2
       have d6':=Rl.cell_on d6 K2
       clear ca kq k1 K KB
       cases G5 with
       | false =>
        go_wp2_with fail
        go_ret
        exact ⟨rfl,KB2⟩
       | true =>
        go_wp2_with fail
        have K:=K2
        have KB:=KB2
        clear K2 KB2
        have ca:=Rl.sameAtoms_any _ _ p.brk q.brk w5 (H1.out.brk.below K) (H2.out.brk.below K)
        rw [HG6.out] at ca
        refine ca.mono ?_
        rintro e w6 ⟨rfl,kq⟩
        have k1:=Rl.drewn_below kq
        have K2:=K.trans (k1.mono K.size)
        have KB2:=KB.trans (k1.mono KB.size)
        have c7':=Rl.cell_on c7 K2
        have d7':=Rl.cell_on d7 K2
        clear ca kq k1 K KB
        cases G6 with
        | false =>
         go_wp2_with fail
         go_ret
         exact ⟨rfl,KB2⟩
        | true =>
         go_wp2_with fail
         have K:=K2
         have KB:=KB2
         clear K2 KB2
         have ca:=Rl.sameProvides_any _ _ p.prv q.prv w6 (H1.out.prv.below K) (H2.out.prv.below K)
         rw [HG7.out] at ca
         refine ca.mono ?_
         rintro e w7 ⟨rfl,kq⟩
         have k1:=Rl.drewn_below kq
         have K2:=K.trans (k1.mono K.size)
         have KB2:=KB.trans (k1.mono KB.size)
         clear ca kq k1 K KB
         go_wp2_with fail
         go_ret
         exact ⟨rfl,KB2⟩
end Rc
end Go.Proofs.YthmpepnikmdjpaaGreatDoor
namespace Go.Proofs.YthmpepnikmdjpaaGreatDoor
open Go.RowKit
set_option linter.unusedSimpArgs false
set_option linter.unusedVariables false
namespace Rc
open Ver (Bs li li_len S S_self S_size S_li sameV)
open Rl (At Pv Ats Pvs Clss Slc LimA LimP LimC Vars nA nP mem_getD may nmB isV pvA aV pV tcells)
set_option maxRecDepth 100000 in
set_option maxHeartbeats 16000000 in
theorem samePks_yes (v1 v2:Value) (l:List Pk) (w:World) (h1:Pks w v1 l) (h2:Pks w v2 l) :
  Calls Tryz.prog 34 #[v1,v2] w fun e w'=>e = .returned (.bool true) ∧ Below w.heap.size w w':=by
 obtain ⟨aa,ca,rfl⟩:=h1.shape
 obtain ⟨ab,cb,rfl⟩:=h2.shape
 have HA:=Lib.hid h1
 have HB:=Lib.hid h2
 obtain ⟨n,hn⟩:∃ n,l.length = n:=⟨_,rfl⟩
 have HL:=Lib.hid hn
 rw [hn]
 have hne:((n:Int) != (n:Int)) = false:=by simp
 clear hn h1 h2
 go_enter Tryz.func34,Tryz.ntmps34
 go_wp2_with fail
 go_loopg [13] n (fun gf s13 wx=>∃ k:Nat,s13 = .int .i64 k ∧ Below w.heap.size w wx ∧ k ≤ n ∧ n ≤ k + gf)
 case atStart=>exact ⟨0,rfl,Below.refl _ _,by omega,by omega⟩
 case round =>
  obtain ⟨k,rfl,hbw,hkn,hfu⟩:=hrel
  by_cases hlt:k < n
  ·obtain ⟨g',rfl⟩:∃ g',gk = g' + 1:=⟨gk - 1,by omega⟩
   have hlt':(k:Int) < (n:Int):=by omega
   have hk0:(0:Int) ≤ k:=by omega
   have hka:k < l.length:=by rw [HL.out]; exact hlt
   obtain ⟨_,a',cap',e1,_,hca⟩:=HA.out.below hbw
   simp only [Value.slice.injEq,true_and] at e1
   obtain ⟨rfl,rfl⟩:=e1
   obtain ⟨_,b',capb',e2,_,hcb⟩:=HB.out.below hbw
   simp only [Value.slice.injEq,true_and] at e2
   obtain ⟨rfl,rfl⟩:=e2
   obtain ⟨ka,oa,rfl,hca2⟩:=hca (by omega)
   obtain ⟨kb,ob,rfl,hcb2⟩:=hcb (by omega)
   obtain ⟨a1,n1,c1,a2,n2,c2,a3,n3,c3,a4,n4,c4,a5,n5,c5,a6,n6,c6,⟨x0,x1,x2,x3,x4,x5,x6,x7,x8⟩,ha⟩:=pk_read (hca2 k hka)
   obtain ⟨p1,r1,d1,p2,r2,d2,p3,r3,d3,p4,r4,d4,p5,r5,d5,p6,r6,d6,⟨y0,y1,y2,y3,y4,y5,y6,y7,y8⟩,hb⟩:=pk_read (hcb2 k hka)
   rw [Nat.mul_comm 9 k] at x0 x1 x2 x3 x4 x5 x6 x7 x8 y0 y1 y2 y3 y4 y5 y6 y7 y8
   generalize hx:l.getD k nPk = x at *
   have hE:eqP x x = true:=(eqP_iff _ _).2 rfl
   have HBW:=Lib.hid hbw
   have hcx:=fun u (hu:Below wr.heap.size wr u)=>ysame_any _ _ x x u ⟨_,_,_,_,_,_,rfl,ha.below hu⟩ ⟨_,_,_,_,_,_,rfl,hb.below hu⟩
   rw [hE] at hcx
   have HC:=Lib.hid hcx
   clear hca hcb hca2 hcb2 hx hbw hE hcx ha hb
   generalize S x.nm = A0 at *
   generalize S x.vs = A1 at *
   generalize x.ess = E at *
   have lx0:=fun u (hu:Below wr.heap.size wr u)=>Rl.cell_on x0 hu
   have ly0:=fun u (hu:Below wr.heap.size wr u)=>Rl.cell_on y0 hu
   have lx1:=fun u (hu:Below wr.heap.size wr u)=>Rl.cell_on x1 hu
   have ly1:=fun u (hu:Below wr.heap.size wr u)=>Rl.cell_on y1 hu
   have lx2:=fun u (hu:Below wr.heap.size wr u)=>Rl.cell_on x2 hu
   have ly2:=fun u (hu:Below wr.heap.size wr u)=>Rl.cell_on y2 hu
   have lx3:=fun u (hu:Below wr.heap.size wr u)=>Rl.cell_on x3 hu
   have ly3:=fun u (hu:Below wr.heap.size wr u)=>Rl.cell_on y3 hu
   have lx4:=fun u (hu:Below wr.heap.size wr u)=>Rl.cell_on x4 hu
   have ly4:=fun u (hu:Below wr.heap.size wr u)=>Rl.cell_on y4 hu
   have lx5:=fun u (hu:Below wr.heap.size wr u)=>Rl.cell_on x5 hu
   have ly5:=fun u (hu:Below wr.heap.size wr u)=>Rl.cell_on y5 hu
   have lx6:=fun u (hu:Below wr.heap.size wr u)=>Rl.cell_on x6 hu
   have ly6:=fun u (hu:Below wr.heap.size wr u)=>Rl.cell_on y6 hu
   have lx7:=fun u (hu:Below wr.heap.size wr u)=>Rl.cell_on x7 hu
   have ly7:=fun u (hu:Below wr.heap.size wr u)=>Rl.cell_on y7 hu
   have lx8:=fun u (hu:Below wr.heap.size wr u)=>Rl.cell_on x8 hu
   have ly8:=fun u (hu:Below wr.heap.size wr u)=>Rl.cell_on y8 hu
   clear x0 x1 x2 x3 x4 x5 x6 x7 x8 y0 y1 y2 y3 y4 y5 y6 y7 y8
   go_wp2_with fail
   go_region_held3 (fun u=>Below wr.heap.size wr u)
    (first | exact (Below.refl _ _).drew | assumption | (refine Below.trans ?_ (Below.mono hb5 ?_); assumption; exact Below.size (by assumption)))
    (first
     | (go_at_call 18; refine (HC.out _ (by assumption)).mono ?_; rintro e w5 ⟨rfl,hb5⟩))
   rename_i hHeld
   have hB5:Below wr.heap.size wr w5:=by assumption
   clear hHeld
   have HB5:=Lib.hid (HBW.out.trans (hB5.mono HBW.out.size))
   clear hB5 lx0 ly0 lx1 ly1 lx2 ly2 lx3 ly3 lx4 ly4 lx5 ly5 lx6 ly6 lx7 ly7 lx8 ly8 HC HBW
   go_wp2_with fail
   go_roundg g'
   case measure=>omega
   case rel=>exact ⟨k + 1,by go_num,HB5.out,by omega,by omega⟩
  ·have hge:¬ (k:Int) < (n:Int):=by omega
   obtain rfl:k = n:=by omega
   have HBW:=Lib.hid hbw
   clear hbw
   go_wp2_with fail
   go_ret
   exact ⟨rfl,HBW.out⟩
set_option maxRecDepth 100000 in
set_option maxHeartbeats 16000000 in
theorem sameEns_yes (v1 v2:Value) (l:List En) (w:World) (h1:Ens w v1 l) (h2:Ens w v2 l) :
  Calls Tryz.prog 35 #[v1,v2] w fun e w'=>e = .returned (.bool true) ∧ Below w.heap.size w w':=by
 obtain ⟨aa,ca,rfl⟩:=h1.shape
 obtain ⟨ab,cb,rfl⟩:=h2.shape
 have HA:=Lib.hid h1
 have HB:=Lib.hid h2
 obtain ⟨n,hn⟩:∃ n,l.length = n:=⟨_,rfl⟩
 have HL:=Lib.hid hn
 rw [hn]
 have hne:((n:Int) != (n:Int)) = false:=by simp
 clear hn h1 h2
 go_enter Tryz.func35,Tryz.ntmps35
 go_wp2_with fail
 go_loopg [13] n (fun gf s13 wx=>∃ k:Nat,s13 = .int .i64 k ∧ Below w.heap.size w wx ∧ k ≤ n ∧ n ≤ k + gf)
 case atStart=>exact ⟨0,rfl,Below.refl _ _,by omega,by omega⟩
 case round =>
  obtain ⟨k,rfl,hbw,hkn,hfu⟩:=hrel
  by_cases hlt:k < n
  ·obtain ⟨g',rfl⟩:∃ g',gk = g' + 1:=⟨gk - 1,by omega⟩
   have hlt':(k:Int) < (n:Int):=by omega
   have hk0:(0:Int) ≤ k:=by omega
   have hka:k < l.length:=by rw [HL.out]; exact hlt
   obtain ⟨_,a',cap',e1,_,hca⟩:=HA.out.below hbw
   simp only [Value.slice.injEq,true_and] at e1
   obtain ⟨rfl,rfl⟩:=e1
   obtain ⟨_,b',capb',e2,_,hcb⟩:=HB.out.below hbw
   simp only [Value.slice.injEq,true_and] at e2
   obtain ⟨rfl,rfl⟩:=e2
   obtain ⟨ka,oa,rfl,hca2⟩:=hca (by omega)
   obtain ⟨kb,ob,rfl,hcb2⟩:=hcb (by omega)
   obtain ⟨a1,n1,c1,a2,n2,c2,a3,n3,c3,a4,n4,c4,a5,n5,c5,a6,n6,c6,⟨x0,x1,x2,x3,x4,x5,x6,x7,x8,x9,x10⟩,ha⟩:=en_read (hca2 k hka)
   obtain ⟨p1,r1,d1,p2,r2,d2,p3,r3,d3,p4,r4,d4,p5,r5,d5,p6,r6,d6,⟨y0,y1,y2,y3,y4,y5,y6,y7,y8,y9,y10⟩,hb⟩:=en_read (hcb2 k hka)
   rw [Nat.mul_comm 11 k] at x0 x1 x2 x3 x4 x5 x6 x7 x8 x9 x10 y0 y1 y2 y3 y4 y5 y6 y7 y8 y9 y10
   generalize hx:l.getD k nEn = x at *
   have hE:eqP x.pk x.pk = true:=(eqP_iff _ _).2 rfl
   have HBW:=Lib.hid hbw
   have hcx:=fun u (hu:Below wr.heap.size wr u)=>ysame_any _ _ x.pk x.pk u ⟨_,_,_,_,_,_,rfl,ha.below hu⟩ ⟨_,_,_,_,_,_,rfl,hb.below hu⟩
   rw [hE] at hcx
   have HC:=Lib.hid hcx
   clear hca hcb hca2 hcb2 hx hbw hE hcx ha hb
   generalize S x.pk.nm = A0 at *
   generalize S x.pk.vs = A1 at *
   generalize x.pk.ess = E at *
   generalize x.cfg = E1 at *
   generalize x.hld = E2 at *
   have hE1:(E1 != E1) = false:=by cases E1 <;> rfl
   have hE2:(E2 != E2) = false:=by cases E2 <;> rfl
   have lx0:=fun u (hu:Below wr.heap.size wr u)=>Rl.cell_on x0 hu
   have ly0:=fun u (hu:Below wr.heap.size wr u)=>Rl.cell_on y0 hu
   have lx1:=fun u (hu:Below wr.heap.size wr u)=>Rl.cell_on x1 hu
   have ly1:=fun u (hu:Below wr.heap.size wr u)=>Rl.cell_on y1 hu
   have lx2:=fun u (hu:Below wr.heap.size wr u)=>Rl.cell_on x2 hu
   have ly2:=fun u (hu:Below wr.heap.size wr u)=>Rl.cell_on y2 hu
   have lx3:=fun u (hu:Below wr.heap.size wr u)=>Rl.cell_on x3 hu
   have ly3:=fun u (hu:Below wr.heap.size wr u)=>Rl.cell_on y3 hu
   have lx4:=fun u (hu:Below wr.heap.size wr u)=>Rl.cell_on x4 hu
   have ly4:=fun u (hu:Below wr.heap.size wr u)=>Rl.cell_on y4 hu
   have lx5:=fun u (hu:Below wr.heap.size wr u)=>Rl.cell_on x5 hu
   have ly5:=fun u (hu:Below wr.heap.size wr u)=>Rl.cell_on y5 hu
   have lx6:=fun u (hu:Below wr.heap.size wr u)=>Rl.cell_on x6 hu
   have ly6:=fun u (hu:Below wr.heap.size wr u)=>Rl.cell_on y6 hu
   have lx7:=fun u (hu:Below wr.heap.size wr u)=>Rl.cell_on x7 hu
   have ly7:=fun u (hu:Below wr.heap.size wr u)=>Rl.cell_on y7 hu
   have lx8:=fun u (hu:Below wr.heap.size wr u)=>Rl.cell_on x8 hu
   have ly8:=fun u (hu:Below wr.heap.size wr u)=>Rl.cell_on y8 hu
   have lx9:=fun u (hu:Below wr.heap.size wr u)=>Rl.cell_on x9 hu
   have ly9:=fun u (hu:Below wr.heap.size wr u)=>Rl.cell_on y9 hu
   have lx10:=fun u (hu:Below wr.heap.size wr u)=>Rl.cell_on x10 hu
   have ly10:=fun u (hu:Below wr.heap.size wr u)=>Rl.cell_on y10 hu
   clear x0 x1 x2 x3 x4 x5 x6 x7 x8 x9 x10 y0 y1 y2 y3 y4 y5 y6 y7 y8 y9 y10
   go_wp2_with fail
   go_region_held3 (fun u=>Below wr.heap.size wr u)
    (first | exact (Below.refl _ _).drew | assumption | (refine Below.trans ?_ (Below.mono hb5 ?_); assumption; exact Below.size (by assumption)))
    (first
     | (go_at_call 18; refine (HC.out _ (by assumption)).mono ?_; rintro e w5 ⟨rfl,hb5⟩))
   rename_i hHeld
   have hB5:Below wr.heap.size wr w5:=by assumption
   clear hHeld
   have HB5:=Lib.hid (HBW.out.trans (hB5.mono HBW.out.size))
   clear hB5 lx0 ly0 lx1 ly1 lx2 ly2 lx3 ly3 lx4 ly4 lx5 ly5 lx6 ly6 lx7 ly7 lx8 ly8 lx9 ly9 lx10 ly10 HC HBW
   go_wp2_with fail
   go_roundg g'
   case measure=>omega
   case rel=>exact ⟨k + 1,by go_num,HB5.out,by omega,by omega⟩
  ·have hge:¬ (k:Int) < (n:Int):=by omega
   obtain rfl:k = n:=by omega
   have HBW:=Lib.hid hbw
   clear hbw
   go_wp2_with fail
   go_ret
   exact ⟨rfl,HBW.out⟩
end Rc
end Go.Proofs.YthmpepnikmdjpaaGreatDoor

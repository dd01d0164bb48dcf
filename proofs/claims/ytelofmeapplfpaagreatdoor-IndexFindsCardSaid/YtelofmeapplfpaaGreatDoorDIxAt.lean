/-
Whether packages may be does not speak of their order; whoever meets an atom meets its name alone. Of no index. Len, At.
-/
import Derived.Test.YtelofmeapplfpaaGreatDoorDIxUniq
import Derived.Test.YtelofmeapplfpaaGreatDoorDIxMeets
import Derived.Test.YtelofmeapplfpaaGreatDoorDIxOwn2
namespace Go.Proofs.YtelofmeapplfpaaGreatDoor
open Go.RowKit
set_option linter.unusedSimpArgs false
set_option linter.unusedVariables false
namespace Ix
open Ver (Bs cmpV sameV holdsV)
open Rl (At Pv isV may nmB)
open Rc (Pk nPk mayAll twice again mayK eachK orI nmsOf)
theorem orI_all:∀ {l:List Int},(∀ x ∈ l,x = 0) → orI l = 0
 | [],_=>rfl
 | y :: r,h=>by
  unfold orI
  rw [if_neg (by have:=h y (by simp); simpa using this)]
  exact orI_all fun x hx=>h x (List.mem_cons_of_mem _ hx)
/-! ### the names -/
theorem nms_mem:∀ (l:List Pk) (ns:List Bs) (x:Bs),x ∈ nmsOf l ns ↔ x ∈ ns ∨ ∃ p ∈ l,p.nm = x
 | [],ns,x=>by unfold nmsOf; simp
 | p :: r,ns,x=>by
  unfold nmsOf
  rw [nms_mem r]
  by_cases h:p.nm ∈ ns
  ·rw [if_pos h]
   constructor
   ·rintro (h1 | ⟨q,h1,h2⟩)
    ·exact .inl h1
    ·exact .inr ⟨q,List.mem_cons_of_mem _ h1,h2⟩
   ·rintro (h1 | ⟨q,h1,h2⟩)
    ·exact .inl h1
    ·rcases List.mem_cons.1 h1 with rfl | h1
     ·exact .inl (h2 ▸ h)
     ·exact .inr ⟨q,h1,h2⟩
  ·rw [if_neg h,List.mem_append,List.mem_singleton]
   constructor
   ·rintro ((h1 | h1) | ⟨q,h1,h2⟩)
    ·exact .inl h1
    ·exact .inr ⟨p,by simp,h1.symm⟩
    ·exact .inr ⟨q,List.mem_cons_of_mem _ h1,h2⟩
   ·rintro (h1 | ⟨q,h1,h2⟩)
    ·exact .inl (.inl h1)
    ·rcases List.mem_cons.1 h1 with rfl | h1
     ·exact .inl (.inr h2.symm)
     ·exact .inr ⟨q,h1,h2⟩
theorem nms_nodup:∀ (l:List Pk) (ns:List Bs),ns.Nodup → (nmsOf l ns).Nodup
 | [],ns,h=>h
 | p :: r,ns,h=>by
  unfold nmsOf
  refine nms_nodup r _ ?_
  split
  ·exact h
  ·rename_i hn
   rw [List.nodup_append]
   refine ⟨h,by simp,fun a ha b hb e=>?_⟩
   have:b = p.nm:=by simpa using hb
   exact hn (this ▸ e ▸ ha)
end Ix
end Go.Proofs.YtelofmeapplfpaaGreatDoor
namespace Go.Proofs.YtelofmeapplfpaaGreatDoor
open Go.RowKit
set_option linter.unusedSimpArgs false
set_option linter.unusedVariables false
namespace Ix
open Ver (Bs S)
open Rl (At aV)
set_option maxRecDepth 100000
def pkZ:Value:=.agg #[.string ⟨#[]⟩,.string ⟨#[]⟩,.slice none 0 0,.slice none 0 0,.slice none 0 0,.slice none 0 0,.slice none 0 0,.slice none 0 0,.bool false]
end Ix
end Go.Proofs.YtelofmeapplfpaaGreatDoor
namespace Go.Proofs.YtelofmeapplfpaaGreatDoor
open Go.RowKit
set_option linter.unusedSimpArgs false
set_option linter.unusedVariables false
namespace Ix
open Ver (Bs S)
open Rl (At aV mem_getD)
open Rc (Pk nPk Pks PkV Has)
set_option maxRecDepth 100000
theorem len_any (pb:Nat) (xs:List Pk) (w:World) (h:Idx w pb xs):Calls Tryz.prog 19 #[.pointer (some ⟨pb,0,none⟩)] w fun e w'=>e = .returned (.int .i64 xs.length) ∧ Below w.heap.size w w':=by
 obtain ⟨pv,bn,bs,h1,h2,_,_⟩:=h
 obtain ⟨pa,pc,rfl⟩:=h2.shape
 have c0:=h1.at (i:=0) rfl
 generalize xs.length = n at *
 clear h2 h1
 go_enter Tryz.func19,Tryz.ntmps19
 go_wp2_with fail
 go_ret
 exact ⟨rfl,Below.refl _ _⟩
set_option maxHeartbeats 4000000 in
theorem at_no (pb:Nat) (xs:List Pk) (i:Int) (w:World) (h:Idx w pb xs) (hi:i < 0 ∨ (xs.length:Int) ≤ i) :
  Calls Tryz.prog 23 #[.pointer (some ⟨pb,0,none⟩),.int .i64 i] w fun e w'=>e = .returned (.tuple #[pkZ,.bool false]) ∧ Below w.heap.size w w':=by
 have hb1:=(Below.refl w.heap.size w).alloc (Nat.le_refl _) (.cells #[.string ⟨#[]⟩,.string ⟨#[]⟩,.slice none 0 0,.slice none 0 0,.slice none 0 0,.slice none 0 0,.slice none 0 0,.slice none 0 0,.bool false] 26)
 have i1:=Blk.Is.new w 26 #[.string ⟨#[]⟩,.string ⟨#[]⟩,.slice none 0 0,.slice none 0 0,.slice none 0 0,.slice none 0 0,.slice none 0 0,.slice none 0 0,.bool false]
 have HB:=Lib.hid hb1
 have cl:=len_any pb xs _ (Idx.below h hb1)
 obtain ⟨W,hW⟩:∃ W,w.alloc (.cells #[.string ⟨#[]⟩,.string ⟨#[]⟩,.slice none 0 0,.slice none 0 0,.slice none 0 0,.slice none 0 0,.slice none 0 0,.slice none 0 0,.bool false] 26) = W:=⟨_,rfl⟩
 rw [hW] at HB i1 cl
 have I1:=Lib.hid i1
 have HW:=Lib.hid hW
 generalize xs.length = n at *
 clear hb1 i1 hW h
 by_cases h:i < 0
 ·clear cl
  go_enter Tryz.func23,Tryz.ntmps23
  go_wp2_with fail
  rw [HW.out]
  have j1:=I1.out
  have r0:=j1.at (i:=0) rfl
  have r1:=j1.at (i:=1) rfl
  have r2:=j1.at (i:=2) rfl
  have r3:=j1.at (i:=3) rfl
  have r4:=j1.at (i:=4) rfl
  have r5:=j1.at (i:=5) rfl
  have r6:=j1.at (i:=6) rfl
  have r7:=j1.at (i:=7) rfl
  have r8:=j1.at (i:=8) rfl
  refine bodyPost_ret (v:=.tuple #[pkZ,.bool false]) (by simp [results,Tryz.results23,go_sem,pkZ,r0,r1,r2,r3,r4,r5,r6,r7,r8]) rfl ?_
  exact ⟨rfl,HB.out⟩
 ·have h0:(0:Int) ≤ i:=by omega
  have hn:(n:Int) ≤ i:=by omega
  clear hi
  go_enter Tryz.func23,Tryz.ntmps23
  go_wp2_with (rw [HW.out])
  refine cl.mono ?_
  rintro e w1 ⟨rfl,k1⟩
  have hb:=HB.out.trans (k1.mono HB.out.size)
  have i1:=Rl.is_on I1.out k1
  have I2:=Lib.hid i1
  have HB2:=Lib.hid hb
  clear cl k1 i1 hb I1 HB HW
  have hi9:(Tryz.prog.info? 26).map (·.size) = some 9:=by kernel_rfl
  go_wp2_with (refine wpList_store_row rfl 26 (.tmp 4) (.tmp 14) rfl w.heap.size #[.string ⟨#[]⟩,.string ⟨#[]⟩,.slice none 0 0,.slice none 0 0,.slice none 0 0,.slice none 0 0,.slice none 0 0,.slice none 0 0,.bool false] rfl rfl 26 #[.string ⟨#[]⟩,.string ⟨#[]⟩,.slice none 0 0,.slice none 0 0,.slice none 0 0,.slice none 0 0,.slice none 0 0,.slice none 0 0,.bool false] I2.out hi9 (by rfl) (by simp [Value.oneCell']) ?_)
  have j1:=I2.out.row #[.string ⟨#[]⟩,.string ⟨#[]⟩,.slice none 0 0,.slice none 0 0,.slice none 0 0,.slice none 0 0,.slice none 0 0,.slice none 0 0,.bool false]
  have hbr:Below w.heap.size w (w1.setRow w.heap.size #[.string ⟨#[]⟩,.string ⟨#[]⟩,.slice none 0 0,.slice none 0 0,.slice none 0 0,.slice none 0 0,.slice none 0 0,.slice none 0 0,.bool false]):=HB2.out.trans ⟨rfl,rfl,rfl,by simp,fun k hk=>setRow_other w1 w.heap.size k _ (by omega)⟩
  generalize w1.setRow w.heap.size #[.string ⟨#[]⟩,.string ⟨#[]⟩,.slice none 0 0,.slice none 0 0,.slice none 0 0,.slice none 0 0,.slice none 0 0,.slice none 0 0,.bool false] = W2 at *
  have r0:=j1.at (i:=0) rfl
  have r1:=j1.at (i:=1) rfl
  have r2:=j1.at (i:=2) rfl
  have r3:=j1.at (i:=3) rfl
  have r4:=j1.at (i:=4) rfl
  have r5:=j1.at (i:=5) rfl
  have r6:=j1.at (i:=6) rfl
  have r7:=j1.at (i:=7) rfl
  have r8:=j1.at (i:=8) rfl
  refine bodyPost_ret (v:=.tuple #[pkZ,.bool false]) (by simp [results,Tryz.results23,go_sem,pkZ,r0,r1,r2,r3,r4,r5,r6,r7,r8]) rfl ?_
  exact ⟨rfl,hbr⟩
set_option maxHeartbeats 8000000 in
theorem at_yes (pb:Nat) (xs:List Pk) (i:Nat) (w:World) (h:Idx w pb xs) (hF:∀ x ∈ xs,Few x) (hi:i < xs.length) :
  Calls Tryz.prog 23 #[.pointer (some ⟨pb,0,none⟩),.int .i64 i] w fun e w'=>∃ v,e = .returned (.tuple #[v,.bool true]) ∧ PkV w' v (xs.getD i nPk) ∧ Below w.heap.size w w':=by
 have hb1:=(Below.refl w.heap.size w).alloc (Nat.le_refl _) (.cells #[.string ⟨#[]⟩,.string ⟨#[]⟩,.slice none 0 0,.slice none 0 0,.slice none 0 0,.slice none 0 0,.slice none 0 0,.slice none 0 0,.bool false] 26)
 have i1:=Blk.Is.new w 26 #[.string ⟨#[]⟩,.string ⟨#[]⟩,.slice none 0 0,.slice none 0 0,.slice none 0 0,.slice none 0 0,.slice none 0 0,.slice none 0 0,.bool false]
 have HB:=Lib.hid hb1
 have cl:=len_any pb xs _ (Idx.below h hb1)
 have hx:=Idx.below h hb1
 obtain ⟨W,hW⟩:∃ W,w.alloc (.cells #[.string ⟨#[]⟩,.string ⟨#[]⟩,.slice none 0 0,.slice none 0 0,.slice none 0 0,.slice none 0 0,.slice none 0 0,.slice none 0 0,.bool false] 26) = W:=⟨_,rfl⟩
 rw [hW] at HB i1 cl hx
 have I1:=Lib.hid i1
 have HW:=Lib.hid hW
 have HX:=Lib.hid hx
 have hfe:=hF _ (mem_getD (z:=nPk) hi)
 obtain ⟨x,hxx⟩:∃ x,xs.getD i nPk = x:=⟨_,rfl⟩
 rw [hxx] at hfe ⊢
 have HXX:=Lib.hid hxx
 have HFE:=Lib.hid hfe
 have hlt:(i:Int) < (xs.length:Int):=by omega
 have h0:(0:Int) ≤ i:=by omega
 have hn0:¬ (xs.length:Int) ≤ (i:Int):=by omega
 obtain ⟨n,hn⟩:∃ n,xs.length = n:=⟨_,rfl⟩
 have HN:=Lib.hid hn
 have HI:=Lib.hid hi
 rw [hn] at cl hlt hn0
 clear hb1 i1 hW h hx hF hn hi hfe hxx
 go_enter Tryz.func23,Tryz.ntmps23
 go_wp2_with (rw [HW.out])
 refine cl.mono ?_
 rintro e w1 ⟨rfl,k1⟩
 have I2:=Lib.hid (Rl.is_on I1.out k1)
 have HB2:=Lib.hid (HB.out.trans (k1.mono HB.out.size))
 obtain ⟨pv,bn,bs,x1,x2,_,_⟩:=Idx.below HX.out k1
 have hpk:=x2
 obtain ⟨_,a',cap',e1,_,hcells⟩:=hpk
 rw [HN.out] at e1
 subst e1
 have c0:=x1.at (i:=0) rfl
 obtain ⟨kb,off,rfl,hcl2⟩:=hcells (by have:=HI.out; omega)
 obtain ⟨a1,n1,c1,a2,n2,c2,a3,n3,c3,a4,n4,c4,a5,n5,c5,a6,n6,c6,⟨y0,y1,y2,y3,y4,y5,y6,y7,y8⟩,hh⟩:=Rc.pk_read (hcl2 i HI.out)
 rw [Nat.mul_comm 9 i] at y0 y1 y2 y3 y4 y5 y6 y7 y8
 rw [HXX.out] at y0 y1 y8 hh
 have co:=ownPackage_any (.agg #[.string (S x.nm),.string (S x.vs),.slice a1 n1 c1,.slice a2 n2 c2,.slice a3 n3 c3,.slice a4 n4 c4,.slice a5 n5 c5,.slice a6 n6 c6,.bool x.ess]) x w1 ⟨_,_,_,_,_,_,rfl,hh⟩ HFE.out
 have S1:=Lib.hid k1.size
 clear cl k1 HX x1 x2 hcells hcl2 hh I1 HB HW HXX
 go_wp2_with fail
 clear c0 y0 y1 y2 y3 y4 y5 y6 y7 y8
 refine co.mono ?_
 rintro e w2 ⟨u1,u2,u3,u4,u5,u6,rfl,hHx,k2⟩
 have I3:=Lib.hid (Rl.is_on I2.out k2)
 have HB3:=Lib.hid (HB2.out.trans (k2.mono HB2.out.size))
 have hz:w.heap.size < w1.heap.size:=I2.out.lt
 have hHas:=hHx _ (Blk.Chg.refl _ _)
 have HH:=Lib.hid hHx
 obtain ⟨s1,t1,e1⟩:=hHas.pre.shape
 generalize x.pre.length = m1 at e1
 obtain ⟨s2,t2,e2⟩:=hHas.dep.shape
 generalize x.dep.length = m2 at e2
 obtain ⟨s3,t3,e3⟩:=hHas.rcm.shape
 generalize x.rcm.length = m3 at e3
 obtain ⟨s4,t4,e4⟩:=hHas.con.shape
 generalize x.con.length = m4 at e4
 obtain ⟨s5,t5,e5⟩:=hHas.brk.shape
 generalize x.brk.length = m5 at e5
 obtain ⟨s6,t6,e6⟩:=hHas.prv.shape
 generalize x.prv.length = m6 at e6
 subst e1 e2 e3 e4 e5 e6
 have hi9:(Tryz.prog.info? 26).map (·.size) = some 9:=by kernel_rfl
 clear co k2 hHx hHas I2 HB2
 go_wp2_with (refine wpList_store_row rfl 26 (.tmp 4) (.tmp 22) rfl w.heap.size #[.string (S x.nm),.string (S x.vs),.slice s1 m1 t1,.slice s2 m2 t2,.slice s3 m3 t3,.slice s4 m4 t4,.slice s5 m5 t5,.slice s6 m6 t6,.bool x.ess] rfl rfl 26 #[.string ⟨#[]⟩,.string ⟨#[]⟩,.slice none 0 0,.slice none 0 0,.slice none 0 0,.slice none 0 0,.slice none 0 0,.slice none 0 0,.bool false] I3.out hi9 (by rfl) (by simp [Value.oneCell']) ?_)
 have j1:=I3.out.row #[.string (S x.nm),.string (S x.vs),.slice s1 m1 t1,.slice s2 m2 t2,.slice s3 m3 t3,.slice s4 m4 t4,.slice s5 m5 t5,.slice s6 m6 t6,.bool x.ess]
 have hbr:Below w.heap.size w (w2.setRow w.heap.size #[.string (S x.nm),.string (S x.vs),.slice s1 m1 t1,.slice s2 m2 t2,.slice s3 m3 t3,.slice s4 m4 t4,.slice s5 m5 t5,.slice s6 m6 t6,.bool x.ess]):=HB3.out.trans ⟨rfl,rfl,rfl,by simp,fun k hk=>setRow_other w2 w.heap.size k _ (by omega)⟩
 have hch:Blk.Chg (fun k=>k = w.heap.size) w2 (w2.setRow w.heap.size #[.string (S x.nm),.string (S x.vs),.slice s1 m1 t1,.slice s2 m2 t2,.slice s3 m3 t3,.slice s4 m4 t4,.slice s5 m5 t5,.slice s6 m6 t6,.bool x.ess]):=(Blk.Chg.refl (fun k=>k = w.heap.size) w2).setRow (g:=w.heap.size) rfl _
 have hfin:Has (w2.setRow w.heap.size #[.string (S x.nm),.string (S x.vs),.slice s1 m1 t1,.slice s2 m2 t2,.slice s3 m3 t3,.slice s4 m4 t4,.slice s5 m5 t5,.slice s6 m6 t6,.bool x.ess]) x (.slice s1 m1 t1) (.slice s2 m2 t2) (.slice s3 m3 t3) (.slice s4 m4 t4) (.slice s5 m5 t5) (.slice s6 m6 t6):=HH.out _ (hch.mono fun k _ hk=>by omega)
 generalize w2.setRow w.heap.size #[.string (S x.nm),.string (S x.vs),.slice s1 m1 t1,.slice s2 m2 t2,.slice s3 m3 t3,.slice s4 m4 t4,.slice s5 m5 t5,.slice s6 m6 t6,.bool x.ess] = W2 at *
 have r0:=j1.at (i:=0) rfl
 have r1:=j1.at (i:=1) rfl
 have r2:=j1.at (i:=2) rfl
 have r3:=j1.at (i:=3) rfl
 have r4:=j1.at (i:=4) rfl
 have r5:=j1.at (i:=5) rfl
 have r6:=j1.at (i:=6) rfl
 have r7:=j1.at (i:=7) rfl
 have r8:=j1.at (i:=8) rfl
 refine bodyPost_ret (v:=.tuple #[.agg #[.string (S x.nm),.string (S x.vs),.slice s1 m1 t1,.slice s2 m2 t2,.slice s3 m3 t3,.slice s4 m4 t4,.slice s5 m5 t5,.slice s6 m6 t6,.bool x.ess],.bool true]) (by simp [results,Tryz.results23,go_sem,r0,r1,r2,r3,r4,r5,r6,r7,r8]) rfl ?_
 exact ⟨_,rfl,⟨_,_,_,_,_,_,rfl,hfin⟩,hbr⟩
end Ix
end Go.Proofs.YtelofmeapplfpaaGreatDoor

/-
Violations compared: SameWrong, slices.Index, slices.Contains, Within and the reference's.
-/
import Derived.Test.YtgpcilepkmckeaaDoorAStaMath
import Derived.Test.YtgpcilepkmckeaaDoorAStaUnm
import Derived.Test.YtgpcilepkmckeaaDoorARelJoin
import Derived.BigQuiet
namespace Go.Proofs.YtgpcilepkmckeaaDoor
open Go.RowKit
set_option linter.unusedSimpArgs false
set_option linter.unusedVariables false
namespace Sa
open Ver (Bs li li_len S S_self S_size S_li)
open Rl (At Pv Ats Pvs Clss Slc LimA LimP LimC Vars aV nA mem_getD S_eq S_beq drewn_below drewn_more)
set_option maxRecDepth 100000 in
theorem eqVi (x y:Vi) (w:World):(Op.equalIn 10000 43 (viV x) (viV y)).run Tryd.prog w = .ok (decide (x = y)) w:=by
 obtain ⟨a0,a1,a2,a3,a4⟩:=x
 obtain ⟨b0,b1,b2,b3,b4⟩:=y
 unfold viV
 have hu:Tryd.prog.underlying 43 = some (.struct (Tryd.prog.fieldsOf 43)):=by kernel_rfl
 have hp:Tryd.prog.stoodInHeld 43 = false:=by kernel_rfl
 rw [run_equalIn_struct w 9999 43 _ _ hu hp]
 have h1:=S_eq a1 b1
 have h2:=S_eq a4 b4
 simp only [go_sem,Tryd.underlying43]
 simp [go_sem,h1,h2]
 by_cases e0:a0 = b0 <;> by_cases e1:a1 = b1 <;> by_cases e2:a2 = b2 <;> by_cases e3:a3 = b3 <;> by_cases e4:a4 = b4 <;> simp [e0,e1,e2,e3,e4]
theorem neVi (x y:Vi) (w:World):(binOp .neq 43 (viV x) (viV y)).run Tryd.prog w = .ok (.bool (!decide (x = y))) w:=by
 have h:=eqVi x y w
 unfold viV at h ⊢
 rw [run_neq_struct,h]; rfl
theorem eqVi2 (x y:Vi) (w:World):(binOp .eql 43 (viV x) (viV y)).run Tryd.prog w = .ok (.bool (decide (x = y))) w:=by
 have h:=eqVi x y w
 unfold viV at h ⊢
 rw [run_eql_struct,h]; rfl
theorem guardVi:Tryd.prog.eqGuardType Tryd.prog.depth 43 = false:=by kernel_rfl
set_option maxRecDepth 100000 in
set_option maxHeartbeats 8000000 in
theorem sameWrong_yes (va vb:Value) (l:List Vi) (w:World) (ha:Vis w va l) (hb:Vis w vb l) :
  Calls Tryd.prog 8 #[va,vb] w fun e w'=>e = .returned (.bool true) ∧ Below w.heap.size w w':=by
 obtain ⟨aa,ca,rfl⟩:=ha.shape
 obtain ⟨ab,cb,rfl⟩:=hb.shape
 have HA:=Lib.hid ha
 have HB:=Lib.hid hb
 have hn0:=ha.1
 obtain ⟨n,hn⟩:∃ n,l.length = n:=⟨_,rfl⟩
 have HL:=Lib.hid hn
 rw [hn] at hn0
 rw [hn]
 have hne:((n:Int) != (n:Int)) = false:=by simp
 clear hn ha hb
 go_enter Tryd.func8,Tryd.ntmps8
 go_wp2_with fail
 go_loopg [13] n (fun gf s13 wx=>∃ k:Nat,s13 = .int .i64 k ∧ Hid (∃ q,wx = w.drewN q) ∧ k ≤ n ∧ n ≤ k + gf)
 case atStart=>exact ⟨0,rfl,⟨0,rfl⟩,by omega,by omega⟩
 case round =>
  obtain ⟨k,rfl,HBW,hkn,hfu⟩:=hrel
  by_cases hlt:k < n
  ·obtain ⟨g',rfl⟩:∃ g',gk = g' + 1:=⟨gk - 1,by omega⟩
   have hlt':(k:Int) < (n:Int):=by omega
   have hk0:(0:Int) ≤ k:=by omega
   have hka:k < l.length:=by rw [HL.out]; exact hlt
   obtain ⟨_,a',cap',e1,_,hca⟩:=HA.out.below (drewn_below HBW.out)
   rw [HL.out] at e1
   simp only [Value.slice.injEq,true_and] at e1
   obtain ⟨rfl,rfl⟩:=e1
   obtain ⟨_,b',capb',e2,_,hcb⟩:=HB.out.below (drewn_below HBW.out)
   rw [HL.out] at e2
   simp only [Value.slice.injEq,true_and] at e2
   obtain ⟨rfl,rfl⟩:=e2
   obtain ⟨ka,oa,rfl,hca2⟩:=hca (by omega)
   obtain ⟨kb,ob,rfl,hcb2⟩:=hcb (by omega)
   obtain ⟨x0,x1,x2,x3,x4⟩:=hca2 k hka
   obtain ⟨y0,y1,y2,y3,y4⟩:=hcb2 k hka
   rw [Nat.mul_comm 5 k] at x0 x1 x2 x3 x4 y0 y1 y2 y3 y4
   have hneq:=neVi (l.getD k nVi) (l.getD k nVi)
   rw [decide_eq_true rfl] at hneq
   have hg:=guardVi
   unfold viV at hneq
   generalize l.getD k nVi = X at *
   clear hca hcb hca2 hcb2 hka
   go_wp2_with fail
   go_quiet (fail)
   have kq:=Lib.hid (drewn_more HBW.out nq)
   generalize wr.drewN nq = wd at *
   go_wp2_with fail
   go_roundg g'
   case measure=>omega
   case rel=>exact ⟨k + 1,by go_num,kq,by omega,by omega⟩
  ·have hge:¬ (k:Int) < (n:Int):=by omega
   obtain rfl:k = n:=by omega
   go_wp2_with fail
   go_ret
   exact ⟨rfl,drewn_below HBW.out⟩
set_option maxRecDepth 100000 in
set_option maxHeartbeats 8000000 in
theorem indexVi_any (v:Value) (l:List Vi) (y:Vi) (w:World) (h:Vis w v l) :
  Calls Tryd.prog 22 #[v,viV y] w fun e w'=>∃ i:Int,e = .returned (.int .i64 i) ∧ (0 ≤ i ↔ (l.any fun x=>decide (y = x)) = true) ∧ Below w.heap.size w w':=by
 obtain ⟨sa,cap,rfl⟩:=h.shape
 obtain ⟨G,hG⟩:∃ G,(l.any fun x=>decide (y = x)) = G:=⟨_,rfl⟩
 have HG:=Lib.hid hG
 rw [hG]
 have H:=Lib.hid h
 have hn0:=h.1
 obtain ⟨n,hn⟩:∃ n,l.length = n:=⟨_,rfl⟩
 have HN:=Lib.hid hn
 rw [hn] at hn0
 rw [hn]
 have hb1:=(Below.refl w.heap.size w).alloc (Nat.le_refl _) (.cells #[.int .i64 y.1,.string (S y.2.1),.bool y.2.2.1,.int .i64 y.2.2.2.1,.string (S y.2.2.2.2)] 43)
 have i1:=Blk.Is.new w 43 #[.int .i64 y.1,.string (S y.2.1),.bool y.2.2.1,.int .i64 y.2.2.2.1,.string (S y.2.2.2.2)]
 obtain ⟨W,hW⟩:∃ W,w.alloc (.cells #[.int .i64 y.1,.string (S y.2.1),.bool y.2.2.1,.int .i64 y.2.2.2.1,.string (S y.2.2.2.2)] 43) = W:=⟨_,rfl⟩
 rw [hW] at hb1 i1
 have B1:=Lib.hid hb1
 have I1:=Lib.hid i1
 have hu:=hW
 unfold viV
 clear hn hG h hb1 i1 hW
 go_enter Tryd.func22,Tryd.ntmps22
 go_wp2_with fail
 clear hu
 go_loopg [8] n (fun gf s8 wx=>∃ k:Nat,s8 = .int .i64 k ∧ Hid (∃ q,wx = W.drewN q) ∧ Hid (∀ j,j < k → decide (y = l.getD j nVi) = false) ∧ k ≤ n ∧ n ≤ k + gf)
 case atStart=>exact ⟨0,rfl,⟨0,rfl⟩,Lib.hid (fun j hj=>absurd hj (by omega)),by omega,by omega⟩
 case round =>
  obtain ⟨k,rfl,HBW,HE,hkn,hfu⟩:=hrel
  by_cases hlt:k < n
  ·obtain ⟨g',rfl⟩:∃ g',gk = g' + 1:=⟨gk - 1,by omega⟩
   have hlt':(k:Int) < (n:Int):=by omega
   have hk0:(0:Int) ≤ k:=by omega
   have hkl:k < l.length:=by rw [HN.out]; exact hlt
   have hBd:=drewn_below HBW.out
   obtain ⟨_,a',cap',e1,_,hcells⟩:=H.out.below (B1.out.trans (hBd.mono B1.out.size))
   rw [HN.out] at e1
   simp only [Value.slice.injEq,true_and] at e1
   obtain ⟨rfl,rfl⟩:=e1
   obtain ⟨kb,off,rfl,hcl2⟩:=hcells (by omega)
   obtain ⟨x0,x1,x2,x3,x4⟩:=hcl2 k hkl
   rw [Nat.mul_comm 5 k] at x0 x1 x2 x3 x4
   have hI:=Rl.is_on I1.out hBd
   have z0:=hI.at (i:=0) rfl
   have z1:=hI.at (i:=1) rfl
   have z2:=hI.at (i:=2) rfl
   have z3:=hI.at (i:=3) rfl
   have z4:=hI.at (i:=4) rfl
   have hyes:=fun h=>Rc.any_at (p:=fun x=>decide (y = x)) (z:=nVi) hkl h
   have heq:=eqVi2 y (l.getD k nVi)
   have hg:=guardVi
   unfold viV at heq
   have HY:=Lib.hid hyes
   obtain ⟨x,hx⟩:∃ x,l.getD k nVi = x:=⟨_,rfl⟩
   rw [hx] at x0 x1 x2 x3 x4 heq
   have HX:=Lib.hid hx
   clear hcl2 hcells hx hyes hkl hBd hI
   cases hw:decide (y = x) with
   | true =>
    rw [hw] at heq
    have hG:G = true:=by rw [← HG.out]; exact HY.out (by show decide (y = l.getD k nVi) = true; rw [HX.out]; exact hw)
    subst hG
    clear HG HY HX HE hw
    go_wp2_with fail
    go_quiet (fail)
    have kq:=Lib.hid (drewn_more HBW.out nq)
    generalize wr.drewN nq = wd at *
    go_wp2_with fail
    go_ret
    exact ⟨k,rfl,by simp [hk0],B1.out.trans ((drewn_below kq.out).mono B1.out.size)⟩
   | false =>
    rw [hw] at heq
    have HE2:Hid (∀ j,j < k + 1 → decide (y = l.getD j nVi) = false):=Lib.hid fun j hj=>by
     by_cases e:j = k
     ·rw [e,HX.out,hw]
     ·exact HE.out j (by omega)
    clear HY HX HE hw
    go_wp2_with fail
    go_quiet (fail)
    have kq:=Lib.hid (drewn_more HBW.out nq)
    generalize wr.drewN nq = wd at *
    go_wp2_with fail
    go_roundg g'
    case measure=>omega
    case rel=>exact ⟨k + 1,by go_num,kq,HE2,by omega,by omega⟩
  ·have hge:¬ (k:Int) < (n:Int):=by omega
   obtain rfl:k = n:=by omega
   have hG:G = false:=by rw [← HG.out]; exact Rc.any_no (p:=fun x=>decide (y = x)) (z:=nVi) fun j hj=>HE.out j (by rw [← HN.out]; exact hj)
   subst hG
   clear HG HE
   go_wp2_with fail
   go_ret
   exact ⟨-1,rfl,by simp,B1.out.trans ((drewn_below HBW.out).mono B1.out.size)⟩
set_option maxRecDepth 100000 in
set_option maxHeartbeats 4000000 in
theorem containsVi_any (v:Value) (l:List Vi) (y:Vi) (w:World) (h:Vis w v l) :
  Calls Tryd.prog 17 #[v,viV y] w fun e w'=>e = .returned (.bool (l.any fun x=>decide (y = x))) ∧ Below w.heap.size w w':=by
 have hb1:=(Below.refl w.heap.size w).alloc (Nat.le_refl _) (.cells #[.int .i64 y.1,.string (S y.2.1),.bool y.2.2.1,.int .i64 y.2.2.2.1,.string (S y.2.2.2.2)] 43)
 have i1:=Blk.Is.new w 43 #[.int .i64 y.1,.string (S y.2.1),.bool y.2.2.1,.int .i64 y.2.2.2.1,.string (S y.2.2.2.2)]
 obtain ⟨W,hW⟩:∃ W,w.alloc (.cells #[.int .i64 y.1,.string (S y.2.1),.bool y.2.2.1,.int .i64 y.2.2.2.1,.string (S y.2.2.2.2)] 43) = W:=⟨_,rfl⟩
 rw [hW] at hb1 i1
 have ca:=indexVi_any v l y W (h.below hb1)
 obtain ⟨sa,cap,rfl⟩:=h.shape
 have z0:=i1.at (i:=0) rfl
 have z1:=i1.at (i:=1) rfl
 have z2:=i1.at (i:=2) rfl
 have z3:=i1.at (i:=3) rfl
 have z4:=i1.at (i:=4) rfl
 have HB:=Lib.hid hb1
 have hu:=hW
 generalize (l.any fun x=>decide (y = x)) = G at *
 generalize l.length = n at *
 unfold viV at ca ⊢
 clear h hb1 i1 hW
 go_enter Tryd.func17,Tryd.ntmps17
 go_wp2_with fail
 refine ca.mono ?_
 rintro e w1 ⟨i,rfl,hi,k1⟩
 have hb:=HB.out.trans (k1.mono HB.out.size)
 clear ca
 cases G with
 | true =>
  have h0:(0:Int) ≤ i:=hi.2 rfl
  clear hi
  go_wp2_with fail
  go_ret
  exact ⟨rfl,hb⟩
 | false =>
  have h0:¬ (0:Int) ≤ i:=fun h=>by simpa using hi.1 h
  clear hi
  go_wp2_with fail
  go_ret
  exact ⟨by simp; omega,hb⟩
set_option maxRecDepth 100000 in
set_option maxHeartbeats 8000000 in
theorem within_any (v1 v2:Value) (a b:List Vi) (w:World) (h1:Vis w v1 a) (h2:Vis w v2 b) :
  Calls Tryd.prog 12 #[v1,v2] w fun e w'=>e = .returned (.bool (within a b)) ∧ Below w.heap.size w w':=by
 obtain ⟨sa,cap,rfl⟩:=h1.shape
 obtain ⟨sb,capb,eb⟩:=h2.shape
 obtain ⟨G,hG⟩:∃ G,within a b = G:=⟨_,rfl⟩
 have HG:=Lib.hid hG
 rw [hG]
 have H1:=Lib.hid h1
 have H2:=Lib.hid h2
 have hn0:=h1.1
 obtain ⟨n,hn⟩:∃ n,a.length = n:=⟨_,rfl⟩
 have HN:=Lib.hid hn
 rw [hn] at hn0
 rw [hn]
 generalize b.length = bn at eb
 subst eb
 clear hn hG h1 h2
 go_enter Tryd.func12,Tryd.ntmps12
 go_wp2_with fail
 go_loopg [9] n (fun gf s9 wx=>∃ k:Nat,s9 = .int .i64 k ∧ Hid (Below w.heap.size w wx) ∧ Hid (∀ j,j < k → (b.any fun x=>decide (a.getD j nVi = x)) = true) ∧ k ≤ n ∧ n ≤ k + gf)
 case atStart=>exact ⟨0,rfl,Below.refl _ _,Lib.hid (fun j hj=>absurd hj (by omega)),by omega,by omega⟩
 case round =>
  obtain ⟨k,rfl,HBW,HE,hkn,hfu⟩:=hrel
  by_cases hlt:k < n
  ·obtain ⟨g',rfl⟩:∃ g',gk = g' + 1:=⟨gk - 1,by omega⟩
   have hlt':(k:Int) < (n:Int):=by omega
   have hk0:(0:Int) ≤ k:=by omega
   have hkl:k < a.length:=by rw [HN.out]; exact hlt
   obtain ⟨_,a',cap',e1,_,hcells⟩:=H1.out.below HBW.out
   rw [HN.out] at e1
   simp only [Value.slice.injEq,true_and] at e1
   obtain ⟨rfl,rfl⟩:=e1
   obtain ⟨kb,off,rfl,hcl2⟩:=hcells (by omega)
   obtain ⟨x0,x1,x2,x3,x4⟩:=hcl2 k hkl
   rw [Nat.mul_comm 5 k] at x0 x1 x2 x3 x4
   obtain ⟨x,hx⟩:∃ x,a.getD k nVi = x:=⟨_,rfl⟩
   rw [hx] at x0 x1 x2 x3 x4
   have hb2:=(Below.refl wr.heap.size wr).alloc (Nat.le_refl _) (.cells #[.int .i64 x.1,.string (S x.2.1),.bool x.2.2.1,.int .i64 x.2.2.2.1,.string (S x.2.2.2.2)] 43)
   have i2:=Blk.Is.new wr 43 #[.int .i64 x.1,.string (S x.2.1),.bool x.2.2.1,.int .i64 x.2.2.2.1,.string (S x.2.2.2.2)]
   obtain ⟨V,hV⟩:∃ V,wr.alloc (.cells #[.int .i64 x.1,.string (S x.2.1),.bool x.2.2.1,.int .i64 x.2.2.2.1,.string (S x.2.2.2.2)] 43) = V:=⟨_,rfl⟩
   rw [hV] at hb2 i2
   have hbV:=HBW.out.trans (hb2.mono HBW.out.size)
   have ca:=containsVi_any _ b x V (H2.out.below hbV)
   unfold viV at ca
   have BV:=Lib.hid hbV
   have z0:=i2.at (i:=0) rfl
   have z1:=i2.at (i:=1) rfl
   have z2:=i2.at (i:=2) rfl
   have z3:=i2.at (i:=3) rfl
   have z4:=i2.at (i:=4) rfl
   have HX:=Lib.hid hx
   have HKL:=Lib.hid hkl
   have hu:=hV
   clear hcl2 hcells hx hkl hb2 i2 hV hbV HBW
   cases hw:(b.any fun y=>decide (x = y)) with
   | false =>
    rw [hw] at ca
    have hG:G = false:=by
     rw [← HG.out,Bool.eq_false_iff]
     intro h
     unfold within at h
     have h5:=List.all_eq_true.1 h _ (mem_getD (z:=nVi) HKL.out)
     rw [HX.out] at h5
     exact absurd (h5.symm.trans hw) (by simp)
    subst hG
    clear HG HX HE hw HKL
    go_wp2_with fail
    refine ca.mono ?_
    rintro e w1 ⟨rfl,k1⟩
    have hb1:=BV.out.trans (k1.mono BV.out.size)
    clear ca
    go_wp2_with fail
    go_ret
    exact ⟨rfl,hb1⟩
   | true =>
    rw [hw] at ca
    have HE2:Hid (∀ j,j < k + 1 → (b.any fun x=>decide (a.getD j nVi = x)) = true):=Lib.hid fun j hj=>by
     by_cases e:j = k
     ·rw [e,HX.out]; exact hw
     ·exact HE.out j (by omega)
    clear HX HE hw HKL
    go_wp2_with fail
    refine ca.mono ?_
    rintro e w1 ⟨rfl,k1⟩
    have B1:=Lib.hid (BV.out.trans (k1.mono BV.out.size))
    clear ca k1
    go_wp2_with fail
    go_roundg g'
    case measure=>omega
    case rel=>exact ⟨k + 1,by go_num,B1,HE2,by omega,by omega⟩
  ·have hge:¬ (k:Int) < (n:Int):=by omega
   obtain rfl:k = n:=by omega
   have hG:G = true:=by
    rw [← HG.out]
    unfold within
    rw [List.all_eq_true]
    intro y hy
    obtain ⟨j,hj,rfl⟩:=List.mem_iff_getElem.1 hy
    have:=HE.out j (by rw [← HN.out]; exact hj)
    rwa [getD_of hj] at this
   subst hG
   clear HG HE
   go_wp2_with fail
   go_ret
   exact ⟨rfl,HBW.out⟩
set_option maxRecDepth 100000 in
set_option maxHeartbeats 8000000 in
theorem ywithin_any (v1 v2:Value) (a b:List Vi) (w:World) (h1:Vis w v1 a) (h2:Vis w v2 b) :
  Calls Tryd.prog 13 #[v1,v2] w fun e w'=>e = .returned (.bool (within a b)) ∧ Below w.heap.size w w':=by
 obtain ⟨sa,cap,rfl⟩:=h1.shape
 obtain ⟨sb,capb,rfl⟩:=h2.shape
 obtain ⟨G,hG⟩:∃ G,within a b = G:=⟨_,rfl⟩
 have HG:=Lib.hid hG
 rw [hG]
 have H1:=Lib.hid h1
 have H2:=Lib.hid h2
 have hn0:=h1.1
 have hm0:=h2.1
 obtain ⟨n,hn⟩:∃ n,a.length = n:=⟨_,rfl⟩
 have HN:=Lib.hid hn
 obtain ⟨m,hm⟩:∃ m,b.length = m:=⟨_,rfl⟩
 have HM:=Lib.hid hm
 rw [hn] at hn0
 rw [hm] at hm0
 rw [hn,hm]
 clear hn hm hG h1 h2
 go_enter Tryd.func13,Tryd.ntmps13
 go_wp2_with fail
 go_loopg [12] n (fun gf s12 wx=>∃ k:Nat,s12 = .int .i64 k ∧ Hid (Below w.heap.size w wx) ∧ Hid (∀ j,j < k → (b.any fun x=>decide (a.getD j nVi = x)) = true) ∧ k ≤ n ∧ n ≤ k + gf)
 case atStart=>exact ⟨0,rfl,Below.refl _ _,Lib.hid (fun j hj=>absurd hj (by omega)),by omega,by omega⟩
 case round =>
  obtain ⟨k,rfl,HBW,HE,hkn,hfu⟩:=hrel
  by_cases hlt:k < n
  ·obtain ⟨g',rfl⟩:∃ g',gk = g' + 1:=⟨gk - 1,by omega⟩
   have hlt':(k:Int) < (n:Int):=by omega
   have hk0:(0:Int) ≤ k:=by omega
   have hkl:k < a.length:=by rw [HN.out]; exact hlt
   obtain ⟨_,a',cap',e1,_,hcells⟩:=H1.out.below HBW.out
   rw [HN.out] at e1
   simp only [Value.slice.injEq,true_and] at e1
   obtain ⟨rfl,rfl⟩:=e1
   obtain ⟨kb,off,rfl,hcl2⟩:=hcells (by omega)
   obtain ⟨x0,x1,x2,x3,x4⟩:=hcl2 k hkl
   rw [Nat.mul_comm 5 k] at x0 x1 x2 x3 x4
   obtain ⟨x,hx⟩:∃ x,a.getD k nVi = x:=⟨_,rfl⟩
   rw [hx] at x0 x1 x2 x3 x4
   have hb2:=(Below.refl wr.heap.size wr).alloc (Nat.le_refl _) (.cells #[.int .i64 x.1,.string (S x.2.1),.bool x.2.2.1,.int .i64 x.2.2.2.1,.string (S x.2.2.2.2)] 43)
   have i2:=Blk.Is.new wr 43 #[.int .i64 x.1,.string (S x.2.1),.bool x.2.2.1,.int .i64 x.2.2.2.1,.string (S x.2.2.2.2)]
   obtain ⟨bx,hbx⟩:∃ bx,wr.heap.size = bx:=⟨_,rfl⟩
   obtain ⟨V,hV⟩:∃ V,wr.alloc (.cells #[.int .i64 x.1,.string (S x.2.1),.bool x.2.2.1,.int .i64 x.2.2.2.1,.string (S x.2.2.2.2)] 43) = V:=⟨_,rfl⟩
   rw [hV] at hb2 i2
   rw [hbx] at i2
   have BV:=Lib.hid (HBW.out.trans (hb2.mono HBW.out.size))
   have IX:=Lib.hid i2
   have HX:=Lib.hid hx
   have HKL:=Lib.hid hkl
   have hu:=hV
   clear hcl2 hcells hx hkl hb2 i2 hV HBW
   go_wp2_with fail
   clear hu x0 x1 x2 x3 x4 hbx
   go_loopg [7,18] m (fun gf s7 s18 wx=>∃ (j:Nat) (is:Bool),s7 = .bool is ∧ s18 = .int .i64 j ∧ Hid (is = (b.take j).any fun y=>decide (x = y)) ∧ Hid (Below w.heap.size w wx ∧ Blk.Is wx bx 43 #[.int .i64 x.1,.string (S x.2.1),.bool x.2.2.1,.int .i64 x.2.2.2.1,.string (S x.2.2.2.2)]) ∧ j ≤ m ∧ m ≤ j + gf)
   case atStart=>exact ⟨0,false,rfl,rfl,Lib.hid rfl,Lib.hid ⟨BV.out,IX.out⟩,by omega,by omega⟩
   case round =>
    clear BV IX
    obtain ⟨j,is,rfl,rfl,HIS,HBI,hjm,hfu2⟩:=hrel
    by_cases hjl:j < m
    ·obtain ⟨g2,rfl⟩:∃ g2,gk = g2 + 1:=⟨gk - 1,by omega⟩
     have hjl':(j:Int) < (m:Int):=by omega
     have hj0:(0:Int) ≤ j:=by omega
     have hjb:j < b.length:=by rw [HM.out]; exact hjl
     obtain ⟨_,a',cap',e1,_,hcells⟩:=H2.out.below HBI.out.1
     rw [HM.out] at e1
     simp only [Value.slice.injEq,true_and] at e1
     obtain ⟨rfl,rfl⟩:=e1
     obtain ⟨kc,offc,rfl,hcl2⟩:=hcells (by omega)
     obtain ⟨x0,x1,x2,x3,x4⟩:=hcl2 j hjb
     rw [Nat.mul_comm 5 j] at x0 x1 x2 x3 x4
     have htk:(b.take (j + 1)).any (fun y=>decide (x = y)) = ((b.take j).any (fun y=>decide (x = y)) || decide (x = b.getD j nVi)):=by
      rw [List.take_succ_eq_append_getElem hjb,List.any_append,getD_of hjb]; simp
     obtain ⟨y,hy⟩:∃ y,b.getD j nVi = y:=⟨_,rfl⟩
     rw [hy] at x0 x1 x2 x3 x4 htk
     have HTK:=Lib.hid htk
     have hb2:=(Below.refl wr.heap.size wr).alloc (Nat.le_refl _) (.cells #[.int .i64 y.1,.string (S y.2.1),.bool y.2.2.1,.int .i64 y.2.2.2.1,.string (S y.2.2.2.2)] 43)
     have i2:=Blk.Is.new wr 43 #[.int .i64 y.1,.string (S y.2.1),.bool y.2.2.1,.int .i64 y.2.2.2.1,.string (S y.2.2.2.2)]
     obtain ⟨V2,hV⟩:∃ V,wr.alloc (.cells #[.int .i64 y.1,.string (S y.2.1),.bool y.2.2.1,.int .i64 y.2.2.2.1,.string (S y.2.2.2.2)] 43) = V:=⟨_,rfl⟩
     rw [hV] at hb2 i2
     have hI:=Rl.is_on HBI.out.2 hb2
     have B2:=Lib.hid (⟨HBI.out.1.trans (hb2.mono HBI.out.1.size),hI⟩:Below w.heap.size w V2 ∧ Blk.Is V2 bx 43 #[.int .i64 x.1,.string (S x.2.1),.bool x.2.2.1,.int .i64 x.2.2.2.1,.string (S x.2.2.2.2)])
     have q0:=hI.at (i:=0) rfl
     have q1:=hI.at (i:=1) rfl
     have q2:=hI.at (i:=2) rfl
     have q3:=hI.at (i:=3) rfl
     have q4:=hI.at (i:=4) rfl
     have z0:=i2.at (i:=0) rfl
     have z1:=i2.at (i:=1) rfl
     have z2:=i2.at (i:=2) rfl
     have z3:=i2.at (i:=3) rfl
     have z4:=i2.at (i:=4) rfl
     have heq:=eqVi2 x y
     have hg:=guardVi
     unfold viV at heq
     have hu:=hV
     clear hcl2 hcells hy hjb htk hb2 i2 hV hI HBI
     cases is with
     | true =>
      have H2':Hid (true = (b.take (j + 1)).any fun y=>decide (x = y)):=Lib.hid (by rw [HTK.out,← HIS.out]; rfl)
      clear HIS HTK heq
      go_wp2_with fail
      go_roundg g2
      case measure=>omega
      case rel=>exact ⟨j + 1,true,rfl,by go_num,H2',B2,by omega,by omega⟩
     | false =>
      obtain ⟨q,hq⟩:∃ q,decide (x = y) = q:=⟨_,rfl⟩
      rw [hq] at heq
      have H2':Hid (q = (b.take (j + 1)).any fun y=>decide (x = y)):=Lib.hid (by rw [HTK.out,← HIS.out,hq]; rfl)
      clear HIS HTK hq
      go_wp2_with fail
      go_roundg g2
      case measure=>omega
      case rel=>exact ⟨j + 1,q,rfl,by go_num,H2',B2,by omega,by omega⟩
    ·obtain rfl:m = j:=by omega
     have hge:¬ (m:Int) < (m:Int):=by omega
     have his:is = b.any fun y=>decide (x = y):=by
      have h:=HIS.out
      rwa [List.take_of_length_le (Nat.le_of_eq HM.out)] at h
     have B2:=Lib.hid HBI.out.1
     cases is with
     | false =>
      have hG:G = false:=by
       rw [← HG.out,Bool.eq_false_iff]
       intro h
       unfold within at h
       have h5:=List.all_eq_true.1 h _ (mem_getD (z:=nVi) HKL.out)
       rw [HX.out] at h5
       exact absurd (his.trans h5) (by simp)
      subst hG
      clear HG HX HE HKL his HIS HBI
      go_wp2_with fail
      go_ret
      exact ⟨rfl,B2.out⟩
     | true =>
      have HE2:Hid (∀ j,j < k + 1 → (b.any fun x=>decide (a.getD j nVi = x)) = true):=Lib.hid fun j hj=>by
       by_cases e:j = k
       ·rw [e,HX.out]; exact his.symm
       ·exact HE.out j (by omega)
      clear HX HE HKL his HIS HBI
      go_wp2_with fail
      go_roundg g'
      case measure=>omega
      case rel=>exact ⟨k + 1,by go_num,B2,HE2,by omega,by omega⟩
  ·obtain rfl:k = n:=by omega
   have hge:¬ (k:Int) < (k:Int):=by omega
   have hG:G = true:=by
    rw [← HG.out]
    unfold within
    rw [List.all_eq_true]
    intro y hy
    obtain ⟨j,hj,rfl⟩:=List.mem_iff_getElem.1 hy
    have:=HE.out j (by rw [← HN.out]; exact hj)
    rwa [getD_of hj] at this
   subst hG
   clear HG HE
   go_wp2_with fail
   go_ret
   exact ⟨rfl,HBW.out⟩
end Sa
end Go.Proofs.YtgpcilepkmckeaaDoor

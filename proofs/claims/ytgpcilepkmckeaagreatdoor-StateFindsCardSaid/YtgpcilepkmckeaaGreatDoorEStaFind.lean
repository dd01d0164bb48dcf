/-
Find, Same of entries, and the reference's.
-/
import Derived.Test.YtgpcilepkmckeaaGreatDoorEStaConf
import Derived.Test.YtgpcilepkmckeaaGreatDoorERecSame
import Derived.Deep.RegionHeld3
import Derived.Deep.MidRow
import Derived.Test.YtgpcilepkmckeaaGreatDoorEIxDef
namespace Go.Proofs.YtgpcilepkmckeaaGreatDoor
open Go.RowKit
set_option linter.unusedSimpArgs false
set_option linter.unusedVariables false
namespace Sa
open Ver (Bs li li_len S S_self S_size S_li)
open Rl (Slc mem_getD)
open Rc (Pk nPk Has En nEn Ens EnC CAt en_read eqP eqP_iff PkV)
def fnd (s:List En) (nm:Bs):Option Nat:=(List.range s.length).find? fun j=>decide ((pkA s j).nm = nm)
theorem find_range {f:Nat → Bool}:∀ (n k:Nat),k < n → f k = true → (∀ j,j < k → f j = false) → (List.range n).find? f = some k:=by
 intro n k hk hf hno
 rw [List.find?_eq_some_iff_getElem]
 refine ⟨hf,k,by rw [List.length_range]; exact hk,by simp,fun j hj=>?_⟩
 rw [List.getElem_range,hno j hj]; rfl
theorem fnd_some {s:List En} {nm:Bs} {k:Nat} (hk:k < s.length) (h:(pkA s k).nm = nm) (hno:∀ j,j < k → (pkA s j).nm ≠ nm):fnd s nm = some k :=
 find_range _ k hk (decide_eq_true h) fun j hj=>decide_eq_false (hno j hj)
theorem fnd_none {s:List En} {nm:Bs} (hno:∀ j,j < s.length → (pkA s j).nm ≠ nm):fnd s nm = none:=by
 unfold fnd
 rw [List.find?_eq_none]
 intro j hj
 rw [decide_eq_true_eq]
 exact hno j (List.mem_range.1 hj)
theorem fnd_lt {s:List En} {nm:Bs} {k:Nat} (h:fnd s nm = some k):k < s.length:=List.mem_range.1 (List.mem_of_find?_eq_some h)
set_option maxRecDepth 100000 in
set_option maxHeartbeats 8000000 in
theorem find_any (v:Value) (s:List En) (nm:Bs) (w:World) (h:Ens w v s) :
  Calls Tryz.prog 11 #[v,.string (S nm)] w fun e w'=>e = .returned (match fnd s nm with | some k=>.tuple #[.int .i64 (k:Int),.bool true] | none=>.tuple #[.int .i64 0,.bool false]) ∧ Below w.heap.size w w':=by
 obtain ⟨sa,cap,rfl⟩:=h.shape
 have hn0:=h.1
 obtain ⟨n,hn⟩:∃ n,s.length = n:=⟨_,rfl⟩
 have HN:=Lib.hid hn
 have H:=Lib.hid (show Ens w (.slice sa n cap) s by rw [← hn]; exact h)
 rw [hn] at hn0
 rw [hn]
 obtain ⟨F,hF⟩:∃ F,fnd s nm = F:=⟨_,rfl⟩
 have HF:=Lib.hid hF
 rw [hF]
 clear hn h hF
 go_enter Tryz.func11,Tryz.ntmps11
 go_wp2_with fail
 go_loopg [10] n (fun gf sk wx=>∃ k:Nat,sk = .int .i64 k ∧ Hid (Below w.heap.size w wx) ∧ Hid (∀ j,j < k → (pkA s j).nm ≠ nm) ∧ k ≤ n ∧ n ≤ k + gf)
 case atStart=>exact ⟨0,rfl,Below.refl _ _,Lib.hid (fun j hj=>absurd hj (by omega)),by omega,by omega⟩
 case round =>
  obtain ⟨k,rfl,B,HE,hkn,hfu⟩:=hrel
  by_cases hlt:k < n
  ·obtain ⟨g',rfl⟩:∃ g',gk = g' + 1:=⟨gk - 1,by omega⟩
   have hlt':(k:Int) < (n:Int):=by omega
   have hk0:(0:Int) ≤ k:=by omega
   have hkl:k < s.length:=by rw [HN.out]; exact hlt
   obtain ⟨_,a',cap',e1,_,hcells⟩:=H.out.below B.out
   rw [HN.out] at e1
   simp only [Value.slice.injEq,true_and] at e1
   obtain ⟨rfl,rfl⟩:=e1
   obtain ⟨kb,off,rfl,hcl2⟩:=hcells (by omega)
   obtain ⟨a1,n1,c1,a2,n2,c2,a3,n3,c3,a4,n4,c4,a5,n5,c5,a6,n6,c6,⟨x0,x1,x2,x3,x4,x5,x6,x7,x8,x9,x10⟩,hh⟩:=en_read (hcl2 k hkl)
   rw [Nat.mul_comm 11 k] at x0 x1 x2 x3 x4 x5 x6 x7 x8 x9 x10
   have hpk:pkA s k = (s.getD k nEn).pk:=rfl
   obtain ⟨x,hx⟩:∃ x,s.getD k nEn = x:=⟨_,rfl⟩
   rw [hx] at x0 x1 x8 x9 x10 hpk
   have HX:=Lib.hid hpk
   have HKL:=Lib.hid hkl
   have hq:((S x.pk.nm).toList == (S nm).toList) = decide (x.pk.nm = nm):=Rl.S_beq _ _
   have hb2:=(Below.refl wr.heap.size wr).alloc (Nat.le_refl _) (.cells #[.string (S x.pk.nm),.string (S x.pk.vs),.slice a1 n1 c1,.slice a2 n2 c2,.slice a3 n3 c3,.slice a4 n4 c4,.slice a5 n5 c5,.slice a6 n6 c6,.bool x.pk.ess,.bool x.cfg,.bool x.hld] 45)
   have i2:=Blk.Is.new wr 45 #[.string (S x.pk.nm),.string (S x.pk.vs),.slice a1 n1 c1,.slice a2 n2 c2,.slice a3 n3 c3,.slice a4 n4 c4,.slice a5 n5 c5,.slice a6 n6 c6,.bool x.pk.ess,.bool x.cfg,.bool x.hld]
   obtain ⟨V,hV⟩:∃ V,wr.alloc (.cells #[.string (S x.pk.nm),.string (S x.pk.vs),.slice a1 n1 c1,.slice a2 n2 c2,.slice a3 n3 c3,.slice a4 n4 c4,.slice a5 n5 c5,.slice a6 n6 c6,.bool x.pk.ess,.bool x.cfg,.bool x.hld] 45) = V:=⟨_,rfl⟩
   rw [hV] at hb2 i2
   have B2:=Lib.hid (B.out.trans (hb2.mono B.out.size))
   have z0:=i2.at (i:=0) rfl
   have hu:=hV
   clear hcells hcl2 hkl hx hpk hb2 i2 hV hh B
   by_cases he:x.pk.nm = nm
   ·rw [decide_eq_true he] at hq
    have hF:F = some k:=by rw [← HF.out]; exact fnd_some HKL.out (by rw [HX.out]; exact he) HE.out
    subst hF
    clear he HE HX HF
    go_wp2_with fail
    go_ret2
    exact ⟨rfl,B2.out⟩
   ·rw [decide_eq_false he] at hq
    have HE2:Hid (∀ j,j < k + 1 → (pkA s j).nm ≠ nm):=Lib.hid fun j hj=>by
     by_cases e:j = k
     ·rw [e,HX.out]; exact he
     ·exact HE.out j (by omega)
    clear he HE HX
    go_wp2_with fail
    go_roundg g'
    case measure=>omega
    case rel=>exact ⟨k + 1,by go_num,B2,HE2,by omega,by omega⟩
  ·obtain rfl:n = k:=by omega
   have hge:¬ (n:Int) < (n:Int):=by omega
   have hF:F = none:=by rw [← HF.out]; exact fnd_none fun j hj=>HE.out j (by rw [← HN.out]; exact hj)
   subst hF
   clear HE HF
   go_wp2_with fail
   go_ret2
   exact ⟨rfl,B.out⟩
set_option maxRecDepth 100000 in
set_option maxHeartbeats 8000000 in
theorem yfind_any (v:Value) (s:List En) (nm:Bs) (w:World) (h:Ens w v s) :
  Calls Tryz.prog 12 #[v,.string (S nm)] w fun e w'=>e = .returned (match fnd s nm with | some k=>.int .i64 (k:Int) | none=>.int .i64 (-1)) ∧ Below w.heap.size w w':=by
 obtain ⟨sa,cap,rfl⟩:=h.shape
 have hn0:=h.1
 obtain ⟨n,hn⟩:∃ n,s.length = n:=⟨_,rfl⟩
 have HN:=Lib.hid hn
 have H:=Lib.hid (show Ens w (.slice sa n cap) s by rw [← hn]; exact h)
 rw [hn] at hn0
 rw [hn]
 obtain ⟨F,hF⟩:∃ F,fnd s nm = F:=⟨_,rfl⟩
 have HF:=Lib.hid hF
 rw [hF]
 clear hn h hF
 go_enter Tryz.func12,Tryz.ntmps12
 go_wp2_with fail
 go_loopg [9] n (fun gf sk wx=>∃ k:Nat,sk = .int .i64 k ∧ Hid (Below w.heap.size w wx) ∧ Hid (∀ j,j < k → (pkA s j).nm ≠ nm) ∧ k ≤ n ∧ n ≤ k + gf)
 case atStart=>exact ⟨0,rfl,Below.refl _ _,Lib.hid (fun j hj=>absurd hj (by omega)),by omega,by omega⟩
 case round =>
  obtain ⟨k,rfl,B,HE,hkn,hfu⟩:=hrel
  by_cases hlt:k < n
  ·obtain ⟨g',rfl⟩:∃ g',gk = g' + 1:=⟨gk - 1,by omega⟩
   have hlt':(k:Int) < (n:Int):=by omega
   have hk0:(0:Int) ≤ k:=by omega
   have hkl:k < s.length:=by rw [HN.out]; exact hlt
   obtain ⟨_,a',cap',e1,_,hcells⟩:=H.out.below B.out
   rw [HN.out] at e1
   simp only [Value.slice.injEq,true_and] at e1
   obtain ⟨rfl,rfl⟩:=e1
   obtain ⟨kb,off,rfl,hcl2⟩:=hcells (by omega)
   obtain ⟨a1,n1,c1,a2,n2,c2,a3,n3,c3,a4,n4,c4,a5,n5,c5,a6,n6,c6,⟨x0,x1,x2,x3,x4,x5,x6,x7,x8,x9,x10⟩,hh⟩:=en_read (hcl2 k hkl)
   rw [Nat.mul_comm 11 k] at x0 x1 x2 x3 x4 x5 x6 x7 x8 x9 x10
   have hpk:pkA s k = (s.getD k nEn).pk:=rfl
   obtain ⟨x,hx⟩:∃ x,s.getD k nEn = x:=⟨_,rfl⟩
   rw [hx] at x0 x1 x8 x9 x10 hpk
   have HX:=Lib.hid hpk
   have HKL:=Lib.hid hkl
   have hq:((S x.pk.nm).toList == (S nm).toList) = decide (x.pk.nm = nm):=Rl.S_beq _ _
   have hb2:=(Below.refl wr.heap.size wr).alloc (Nat.le_refl _) (.cells #[.string (S x.pk.nm),.string (S x.pk.vs),.slice a1 n1 c1,.slice a2 n2 c2,.slice a3 n3 c3,.slice a4 n4 c4,.slice a5 n5 c5,.slice a6 n6 c6,.bool x.pk.ess,.bool x.cfg,.bool x.hld] 45)
   have i2:=Blk.Is.new wr 45 #[.string (S x.pk.nm),.string (S x.pk.vs),.slice a1 n1 c1,.slice a2 n2 c2,.slice a3 n3 c3,.slice a4 n4 c4,.slice a5 n5 c5,.slice a6 n6 c6,.bool x.pk.ess,.bool x.cfg,.bool x.hld]
   obtain ⟨V,hV⟩:∃ V,wr.alloc (.cells #[.string (S x.pk.nm),.string (S x.pk.vs),.slice a1 n1 c1,.slice a2 n2 c2,.slice a3 n3 c3,.slice a4 n4 c4,.slice a5 n5 c5,.slice a6 n6 c6,.bool x.pk.ess,.bool x.cfg,.bool x.hld] 45) = V:=⟨_,rfl⟩
   rw [hV] at hb2 i2
   have B2:=Lib.hid (B.out.trans (hb2.mono B.out.size))
   have z0:=i2.at (i:=0) rfl
   have hu:=hV
   clear hcells hcl2 hkl hx hpk hb2 i2 hV hh B
   by_cases he:x.pk.nm = nm
   ·rw [decide_eq_true he] at hq
    have hF:F = some k:=by rw [← HF.out]; exact fnd_some HKL.out (by rw [HX.out]; exact he) HE.out
    subst hF
    clear he HE HX HF
    go_wp2_with fail
    go_ret
    exact ⟨rfl,B2.out⟩
   ·rw [decide_eq_false he] at hq
    have HE2:Hid (∀ j,j < k + 1 → (pkA s j).nm ≠ nm):=Lib.hid fun j hj=>by
     by_cases e:j = k
     ·rw [e,HX.out]; exact he
     ·exact HE.out j (by omega)
    clear he HE HX
    go_wp2_with fail
    go_roundg g'
    case measure=>omega
    case rel=>exact ⟨k + 1,by go_num,B2,HE2,by omega,by omega⟩
  ·obtain rfl:n = k:=by omega
   have hge:¬ (n:Int) < (n:Int):=by omega
   have hF:F = none:=by rw [← HF.out]; exact fnd_none fun j hj=>HE.out j (by rw [← HN.out]; exact hj)
   subst hF
   clear HE HF
   go_wp2_with fail
   go_ret
   exact ⟨rfl,B.out⟩
/-! ### the same entries -/
def eqE (x y:En):Bool:=eqP x.pk y.pk && ((x.cfg == y.cfg) && (x.hld == y.hld))
def eqEs (s t:List En):Bool:=decide (s.length = t.length) && (List.range s.length).all fun j=>eqE (s.getD j nEn) (t.getD j nEn)
theorem eqEs_no {s t:List En} {k:Nat} (hk:k < s.length) (h:eqE (s.getD k nEn) (t.getD k nEn) = false):eqEs s t = false:=by
 unfold eqEs
 rw [Bool.and_eq_false_iff]
 refine .inr ?_
 rw [Bool.eq_false_iff]
 intro ha
 have:=List.all_eq_true.1 ha k (List.mem_range.2 hk)
 rw [h] at this
 cases this
theorem eqEs_yes {s t:List En} (hl:s.length = t.length) (h:∀ k,k < s.length → eqE (s.getD k nEn) (t.getD k nEn) = true):eqEs s t = true:=by
 unfold eqEs
 rw [decide_eq_true hl,Bool.true_and,List.all_eq_true]
 exact fun k hk=>h k (List.mem_range.1 hk)
theorem eqEs_len {s t:List En} (hl:s.length ≠ t.length):eqEs s t = false:=by
 unfold eqEs
 rw [decide_eq_false hl,Bool.false_and]
theorem eqE_self (x:En):eqE x x = true:=by
 unfold eqE
 rw [(eqP_iff _ _).2 rfl]
 cases x.cfg <;> cases x.hld <;> rfl
theorem eqEs_self (s:List En):eqEs s s = true:=eqEs_yes rfl fun k _=>eqE_self _
def EnV (w:World) (v:Value) (x:En):Prop:=∃ u1 u2 u3 u4 u5 u6,v = .agg #[.string (S x.pk.nm),.string (S x.pk.vs),u1,u2,u3,u4,u5,u6,.bool x.pk.ess,.bool x.cfg,.bool x.hld] ∧ Has w x.pk u1 u2 u3 u4 u5 u6
set_option maxRecDepth 100000 in
set_option maxHeartbeats 8000000 in
theorem isSame_any (v1 v2:Value) (x y:En) (w:World) (h1:EnV w v1 x) (h2:EnV w v2 y) :
  Calls Tryz.prog 32 #[v1,v2] w fun e w'=>e = .returned (.bool (eqE x y)) ∧ Below w.heap.size w w':=by
 obtain ⟨u1,u2,u3,u4,u5,u6,rfl,hh⟩:=h1
 obtain ⟨y1,y2,y3,y4,y5,y6,rfl,gg⟩:=h2
 obtain ⟨C1,hC1⟩:∃ C,(#[.string (S x.pk.nm),.string (S x.pk.vs),u1,u2,u3,u4,u5,u6,.bool x.pk.ess,.bool x.cfg,.bool x.hld]:Array Value) = C:=⟨_,rfl⟩
 have hb1:=(Below.refl w.heap.size w).alloc (Nat.le_refl _) (.cells #[.string (S x.pk.nm),.string (S x.pk.vs),u1,u2,u3,u4,u5,u6,.bool x.pk.ess,.bool x.cfg,.bool x.hld] 45)
 have i1:=Blk.Is.new w 45 #[.string (S x.pk.nm),.string (S x.pk.vs),u1,u2,u3,u4,u5,u6,.bool x.pk.ess,.bool x.cfg,.bool x.hld]
 have hb2:=hb1.alloc hb1.size (.cells #[.string (S y.pk.nm),.string (S y.pk.vs),y1,y2,y3,y4,y5,y6,.bool y.pk.ess,.bool y.cfg,.bool y.hld] 45)
 have i2:=Blk.Is.new (w.alloc (.cells #[.string (S x.pk.nm),.string (S x.pk.vs),u1,u2,u3,u4,u5,u6,.bool x.pk.ess,.bool x.cfg,.bool x.hld] 45)) 45 #[.string (S y.pk.nm),.string (S y.pk.vs),y1,y2,y3,y4,y5,y6,.bool y.pk.ess,.bool y.cfg,.bool y.hld]
 have i1':=i1.alloc (.cells #[.string (S y.pk.nm),.string (S y.pk.vs),y1,y2,y3,y4,y5,y6,.bool y.pk.ess,.bool y.cfg,.bool y.hld] 45)
 have hsz:(w.alloc (.cells #[.string (S x.pk.nm),.string (S x.pk.vs),u1,u2,u3,u4,u5,u6,.bool x.pk.ess,.bool x.cfg,.bool x.hld] 45)).heap.size = w.heap.size + 1:=by simp
 rw [hsz] at i2
 obtain ⟨W,hW⟩:∃ W,(w.alloc (.cells #[.string (S x.pk.nm),.string (S x.pk.vs),u1,u2,u3,u4,u5,u6,.bool x.pk.ess,.bool x.cfg,.bool x.hld] 45)).alloc (.cells #[.string (S y.pk.nm),.string (S y.pk.vs),y1,y2,y3,y4,y5,y6,.bool y.pk.ess,.bool y.cfg,.bool y.hld] 45) = W:=⟨_,rfl⟩
 rw [hW] at hb2 i1' i2
 have HB:=Lib.hid hb2
 have I1:=Lib.hid i1'
 have I2:=Lib.hid i2
 have cs:=Rc.same_any _ _ x.pk y.pk W ⟨_,_,_,_,_,_,rfl,hh.below hb2⟩ ⟨_,_,_,_,_,_,rfl,gg.below hb2⟩
 have c0:=i1'.at (i:=0) rfl
 have d0:=i2.at (i:=0) rfl
 have c1:=i1'.at (i:=1) rfl
 have d1:=i2.at (i:=1) rfl
 have c2:=i1'.at (i:=2) rfl
 have d2:=i2.at (i:=2) rfl
 have c3:=i1'.at (i:=3) rfl
 have d3:=i2.at (i:=3) rfl
 have c4:=i1'.at (i:=4) rfl
 have d4:=i2.at (i:=4) rfl
 have c5:=i1'.at (i:=5) rfl
 have d5:=i2.at (i:=5) rfl
 have c6:=i1'.at (i:=6) rfl
 have d6:=i2.at (i:=6) rfl
 have c7:=i1'.at (i:=7) rfl
 have d7:=i2.at (i:=7) rfl
 have c8:=i1'.at (i:=8) rfl
 have d8:=i2.at (i:=8) rfl
 have he:eqE x y = (eqP x.pk y.pk && ((x.cfg == y.cfg) && (x.hld == y.hld))):=rfl
 rw [he]
 obtain ⟨s1,t1,e1⟩:=hh.pre.shape
 obtain ⟨s2,t2,e2⟩:=hh.dep.shape
 obtain ⟨s3,t3,e3⟩:=hh.rcm.shape
 obtain ⟨s4,t4,e4⟩:=hh.con.shape
 obtain ⟨s5,t5,e5⟩:=hh.brk.shape
 obtain ⟨s6,t6,e6⟩:=hh.prv.shape
 obtain ⟨s7,t7,e7⟩:=gg.pre.shape
 obtain ⟨s8,t8,e8⟩:=gg.dep.shape
 obtain ⟨s9,t9,e9⟩:=gg.rcm.shape
 obtain ⟨s10,t10,e10⟩:=gg.con.shape
 obtain ⟨s11,t11,e11⟩:=gg.brk.shape
 obtain ⟨s12,t12,e12⟩:=gg.prv.shape
 generalize x.pk.pre.length = n1 at e1
 generalize x.pk.dep.length = n2 at e2
 generalize x.pk.rcm.length = n3 at e3
 generalize x.pk.con.length = n4 at e4
 generalize x.pk.brk.length = n5 at e5
 generalize x.pk.prv.length = n6 at e6
 generalize y.pk.pre.length = n7 at e7
 generalize y.pk.dep.length = n8 at e8
 generalize y.pk.rcm.length = n9 at e9
 generalize y.pk.con.length = n10 at e10
 generalize y.pk.brk.length = n11 at e11
 generalize y.pk.prv.length = n12 at e12
 clear hb1 i1 hb2 i1' i2 hsz hh gg he hC1 C1
 generalize eqP x.pk y.pk = Q at *
 generalize S x.pk.nm = N1 at *
 generalize S x.pk.vs = N2 at *
 generalize S y.pk.nm = N3 at *
 generalize S y.pk.vs = N4 at *
 generalize x.pk.ess = E1 at *
 generalize y.pk.ess = E2 at *
 generalize x.cfg = F1 at *
 generalize y.cfg = F2 at *
 generalize x.hld = G1 at *
 generalize y.hld = G2 at *
 subst e1 e2 e3 e4 e5 e6 e7 e8 e9 e10 e11 e12
 obtain ⟨q1,hq1⟩:∃ q,(F1 == F2) = q:=⟨_,rfl⟩
 obtain ⟨q2,hq2⟩:∃ q,(G1 == G2) = q:=⟨_,rfl⟩
 rw [hq1,hq2]
 cases Q with
 | false =>
  rw [Bool.false_and]
  go_enter Tryz.func32,Tryz.ntmps32
  go_wp2_with fail
  refine cs.mono ?_
  rintro e w1 ⟨rfl,k1⟩
  have hb:=HB.out.trans (k1.mono HB.out.size)
  clear cs
  go_wp2_with fail
  go_ret
  exact ⟨rfl,hb⟩
 | true =>
  rw [Bool.true_and]
  cases q1 with
  | false =>
   rw [Bool.false_and]
   go_enter Tryz.func32,Tryz.ntmps32
   go_wp2_with fail
   refine cs.mono ?_
   rintro e w1 ⟨rfl,k1⟩
   have hb:=HB.out.trans (k1.mono HB.out.size)
   have q9:=(Rl.is_on I1.out k1).at (i:=9) rfl
   have r9:=(Rl.is_on I2.out k1).at (i:=9) rfl
   clear cs
   go_wp2_with fail
   go_ret
   exact ⟨rfl,hb⟩
  | true =>
   rw [Bool.true_and]
   go_enter Tryz.func32,Tryz.ntmps32
   go_wp2_with fail
   refine cs.mono ?_
   rintro e w1 ⟨rfl,k1⟩
   have hb:=HB.out.trans (k1.mono HB.out.size)
   have q9:=(Rl.is_on I1.out k1).at (i:=9) rfl
   have q10:=(Rl.is_on I1.out k1).at (i:=10) rfl
   have r9:=(Rl.is_on I2.out k1).at (i:=9) rfl
   have r10:=(Rl.is_on I2.out k1).at (i:=10) rfl
   clear cs
   go_wp2_with fail
   go_ret
   exact ⟨rfl,hb⟩
set_option maxRecDepth 100000 in
set_option maxHeartbeats 8000000 in
theorem equalFunc_any (v1 v2:Value) (s t:List En) (w:World) (h1:Ens w v1 s) (h2:Ens w v2 t) :
  Calls Tryz.prog 31 #[v1,v2,.func (.func 32) #[] #[]] w fun e w'=>e = .returned (.bool (eqEs s t)) ∧ Below w.heap.size w w':=by
 obtain ⟨sa,cap,rfl⟩:=h1.shape
 obtain ⟨sb,capb,rfl⟩:=h2.shape
 have hn0:=h1.1
 have hm0:=h2.1
 by_cases hlen:s.length = t.length
 ·have HLE:=Lib.hid hlen
  obtain ⟨G,hG⟩:∃ G,eqEs s t = G:=⟨_,rfl⟩
  have HG:=Lib.hid hG
  rw [hG]
  obtain ⟨n,hn⟩:∃ n,s.length = n:=⟨_,rfl⟩
  have hm:t.length = n:=by rw [← hlen]; exact hn
  have HN:=Lib.hid hn
  have HM:=Lib.hid hm
  have H1:=Lib.hid (show Ens w (.slice sa n cap) s by rw [← hn]; exact h1)
  have H2:=Lib.hid (show Ens w (.slice sb n capb) t by rw [← hm]; exact h2)
  rw [hn] at hn0
  rw [hn,hm]
  have hne:((n:Int) != (n:Int)) = false:=by simp
  clear hn hm hG h1 h2 hlen hm0
  go_enter Tryz.func31,Tryz.ntmps31
  go_wp2_with fail
  go_loopg [17] n (fun gf s17 wx=>∃ k:Nat,s17 = .int .i64 k ∧ Hid (Below w.heap.size w wx) ∧ Hid (∀ j,j < k → eqE (s.getD j nEn) (t.getD j nEn) = true) ∧ k ≤ n ∧ n ≤ k + gf)
  case atStart=>exact ⟨0,rfl,Below.refl _ _,Lib.hid (fun j hj=>absurd hj (by omega)),by omega,by omega⟩
  case round =>
   obtain ⟨k,rfl,B,HE,hkn,hfu⟩:=hrel
   by_cases hlt:k < n
   ·obtain ⟨g',rfl⟩:∃ g',gk = g' + 1:=⟨gk - 1,by omega⟩
    have hlt':(k:Int) < (n:Int):=by omega
    have hk0:(0:Int) ≤ k:=by omega
    have hkl:k < s.length:=by rw [HN.out]; exact hlt
    have hkt:k < t.length:=by rw [HM.out]; exact hlt
    obtain ⟨_,a',cap',e1,_,hca⟩:=H1.out.below B.out
    rw [HN.out] at e1
    simp only [Value.slice.injEq,true_and] at e1
    obtain ⟨rfl,rfl⟩:=e1
    obtain ⟨_,b',capb',e2,_,hcb⟩:=H2.out.below B.out
    rw [HM.out] at e2
    simp only [Value.slice.injEq,true_and] at e2
    obtain ⟨rfl,rfl⟩:=e2
    obtain ⟨ka,oa,rfl,hca2⟩:=hca (by omega)
    obtain ⟨kb,ob,rfl,hcb2⟩:=hcb (by omega)
    obtain ⟨a1,n1,c1,a2,n2,c2,a3,n3,c3,a4,n4,c4,a5,n5,c5,a6,n6,c6,⟨x0,x1,x2,x3,x4,x5,x6,x7,x8,x9,x10⟩,hh⟩:=en_read (hca2 k hkl)
    obtain ⟨p1,r1,d1,p2,r2,d2,p3,r3,d3,p4,r4,d4,p5,r5,d5,p6,r6,d6,⟨y0,y1,y2,y3,y4,y5,y6,y7,y8,y9,y10⟩,gg⟩:=en_read (hcb2 k hkt)
    rw [Nat.mul_comm 11 k] at x0 x1 x2 x3 x4 x5 x6 x7 x8 x9 x10 y0 y1 y2 y3 y4 y5 y6 y7 y8 y9 y10
    obtain ⟨x,hx⟩:∃ x,s.getD k nEn = x:=⟨_,rfl⟩
    rw [hx] at x0 x1 x8 x9 x10 hh
    obtain ⟨y,hy⟩:∃ y,t.getD k nEn = y:=⟨_,rfl⟩
    rw [hy] at y0 y1 y8 y9 y10 gg
    have HX:=Lib.hid hx
    have HY:=Lib.hid hy
    have HKL:=Lib.hid hkl
    have hb1:=(Below.refl wr.heap.size wr).alloc (Nat.le_refl _) (.cells #[.string (S x.pk.nm),.string (S x.pk.vs),.slice a1 n1 c1,.slice a2 n2 c2,.slice a3 n3 c3,.slice a4 n4 c4,.slice a5 n5 c5,.slice a6 n6 c6,.bool x.pk.ess,.bool x.cfg,.bool x.hld] 45)
    have i1:=Blk.Is.new wr 45 #[.string (S x.pk.nm),.string (S x.pk.vs),.slice a1 n1 c1,.slice a2 n2 c2,.slice a3 n3 c3,.slice a4 n4 c4,.slice a5 n5 c5,.slice a6 n6 c6,.bool x.pk.ess,.bool x.cfg,.bool x.hld]
    obtain ⟨V1,hV1⟩:∃ V,wr.alloc (.cells #[.string (S x.pk.nm),.string (S x.pk.vs),.slice a1 n1 c1,.slice a2 n2 c2,.slice a3 n3 c3,.slice a4 n4 c4,.slice a5 n5 c5,.slice a6 n6 c6,.bool x.pk.ess,.bool x.cfg,.bool x.hld] 45) = V:=⟨_,rfl⟩
    rw [hV1] at hb1 i1
    obtain ⟨bx,hbx⟩:∃ bx,wr.heap.size = bx:=⟨_,rfl⟩
    rw [hbx] at i1
    have hb2:=(Below.refl V1.heap.size V1).alloc (Nat.le_refl _) (.cells #[.string (S y.pk.nm),.string (S y.pk.vs),.slice p1 r1 d1,.slice p2 r2 d2,.slice p3 r3 d3,.slice p4 r4 d4,.slice p5 r5 d5,.slice p6 r6 d6,.bool y.pk.ess,.bool y.cfg,.bool y.hld] 45)
    have i2:=Blk.Is.new V1 45 #[.string (S y.pk.nm),.string (S y.pk.vs),.slice p1 r1 d1,.slice p2 r2 d2,.slice p3 r3 d3,.slice p4 r4 d4,.slice p5 r5 d5,.slice p6 r6 d6,.bool y.pk.ess,.bool y.cfg,.bool y.hld]
    obtain ⟨V,hV⟩:∃ V,V1.alloc (.cells #[.string (S y.pk.nm),.string (S y.pk.vs),.slice p1 r1 d1,.slice p2 r2 d2,.slice p3 r3 d3,.slice p4 r4 d4,.slice p5 r5 d5,.slice p6 r6 d6,.bool y.pk.ess,.bool y.cfg,.bool y.hld] 45) = V:=⟨_,rfl⟩
    rw [hV] at hb2 i2
    obtain ⟨by',hby⟩:∃ by',V1.heap.size = by':=⟨_,rfl⟩
    rw [hby] at i2
    have i1':=Rl.is_on i1 hb2
    have bb:=hb1.trans (hb2.mono hb1.size)
    have cs:=isSame_any (.agg #[.string (S x.pk.nm),.string (S x.pk.vs),.slice a1 n1 c1,.slice a2 n2 c2,.slice a3 n3 c3,.slice a4 n4 c4,.slice a5 n5 c5,.slice a6 n6 c6,.bool x.pk.ess,.bool x.cfg,.bool x.hld]) (.agg #[.string (S y.pk.nm),.string (S y.pk.vs),.slice p1 r1 d1,.slice p2 r2 d2,.slice p3 r3 d3,.slice p4 r4 d4,.slice p5 r5 d5,.slice p6 r6 d6,.bool y.pk.ess,.bool y.cfg,.bool y.hld]) x y V ⟨_,_,_,_,_,_,rfl,hh.below bb⟩ ⟨_,_,_,_,_,_,rfl,gg.below bb⟩
    have BV:=Lib.hid (B.out.trans (bb.mono B.out.size))
    replace y0:=Rl.cell_on y0 hb1
    replace y1:=Rl.cell_on y1 hb1
    replace y2:=Rl.cell_on y2 hb1
    replace y3:=Rl.cell_on y3 hb1
    replace y4:=Rl.cell_on y4 hb1
    replace y5:=Rl.cell_on y5 hb1
    replace y6:=Rl.cell_on y6 hb1
    replace y7:=Rl.cell_on y7 hb1
    replace y8:=Rl.cell_on y8 hb1
    replace y9:=Rl.cell_on y9 hb1
    replace y10:=Rl.cell_on y10 hb1
    have q0:=i1'.at (i:=0) rfl
    have z0:=i2.at (i:=0) rfl
    have q1:=i1'.at (i:=1) rfl
    have z1:=i2.at (i:=1) rfl
    have q2:=i1'.at (i:=2) rfl
    have z2:=i2.at (i:=2) rfl
    have q3:=i1'.at (i:=3) rfl
    have z3:=i2.at (i:=3) rfl
    have q4:=i1'.at (i:=4) rfl
    have z4:=i2.at (i:=4) rfl
    have q5:=i1'.at (i:=5) rfl
    have z5:=i2.at (i:=5) rfl
    have q6:=i1'.at (i:=6) rfl
    have z6:=i2.at (i:=6) rfl
    have q7:=i1'.at (i:=7) rfl
    have z7:=i2.at (i:=7) rfl
    have q8:=i1'.at (i:=8) rfl
    have z8:=i2.at (i:=8) rfl
    have q9:=i1'.at (i:=9) rfl
    have z9:=i2.at (i:=9) rfl
    have q10:=i1'.at (i:=10) rfl
    have z10:=i2.at (i:=10) rfl
    have hu:=hV1
    have hu2:=hV
    clear hca hcb hca2 hcb2 hkl hkt hx hy hb1 i1 hV1 hb2 i2 hV i1' bb hh gg B
    cases hw:eqE x y with
    | false =>
     rw [hw] at cs
     have hG:G = false:=by rw [← HG.out]; exact eqEs_no HKL.out (by rw [HX.out,HY.out]; exact hw)
     subst hG
     clear HG HE HX HY hw
     go_wp2_with fail
     refine cs.mono ?_
     rintro e w1 ⟨rfl,k1⟩
     have hb:=BV.out.trans (k1.mono BV.out.size)
     clear cs
     go_wp2_with fail
     go_ret
     exact ⟨rfl,hb⟩
    | true =>
     rw [hw] at cs
     have HE2:Hid (∀ j,j < k + 1 → eqE (s.getD j nEn) (t.getD j nEn) = true):=Lib.hid fun j hj=>by
      by_cases e:j = k
      ·rw [e,HX.out,HY.out]; exact hw
      ·exact HE.out j (by omega)
     clear HE HX HY hw
     go_wp2_with fail
     refine cs.mono ?_
     rintro e w1 ⟨rfl,k1⟩
     have B1:=Lib.hid (BV.out.trans (k1.mono BV.out.size))
     clear cs k1
     go_wp2_with fail
     go_roundg g'
     case measure=>omega
     case rel=>exact ⟨k + 1,by go_num,B1,HE2,by omega,by omega⟩
   ·obtain rfl:n = k:=by omega
    have hge:¬ (n:Int) < (n:Int):=by omega
    have hG:G = true:=by rw [← HG.out]; exact eqEs_yes HLE.out fun j hj=>HE.out j (by rw [← HN.out]; exact hj)
    subst hG
    clear HE HG
    go_wp2_with fail
    go_ret
    exact ⟨rfl,B.out⟩
 ·rw [eqEs_len hlen]
  have hne:((s.length:Int) != (t.length:Int)) = true:=by rw [bne_iff_ne]; omega
  generalize s.length = n at *
  generalize t.length = m at *
  clear h1 h2 hlen
  go_enter Tryz.func31,Tryz.ntmps31
  go_wp2_with fail
  go_ret
  exact ⟨rfl,Below.refl _ _⟩
set_option maxRecDepth 100000 in
theorem sameE_any (v1 v2:Value) (s t:List En) (w:World) (h1:Ens w v1 s) (h2:Ens w v2 t) :
  Calls Tryz.prog 16 #[v1,v2] w fun e w'=>e = .returned (.bool (eqEs s t)) ∧ Below w.heap.size w w':=by
 have ce:=equalFunc_any v1 v2 s t w h1 h2
 obtain ⟨sa,cap,rfl⟩:=h1.shape
 obtain ⟨sb,capb,rfl⟩:=h2.shape
 generalize eqEs s t = G at *
 generalize s.length = n at *
 generalize t.length = m at *
 clear h1 h2
 go_enter Tryz.func16,Tryz.ntmps16
 go_wp2_with fail
 refine ce.mono ?_
 rintro e w1 ⟨rfl,k1⟩
 clear ce
 go_wp2_with fail
 go_ret
 exact ⟨rfl,k1⟩
end Sa
end Go.Proofs.YtgpcilepkmckeaaGreatDoor

/-
SameAtoms, SameClauses, SameProvides. What the six ways of reading tell, in one form.
-/
import Derived.Test.YtmhpjjjjgakpiaaGreatDoorDReg
import Derived.Laws.StructEq
import Derived.Deep.QuietTactic
import Derived.BigQuiet
import Derived.Test.YtmhpjjjjgakpiaaGreatDoorDVerRefParse
import Derived.StillTailTactics
namespace Go.Proofs.YtmhpjjjjgakpiaaGreatDoor
open Go.RowKit
set_option linter.unusedSimpArgs false
set_option linter.unusedVariables false
namespace Rl
open Ver (Bs li S S_li)
theorem S_beq (a c:Bs):((S a).toList == (S c).toList) = decide (a = c):=by
 rw [Lib.toList_data,Lib.toList_data]
 show (li (S a) == li (S c)) = _
 rw [S_li,S_li,Bool.eq_iff_iff,beq_iff_eq,decide_eq_true_eq]
theorem S_eq (a c:Bs):(S a).toList = (S c).toList ↔ a = c:=by
 have:=S_beq a c
 rw [Bool.eq_iff_iff,beq_iff_eq,decide_eq_true_eq] at this
 exact this
set_option maxRecDepth 100000 in
theorem eqA (x y:At) (w:World):(Op.equalIn 10000 54 (aV x) (aV y)).run Tryz.prog w = .ok (decide (x = y)) w:=by
 obtain ⟨n,r,v⟩:=x
 obtain ⟨n',r',v'⟩:=y
 unfold aV
 have hu:Tryz.prog.underlying 54 = some (.struct (Tryz.prog.fieldsOf 54)):=by kernel_rfl
 have hp:Tryz.prog.stoodInHeld 54 = false:=by kernel_rfl
 rw [run_equalIn_struct w 9999 54 _ _ hu hp]
 have h1:=S_eq n n'
 have h2:=S_eq v v'
 simp only [go_sem,Tryz.underlying54]
 simp [go_sem,h1,h2]
 by_cases e1:n = n' <;> by_cases e2:r = r' <;> by_cases e3:v = v' <;> simp [e1,e2,e3]
set_option maxRecDepth 100000 in
theorem eqP (x y:Pv) (w:World):(Op.equalIn 10000 101 (pV x) (pV y)).run Tryz.prog w = .ok (decide (x = y)) w:=by
 obtain ⟨n,v⟩:=x
 obtain ⟨n',v'⟩:=y
 unfold pV
 have hu:Tryz.prog.underlying 101 = some (.struct (Tryz.prog.fieldsOf 101)):=by kernel_rfl
 have hp:Tryz.prog.stoodInHeld 101 = false:=by kernel_rfl
 rw [run_equalIn_struct w 9999 101 _ _ hu hp]
 have h1:=S_eq n n'
 have h2:=S_eq v v'
 simp only [go_sem,Tryz.underlying101]
 simp [go_sem,h1,h2]
 by_cases e1:n = n' <;> by_cases e3:v = v' <;> simp [e1,e3]
theorem neA (x y:At) (w:World):(binOp .neq 54 (aV x) (aV y)).run Tryz.prog w = .ok (.bool (!decide (x = y))) w:=by
 have h:=eqA x y w
 unfold aV at h ⊢
 rw [run_neq_struct,h]; rfl
theorem neP (x y:Pv) (w:World):(binOp .neq 101 (pV x) (pV y)).run Tryz.prog w = .ok (.bool (!decide (x = y))) w:=by
 have h:=eqP x y w
 unfold pV at h ⊢
 rw [run_neq_struct,h]; rfl
theorem guardA:Tryz.prog.eqGuardType Tryz.prog.depth 54 = false:=by kernel_rfl
theorem guardP:Tryz.prog.eqGuardType Tryz.prog.depth 101 = false:=by kernel_rfl
theorem same_all {α:Type} {z:α} {l m:List α} (h1:l.length = m.length) (h:∀ j,j < l.length → l.getD j z = m.getD j z):l = m:=by
 apply List.ext_getElem h1
 intro i h2 h3
 have:=h i h2
 simpa [h2,h3] using this
theorem drewn_below {w u:World} (h:∃ q,u = w.drewN q):Below w.heap.size w u:=by
 obtain ⟨q,rfl⟩:=h
 exact Ver.below_drewN w q
theorem drewn_more {w u:World} (h:∃ q,u = w.drewN q) (m:Nat):∃ q,u.drewN m = w.drewN q:=by
 obtain ⟨q,rfl⟩:=h
 exact ⟨q + m,World.drewN_drewN w q m⟩
set_option maxRecDepth 100000 in
set_option maxHeartbeats 4000000 in
theorem sameAtoms_any (va vb:Value) (la lb:List At) (w:World) (ha:Ats w va la) (hb:Ats w vb lb) :
  Calls Tryz.prog 34 #[va,vb] w fun e w'=>e = .returned (.bool (decide (la = lb))) ∧ ∃ q,w' = w.drewN q:=by
 obtain ⟨aa,ca,rfl⟩:=ha.shape
 obtain ⟨ab,cb,rfl⟩:=hb.shape
 by_cases hlen:la.length = lb.length
 ·have hne:((la.length:Int) != (lb.length:Int)) = false:=by simp [hlen]
  have HA:=Lib.hid ha
  have HB:=Lib.hid hb
  have HLL:=Lib.hid hlen
  obtain ⟨n,hn⟩:∃ n,la.length = n:=⟨_,rfl⟩
  have HL:=Lib.hid hn
  rw [hn] at hlen hne ⊢
  rw [← hlen] at hne ⊢
  clear hlen hn ha hb
  go_enter Tryz.func34,Tryz.ntmps34
  go_wp2_with fail
  go_loopg [13] n (fun gf s13 wx=>∃ k:Nat,s13 = .int .i64 k ∧ (∃ q,wx = w.drewN q) ∧ Hid (∀ j,j < k → la.getD j nA = lb.getD j nA) ∧ k ≤ n ∧ n ≤ k + gf)
  case atStart=>exact ⟨0,rfl,⟨0,rfl⟩,fun j hj=>absurd hj (by omega),by omega,by omega⟩
  case round =>
   obtain ⟨k,rfl,hbw,HS,hkn,hfu⟩:=hrel
   by_cases hlt:k < n
   ·obtain ⟨g',rfl⟩:∃ g',gk = g' + 1:=⟨gk - 1,by omega⟩
    have hlt':(k:Int) < (n:Int):=by omega
    have hk0:(0:Int) ≤ k:=by omega
    have hka:k < la.length:=by rw [HL.out]; exact hlt
    have hkb:k < lb.length:=by rw [← HLL.out,HL.out]; exact hlt
    obtain ⟨_,a',cap',e1,_,hca⟩:=HA.out.below (drewn_below hbw)
    simp only [Value.slice.injEq,true_and] at e1
    obtain ⟨rfl,rfl⟩:=e1
    obtain ⟨_,b',capb',e2,_,hcb⟩:=HB.out.below (drewn_below hbw)
    simp only [Value.slice.injEq,true_and] at e2
    obtain ⟨rfl,rfl⟩:=e2
    obtain ⟨ka,oa,rfl,hca2⟩:=hca (by omega)
    obtain ⟨kb,ob,rfl,hcb2⟩:=hcb (by omega)
    obtain ⟨x0,x1,x2⟩:=hca2 k hka
    obtain ⟨y0,y1,y2⟩:=hcb2 k hkb
    rw [Nat.mul_comm 3 k] at x0 x1 x2 y0 y1 y2
    have hneq:=neA (la.getD k nA) (lb.getD k nA)
    have hg:=guardA
    unfold aV at hneq
    generalize hX:la.getD k nA = X at *
    generalize hY:lb.getD k nA = Y at *
    have HX:=Lib.hid hX
    have HY:=Lib.hid hY
    have HBW:=Lib.hid hbw
    clear hca hcb hca2 hcb2 hX hY hbw
    by_cases hxy:X = Y
    ·rw [decide_eq_true hxy] at hneq
     have HS2:Hid (∀ j,j < k + 1 → la.getD j nA = lb.getD j nA):=fun j hj=>by
      by_cases e:j = k
      ·rw [e,HX.out,HY.out]; exact hxy
      ·exact HS.out j (by omega)
     clear hxy HX HY HS
     go_wp2_with fail
     go_quiet (fail)
     have kq:=Lib.hid (drewn_more HBW.out nq)
     generalize wr.drewN nq = wd at *
     go_wp2_with fail
     go_roundg g'
     case measure=>omega
     case rel=>exact ⟨k + 1,by go_num,kq.out,HS2.out,by omega,by omega⟩
    ·rw [decide_eq_false hxy] at hneq
     have hd:decide (la = lb) = false:=decide_eq_false fun e=>hxy (by rw [← HX.out,← HY.out,e])
     have HD:=Lib.hid hd
     clear hxy HX HY HS hd
     go_wp2_with fail
     go_quiet (fail)
     have kq:=Lib.hid (drewn_more HBW.out nq)
     generalize wr.drewN nq = wd at *
     go_wp2_with fail
     go_ret
     exact ⟨by rw [HD.out]; rfl,kq.out⟩
   ·have hge:¬ (k:Int) < (n:Int):=by omega
    obtain rfl:k = n:=by omega
    have hd:decide (la = lb) = true:=decide_eq_true (same_all (z:=nA) HLL.out fun j hj=>HS.out j (by rw [← HL.out]; exact hj))
    have HD:=Lib.hid hd
    have HBW:=Lib.hid hbw
    clear hd hbw HS
    go_wp2_with fail
    go_ret
    exact ⟨by rw [HD.out]; rfl,HBW.out⟩
 ·have hne:((la.length:Int) != (lb.length:Int)) = true:=by simp; omega
  have hd:decide (la = lb) = false:=decide_eq_false fun e=>hlen (by rw [e])
  rw [hd]
  clear hd hlen ha hb
  go_enter Tryz.func34,Tryz.ntmps34
  go_wp2
  go_ret
  exact ⟨rfl,0,rfl⟩
set_option maxRecDepth 100000 in
set_option maxHeartbeats 4000000 in
theorem sameProvides_any (va vb:Value) (la lb:List Pv) (w:World) (ha:Pvs w va la) (hb:Pvs w vb lb) :
  Calls Tryz.prog 35 #[va,vb] w fun e w'=>e = .returned (.bool (decide (la = lb))) ∧ ∃ q,w' = w.drewN q:=by
 obtain ⟨aa,ca,rfl⟩:=ha.shape
 obtain ⟨ab,cb,rfl⟩:=hb.shape
 by_cases hlen:la.length = lb.length
 ·have hne:((la.length:Int) != (lb.length:Int)) = false:=by simp [hlen]
  have HA:=Lib.hid ha
  have HB:=Lib.hid hb
  have HLL:=Lib.hid hlen
  obtain ⟨n,hn⟩:∃ n,la.length = n:=⟨_,rfl⟩
  have HL:=Lib.hid hn
  rw [hn] at hlen hne ⊢
  rw [← hlen] at hne ⊢
  clear hlen hn ha hb
  go_enter Tryz.func35,Tryz.ntmps35
  go_wp2_with fail
  go_loopg [13] n (fun gf s13 wx=>∃ k:Nat,s13 = .int .i64 k ∧ (∃ q,wx = w.drewN q) ∧ Hid (∀ j,j < k → la.getD j nP = lb.getD j nP) ∧ k ≤ n ∧ n ≤ k + gf)
  case atStart=>exact ⟨0,rfl,⟨0,rfl⟩,fun j hj=>absurd hj (by omega),by omega,by omega⟩
  case round =>
   obtain ⟨k,rfl,hbw,HS,hkn,hfu⟩:=hrel
   by_cases hlt:k < n
   ·obtain ⟨g',rfl⟩:∃ g',gk = g' + 1:=⟨gk - 1,by omega⟩
    have hlt':(k:Int) < (n:Int):=by omega
    have hk0:(0:Int) ≤ k:=by omega
    have hka:k < la.length:=by rw [HL.out]; exact hlt
    have hkb:k < lb.length:=by rw [← HLL.out,HL.out]; exact hlt
    obtain ⟨_,a',cap',e1,_,hca⟩:=HA.out.below (drewn_below hbw)
    simp only [Value.slice.injEq,true_and] at e1
    obtain ⟨rfl,rfl⟩:=e1
    obtain ⟨_,b',capb',e2,_,hcb⟩:=HB.out.below (drewn_below hbw)
    simp only [Value.slice.injEq,true_and] at e2
    obtain ⟨rfl,rfl⟩:=e2
    obtain ⟨ka,oa,rfl,hca2⟩:=hca (by omega)
    obtain ⟨kb,ob,rfl,hcb2⟩:=hcb (by omega)
    obtain ⟨x0,x1⟩:=hca2 k hka
    obtain ⟨y0,y1⟩:=hcb2 k hkb
    rw [Nat.mul_comm 2 k] at x0 x1 y0 y1
    have hneq:=neP (la.getD k nP) (lb.getD k nP)
    have hg:=guardP
    unfold pV at hneq
    generalize hX:la.getD k nP = X at *
    generalize hY:lb.getD k nP = Y at *
    have HX:=Lib.hid hX
    have HY:=Lib.hid hY
    have HBW:=Lib.hid hbw
    clear hca hcb hca2 hcb2 hX hY hbw
    by_cases hxy:X = Y
    ·rw [decide_eq_true hxy] at hneq
     have HS2:Hid (∀ j,j < k + 1 → la.getD j nP = lb.getD j nP):=fun j hj=>by
      by_cases e:j = k
      ·rw [e,HX.out,HY.out]; exact hxy
      ·exact HS.out j (by omega)
     clear hxy HX HY HS
     go_wp2_with fail
     go_quiet (fail)
     have kq:=Lib.hid (drewn_more HBW.out nq)
     generalize wr.drewN nq = wd at *
     go_wp2_with fail
     go_roundg g'
     case measure=>omega
     case rel=>exact ⟨k + 1,by go_num,kq.out,HS2.out,by omega,by omega⟩
    ·rw [decide_eq_false hxy] at hneq
     have hd:decide (la = lb) = false:=decide_eq_false fun e=>hxy (by rw [← HX.out,← HY.out,e])
     have HD:=Lib.hid hd
     clear hxy HX HY HS hd
     go_wp2_with fail
     go_quiet (fail)
     have kq:=Lib.hid (drewn_more HBW.out nq)
     generalize wr.drewN nq = wd at *
     go_wp2_with fail
     go_ret
     exact ⟨by rw [HD.out]; rfl,kq.out⟩
   ·have hge:¬ (k:Int) < (n:Int):=by omega
    obtain rfl:k = n:=by omega
    have hd:decide (la = lb) = true:=decide_eq_true (same_all (z:=nP) HLL.out fun j hj=>HS.out j (by rw [← HL.out]; exact hj))
    have HD:=Lib.hid hd
    have HBW:=Lib.hid hbw
    clear hd hbw HS
    go_wp2_with fail
    go_ret
    exact ⟨by rw [HD.out]; rfl,HBW.out⟩
 ·have hne:((la.length:Int) != (lb.length:Int)) = true:=by simp; omega
  have hd:decide (la = lb) = false:=decide_eq_false fun e=>hlen (by rw [e])
  rw [hd]
  clear hd hlen ha hb
  go_enter Tryz.func35,Tryz.ntmps35
  go_wp2
  go_ret
  exact ⟨rfl,0,rfl⟩
set_option maxRecDepth 100000 in
set_option maxHeartbeats 4000000 in
theorem sameClauses_any (va vb:Value) (la lb:List (List At)) (w:World) (ha:Clss w va la) (hb:Clss w vb lb) :
  Calls Tryz.prog 33 #[va,vb] w fun e w'=>e = .returned (.bool (decide (la = lb))) ∧ ∃ q,w' = w.drewN q:=by
 obtain ⟨aa,ca,rfl⟩:=ha.shape
 obtain ⟨ab,cb,rfl⟩:=hb.shape
 by_cases hlen:la.length = lb.length
 ·have hne:((la.length:Int) != (lb.length:Int)) = false:=by simp [hlen]
  have HA:=Lib.hid ha
  have HB:=Lib.hid hb
  have HLL:=Lib.hid hlen
  obtain ⟨n,hn⟩:∃ n,la.length = n:=⟨_,rfl⟩
  have HL:=Lib.hid hn
  rw [hn] at hlen hne ⊢
  rw [← hlen] at hne ⊢
  clear hlen hn ha hb
  go_enter Tryz.func33,Tryz.ntmps33
  go_wp2_with fail
  go_loopg [13] n (fun gf s13 wx=>∃ k:Nat,s13 = .int .i64 k ∧ (∃ q,wx = w.drewN q) ∧ Hid (∀ j,j < k → la.getD j [] = lb.getD j []) ∧ k ≤ n ∧ n ≤ k + gf)
  case atStart=>exact ⟨0,rfl,⟨0,rfl⟩,fun j hj=>absurd hj (by omega),by omega,by omega⟩
  case round =>
   obtain ⟨k,rfl,hbw,HS,hkn,hfu⟩:=hrel
   by_cases hlt:k < n
   ·obtain ⟨g',rfl⟩:∃ g',gk = g' + 1:=⟨gk - 1,by omega⟩
    have hlt':(k:Int) < (n:Int):=by omega
    have hk0:(0:Int) ≤ k:=by omega
    have hka:k < la.length:=by rw [HL.out]; exact hlt
    have hkb:k < lb.length:=by rw [← HLL.out,HL.out]; exact hlt
    obtain ⟨_,a',cap',e1,_,hca⟩:=HA.out.below (drewn_below hbw)
    simp only [Value.slice.injEq,true_and] at e1
    obtain ⟨rfl,rfl⟩:=e1
    obtain ⟨_,b',capb',e2,_,hcb⟩:=HB.out.below (drewn_below hbw)
    simp only [Value.slice.injEq,true_and] at e2
    obtain ⟨rfl,rfl⟩:=e2
    obtain ⟨ka,oa,rfl,hca2⟩:=hca (by omega)
    obtain ⟨kb,ob,rfl,hcb2⟩:=hcb (by omega)
    obtain ⟨u,x0,xa⟩:=hca2 k hka
    obtain ⟨v,y0,ya⟩:=hcb2 k hkb
    rw [Nat.one_mul] at x0 y0
    have hneq:=fun m=>sameAtoms_any u v (la.getD k []) (lb.getD k []) (wr.drewN m) (xa.below (Ver.below_drewN wr m)) (ya.below (Ver.below_drewN wr m))
    obtain ⟨ua,uc,rfl⟩:=xa.shape
    obtain ⟨va,vc,rfl⟩:=ya.shape
    clear xa ya
    generalize hX:la.getD k [] = X at *
    generalize hY:lb.getD k [] = Y at *
    have HX:=Lib.hid hX
    have HY:=Lib.hid hY
    have HBW:=Lib.hid hbw
    clear hca hcb hca2 hcb2 hX hY hbw
    generalize hXl:X.length = xl at *
    generalize hYl:Y.length = yl at *
    clear hXl hYl
    by_cases hxy:X = Y
    ·rw [decide_eq_true hxy] at hneq
     have HNE:=Lib.hid hneq
     have HS2:Hid (∀ j,j < k + 1 → la.getD j [] = lb.getD j []):=fun j hj=>by
      by_cases e:j = k
      ·rw [e,HX.out,HY.out]; exact hxy
      ·exact HS.out j (by omega)
     clear hxy HX HY HS hneq
     go_wp2_with fail
     go_quiet ((with_reducible exact Calls.quiet_of (HNE.out _)))
     have kq:=Lib.hid (drewn_more HBW.out nq)
     generalize wr.drewN nq = wd at *
     go_wp2_with fail
     go_roundg g'
     case measure=>omega
     case rel=>exact ⟨k + 1,by go_num,kq.out,HS2.out,by omega,by omega⟩
    ·rw [decide_eq_false hxy] at hneq
     have HNE:=Lib.hid hneq
     have hd:decide (la = lb) = false:=decide_eq_false fun e=>hxy (by rw [← HX.out,← HY.out,e])
     have HD:=Lib.hid hd
     clear hxy HX HY HS hd hneq
     go_wp2_with fail
     go_quiet ((with_reducible exact Calls.quiet_of (HNE.out _)))
     have kq:=Lib.hid (drewn_more HBW.out nq)
     generalize wr.drewN nq = wd at *
     go_wp2_with fail
     go_ret
     exact ⟨by rw [HD.out]; rfl,kq.out⟩
   ·have hge:¬ (k:Int) < (n:Int):=by omega
    obtain rfl:k = n:=by omega
    have hd:decide (la = lb) = true:=decide_eq_true (same_all (z:=([]:List At)) HLL.out fun j hj=>HS.out j (by rw [← HL.out]; exact hj))
    have HD:=Lib.hid hd
    have HBW:=Lib.hid hbw
    clear hd hbw HS
    go_wp2_with fail
    go_ret
    exact ⟨by rw [HD.out]; rfl,HBW.out⟩
 ·have hne:((la.length:Int) != (lb.length:Int)) = true:=by simp; omega
  have hd:decide (la = lb) = false:=decide_eq_false fun e=>hlen (by rw [e])
  rw [hd]
  clear hd hlen ha hb
  go_enter Tryz.func33,Tryz.ntmps33
  go_wp2
  go_ret
  exact ⟨rfl,0,rfl⟩
end Rl
end Go.Proofs.YtmhpjjjjgakpiaaGreatDoor
namespace Go.Proofs.YtmhpjjjjgakpiaaGreatDoor
open Go.RowKit
set_option linter.unusedSimpArgs false
set_option linter.unusedVariables false
namespace Rl
open Ver (Bs li S S_li)
section
variable (s:ByteArray) (w:World) (hs:s.size ≤ 4611686018427387904)
include hs
end
end Rl
end Go.Proofs.YtmhpjjjjgakpiaaGreatDoor

/-
SameAtoms, SameClauses, SameProvides. What the six ways of reading tell, in one form. The reference's Number, and the texts that every program must know.
-/
import Derived.Test.YthmpepnikmdjpaaGreatDoorCRelLists
import Derived.Laws.StructEq
import Derived.Deep.QuietTactic
import Derived.BigQuiet
import Derived.Test.YthmpepnikmdjpaaGreatDoorCRelYList
import Derived.Test.YthmpepnikmdjpaaGreatDoorCTextSmallK
namespace Go.Proofs.YthmpepnikmdjpaaGreatDoor
open Go.RowKit
set_option linter.unusedSimpArgs false
set_option linter.unusedVariables false
namespace Rl
open Ver (Bs li li_len li_drop S S_self S_of S_size S_li below_drewN empty_is empty_no MaxLen Signs)
theorem S_beq (a c:Bs):((S a).toList == (S c).toList) = decide (a = c):=by
 rw [Lib.toList_data,Lib.toList_data]
 show (li (S a) == li (S c)) = _
 rw [S_li,S_li,Bool.eq_iff_iff,beq_iff_eq,decide_eq_true_eq]
theorem S_eq (a c:Bs):(S a).toList = (S c).toList ↔ a = c:=by
 have:=S_beq a c
 rw [Bool.eq_iff_iff,beq_iff_eq,decide_eq_true_eq] at this
 exact this
set_option maxRecDepth 100000 in
theorem eqA (x y:At) (w:World):(Op.equalIn 10000 78 (aV x) (aV y)).run Tryz.prog w = .ok (decide (x = y)) w:=by
 obtain ⟨n,r,v⟩:=x
 obtain ⟨n',r',v'⟩:=y
 unfold aV
 have hu:Tryz.prog.underlying 78 = some (.struct (Tryz.prog.fieldsOf 78)):=by kernel_rfl
 have hp:Tryz.prog.stoodInHeld 78 = false:=by kernel_rfl
 rw [run_equalIn_struct w 9999 78 _ _ hu hp]
 have h1:=S_eq n n'
 have h2:=S_eq v v'
 simp only [go_sem,Tryz.underlying78]
 simp [go_sem,h1,h2]
 by_cases e1:n = n' <;> by_cases e2:r = r' <;> by_cases e3:v = v' <;> simp [e1,e2,e3]
set_option maxRecDepth 100000 in
theorem eqP (x y:Pv) (w:World):(Op.equalIn 10000 82 (pV x) (pV y)).run Tryz.prog w = .ok (decide (x = y)) w:=by
 obtain ⟨n,v⟩:=x
 obtain ⟨n',v'⟩:=y
 unfold pV
 have hu:Tryz.prog.underlying 82 = some (.struct (Tryz.prog.fieldsOf 82)):=by kernel_rfl
 have hp:Tryz.prog.stoodInHeld 82 = false:=by kernel_rfl
 rw [run_equalIn_struct w 9999 82 _ _ hu hp]
 have h1:=S_eq n n'
 have h2:=S_eq v v'
 simp only [go_sem,Tryz.underlying82]
 simp [go_sem,h1,h2]
 by_cases e1:n = n' <;> by_cases e3:v = v' <;> simp [e1,e3]
theorem neA (x y:At) (w:World):(binOp .neq 78 (aV x) (aV y)).run Tryz.prog w = .ok (.bool (!decide (x = y))) w:=by
 have h:=eqA x y w
 unfold aV at h ⊢
 rw [run_neq_struct,h]; rfl
theorem neP (x y:Pv) (w:World):(binOp .neq 82 (pV x) (pV y)).run Tryz.prog w = .ok (.bool (!decide (x = y))) w:=by
 have h:=eqP x y w
 unfold pV at h ⊢
 rw [run_neq_struct,h]; rfl
theorem guardA:Tryz.prog.eqGuardType Tryz.prog.depth 78 = false:=by kernel_rfl
theorem guardP:Tryz.prog.eqGuardType Tryz.prog.depth 82 = false:=by kernel_rfl
theorem same_all {α:Type} {z:α} {l m:List α} (h1:l.length = m.length) (h:∀ j,j < l.length → l.getD j z = m.getD j z):l = m:=by
 apply List.ext_getElem h1
 intro i h2 h3
 have:=h i h2
 simpa [h2,h3] using this
theorem drewn_below {w u:World} (h:∃ q,u = w.drewN q):Below w.heap.size w u:=by
 obtain ⟨q,rfl⟩:=h
 exact below_drewN w q
theorem drewn_more {w u:World} (h:∃ q,u = w.drewN q) (m:Nat):∃ q,u.drewN m = w.drewN q:=by
 obtain ⟨q,rfl⟩:=h
 exact ⟨q + m,World.drewN_drewN w q m⟩
set_option maxRecDepth 100000 in
set_option maxHeartbeats 4000000 in
theorem sameAtoms_any (va vb:Value) (la lb:List At) (w:World) (ha:Ats w va la) (hb:Ats w vb lb) :
  Calls Tryz.prog 57 #[va,vb] w fun e w'=>e = .returned (.bool (decide (la = lb))) ∧ ∃ q,w' = w.drewN q:=by
 obtain ⟨aa,ca,rfl⟩:=ha.shape
 obtain ⟨ab,cb,rfl⟩:=hb.shape
 by_cases hlen:la.length = lb.length
 ·have hne:((la.length:Int) != (lb.length:Int)) = false:=by simp [hlen]
  have HA:=Lib.hid ha
  have HB:=Lib.hid hb
  have HLL:=Lib.hid hlen
  obtain ⟨n,hn⟩:∃ n,la.length = n:=⟨_,rfl⟩
  have HL:=Lib.hid hn
  rw [hn] at hlen hne ⊢
  rw [← hlen] at hne ⊢
  clear hlen hn ha hb
  go_enter Tryz.func57,Tryz.ntmps57
  go_wp2_with fail
  go_loopg [13] n (fun gf s13 wx=>∃ k:Nat,s13 = .int .i64 k ∧ (∃ q,wx = w.drewN q) ∧ Hid (∀ j,j < k → la.getD j nA = lb.getD j nA) ∧ k ≤ n ∧ n ≤ k + gf)
  case atStart=>exact ⟨0,rfl,⟨0,rfl⟩,fun j hj=>absurd hj (by omega),by omega,by omega⟩
  case round =>
   obtain ⟨k,rfl,hbw,HS,hkn,hfu⟩:=hrel
   by_cases hlt:k < n
   ·obtain ⟨g',rfl⟩:∃ g',gk = g' + 1:=⟨gk - 1,by omega⟩
    have hlt':(k:Int) < (n:Int):=by omega
    have hk0:(0:Int) ≤ k:=by omega
    have hka:k < la.length:=by rw [HL.out]; exact hlt
    have hkb:k < lb.length:=by rw [← HLL.out,HL.out]; exact hlt
    obtain ⟨_,a',cap',e1,_,hca⟩:=HA.out.below (drewn_below hbw)
    simp only [Value.slice.injEq,true_and] at e1
    obtain ⟨rfl,rfl⟩:=e1
    obtain ⟨_,b',capb',e2,_,hcb⟩:=HB.out.below (drewn_below hbw)
    simp only [Value.slice.injEq,true_and] at e2
    obtain ⟨rfl,rfl⟩:=e2
    obtain ⟨ka,oa,rfl,hca2⟩:=hca (by omega)
    obtain ⟨kb,ob,rfl,hcb2⟩:=hcb (by omega)
    obtain ⟨x0,x1,x2⟩:=hca2 k hka
    obtain ⟨y0,y1,y2⟩:=hcb2 k hkb
    rw [Nat.mul_comm 3 k] at x0 x1 x2 y0 y1 y2
    have hneq:=neA (la.getD k nA) (lb.getD k nA)
    have hg:=guardA
    unfold aV at hneq
    generalize hX:la.getD k nA = X at *
    generalize hY:lb.getD k nA = Y at *
    have HX:=Lib.hid hX
    have HY:=Lib.hid hY
    have HBW:=Lib.hid hbw
    clear hca hcb hca2 hcb2 hX hY hbw
    by_cases hxy:X = Y
    ·rw [decide_eq_true hxy] at hneq
     have HS2:Hid (∀ j,j < k + 1 → la.getD j nA = lb.getD j nA):=fun j hj=>by
      by_cases e:j = k
      ·rw [e,HX.out,HY.out]; exact hxy
      ·exact HS.out j (by omega)
     clear hxy HX HY HS
     go_wp2_with fail
     go_quiet (fail)
     have kq:=Lib.hid (drewn_more HBW.out nq)
     generalize wr.drewN nq = wd at *
     go_wp2_with fail
     go_roundg g'
     case measure=>omega
     case rel=>exact ⟨k + 1,by go_num,kq.out,HS2.out,by omega,by omega⟩
    ·rw [decide_eq_false hxy] at hneq
     have hd:decide (la = lb) = false:=decide_eq_false fun e=>hxy (by rw [← HX.out,← HY.out,e])
     have HD:=Lib.hid hd
     clear hxy HX HY HS hd
     go_wp2_with fail
     go_quiet (fail)
     have kq:=Lib.hid (drewn_more HBW.out nq)
     generalize wr.drewN nq = wd at *
     go_wp2_with fail
     go_ret
     exact ⟨by rw [HD.out]; rfl,kq.out⟩
   ·have hge:¬ (k:Int) < (n:Int):=by omega
    obtain rfl:k = n:=by omega
    have hd:decide (la = lb) = true:=decide_eq_true (same_all (z:=nA) HLL.out fun j hj=>HS.out j (by rw [← HL.out]; exact hj))
    have HD:=Lib.hid hd
    have HBW:=Lib.hid hbw
    clear hd hbw HS
    go_wp2_with fail
    go_ret
    exact ⟨by rw [HD.out]; rfl,HBW.out⟩
 ·have hne:((la.length:Int) != (lb.length:Int)) = true:=by simp; omega
  have hd:decide (la = lb) = false:=decide_eq_false fun e=>hlen (by rw [e])
  rw [hd]
  clear hd hlen ha hb
  go_enter Tryz.func57,Tryz.ntmps57
  go_wp2
  go_ret
  exact ⟨rfl,0,rfl⟩
set_option maxRecDepth 100000 in
set_option maxHeartbeats 4000000 in
theorem sameProvides_any (va vb:Value) (la lb:List Pv) (w:World) (ha:Pvs w va la) (hb:Pvs w vb lb) :
  Calls Tryz.prog 58 #[va,vb] w fun e w'=>e = .returned (.bool (decide (la = lb))) ∧ ∃ q,w' = w.drewN q:=by
 obtain ⟨aa,ca,rfl⟩:=ha.shape
 obtain ⟨ab,cb,rfl⟩:=hb.shape
 by_cases hlen:la.length = lb.length
 ·have hne:((la.length:Int) != (lb.length:Int)) = false:=by simp [hlen]
  have HA:=Lib.hid ha
  have HB:=Lib.hid hb
  have HLL:=Lib.hid hlen
  obtain ⟨n,hn⟩:∃ n,la.length = n:=⟨_,rfl⟩
  have HL:=Lib.hid hn
  rw [hn] at hlen hne ⊢
  rw [← hlen] at hne ⊢
  clear hlen hn ha hb
  go_enter Tryz.func58,Tryz.ntmps58
  go_wp2_with fail
  go_loopg [13] n (fun gf s13 wx=>∃ k:Nat,s13 = .int .i64 k ∧ (∃ q,wx = w.drewN q) ∧ Hid (∀ j,j < k → la.getD j nP = lb.getD j nP) ∧ k ≤ n ∧ n ≤ k + gf)
  case atStart=>exact ⟨0,rfl,⟨0,rfl⟩,fun j hj=>absurd hj (by omega),by omega,by omega⟩
  case round =>
   obtain ⟨k,rfl,hbw,HS,hkn,hfu⟩:=hrel
   by_cases hlt:k < n
   ·obtain ⟨g',rfl⟩:∃ g',gk = g' + 1:=⟨gk - 1,by omega⟩
    have hlt':(k:Int) < (n:Int):=by omega
    have hk0:(0:Int) ≤ k:=by omega
    have hka:k < la.length:=by rw [HL.out]; exact hlt
    have hkb:k < lb.length:=by rw [← HLL.out,HL.out]; exact hlt
    obtain ⟨_,a',cap',e1,_,hca⟩:=HA.out.below (drewn_below hbw)
    simp only [Value.slice.injEq,true_and] at e1
    obtain ⟨rfl,rfl⟩:=e1
    obtain ⟨_,b',capb',e2,_,hcb⟩:=HB.out.below (drewn_below hbw)
    simp only [Value.slice.injEq,true_and] at e2
    obtain ⟨rfl,rfl⟩:=e2
    obtain ⟨ka,oa,rfl,hca2⟩:=hca (by omega)
    obtain ⟨kb,ob,rfl,hcb2⟩:=hcb (by omega)
    obtain ⟨x0,x1⟩:=hca2 k hka
    obtain ⟨y0,y1⟩:=hcb2 k hkb
    rw [Nat.mul_comm 2 k] at x0 x1 y0 y1
    have hneq:=neP (la.getD k nP) (lb.getD k nP)
    have hg:=guardP
    unfold pV at hneq
    generalize hX:la.getD k nP = X at *
    generalize hY:lb.getD k nP = Y at *
    have HX:=Lib.hid hX
    have HY:=Lib.hid hY
    have HBW:=Lib.hid hbw
    clear hca hcb hca2 hcb2 hX hY hbw
    by_cases hxy:X = Y
    ·rw [decide_eq_true hxy] at hneq
     have HS2:Hid (∀ j,j < k + 1 → la.getD j nP = lb.getD j nP):=fun j hj=>by
      by_cases e:j = k
      ·rw [e,HX.out,HY.out]; exact hxy
      ·exact HS.out j (by omega)
     clear hxy HX HY HS
     go_wp2_with fail
     go_quiet (fail)
     have kq:=Lib.hid (drewn_more HBW.out nq)
     generalize wr.drewN nq = wd at *
     go_wp2_with fail
     go_roundg g'
     case measure=>omega
     case rel=>exact ⟨k + 1,by go_num,kq.out,HS2.out,by omega,by omega⟩
    ·rw [decide_eq_false hxy] at hneq
     have hd:decide (la = lb) = false:=decide_eq_false fun e=>hxy (by rw [← HX.out,← HY.out,e])
     have HD:=Lib.hid hd
     clear hxy HX HY HS hd
     go_wp2_with fail
     go_quiet (fail)
     have kq:=Lib.hid (drewn_more HBW.out nq)
     generalize wr.drewN nq = wd at *
     go_wp2_with fail
     go_ret
     exact ⟨by rw [HD.out]; rfl,kq.out⟩
   ·have hge:¬ (k:Int) < (n:Int):=by omega
    obtain rfl:k = n:=by omega
    have hd:decide (la = lb) = true:=decide_eq_true (same_all (z:=nP) HLL.out fun j hj=>HS.out j (by rw [← HL.out]; exact hj))
    have HD:=Lib.hid hd
    have HBW:=Lib.hid hbw
    clear hd hbw HS
    go_wp2_with fail
    go_ret
    exact ⟨by rw [HD.out]; rfl,HBW.out⟩
 ·have hne:((la.length:Int) != (lb.length:Int)) = true:=by simp; omega
  have hd:decide (la = lb) = false:=decide_eq_false fun e=>hlen (by rw [e])
  rw [hd]
  clear hd hlen ha hb
  go_enter Tryz.func58,Tryz.ntmps58
  go_wp2
  go_ret
  exact ⟨rfl,0,rfl⟩
set_option maxRecDepth 100000 in
set_option maxHeartbeats 4000000 in
theorem sameClauses_any (va vb:Value) (la lb:List (List At)) (w:World) (ha:Clss w va la) (hb:Clss w vb lb) :
  Calls Tryz.prog 56 #[va,vb] w fun e w'=>e = .returned (.bool (decide (la = lb))) ∧ ∃ q,w' = w.drewN q:=by
 obtain ⟨aa,ca,rfl⟩:=ha.shape
 obtain ⟨ab,cb,rfl⟩:=hb.shape
 by_cases hlen:la.length = lb.length
 ·have hne:((la.length:Int) != (lb.length:Int)) = false:=by simp [hlen]
  have HA:=Lib.hid ha
  have HB:=Lib.hid hb
  have HLL:=Lib.hid hlen
  obtain ⟨n,hn⟩:∃ n,la.length = n:=⟨_,rfl⟩
  have HL:=Lib.hid hn
  rw [hn] at hlen hne ⊢
  rw [← hlen] at hne ⊢
  clear hlen hn ha hb
  go_enter Tryz.func56,Tryz.ntmps56
  go_wp2_with fail
  go_loopg [13] n (fun gf s13 wx=>∃ k:Nat,s13 = .int .i64 k ∧ (∃ q,wx = w.drewN q) ∧ Hid (∀ j,j < k → la.getD j [] = lb.getD j []) ∧ k ≤ n ∧ n ≤ k + gf)
  case atStart=>exact ⟨0,rfl,⟨0,rfl⟩,fun j hj=>absurd hj (by omega),by omega,by omega⟩
  case round =>
   obtain ⟨k,rfl,hbw,HS,hkn,hfu⟩:=hrel
   by_cases hlt:k < n
   ·obtain ⟨g',rfl⟩:∃ g',gk = g' + 1:=⟨gk - 1,by omega⟩
    have hlt':(k:Int) < (n:Int):=by omega
    have hk0:(0:Int) ≤ k:=by omega
    have hka:k < la.length:=by rw [HL.out]; exact hlt
    have hkb:k < lb.length:=by rw [← HLL.out,HL.out]; exact hlt
    obtain ⟨_,a',cap',e1,_,hca⟩:=HA.out.below (drewn_below hbw)
    simp only [Value.slice.injEq,true_and] at e1
    obtain ⟨rfl,rfl⟩:=e1
    obtain ⟨_,b',capb',e2,_,hcb⟩:=HB.out.below (drewn_below hbw)
    simp only [Value.slice.injEq,true_and] at e2
    obtain ⟨rfl,rfl⟩:=e2
    obtain ⟨ka,oa,rfl,hca2⟩:=hca (by omega)
    obtain ⟨kb,ob,rfl,hcb2⟩:=hcb (by omega)
    obtain ⟨u,x0,xa⟩:=hca2 k hka
    obtain ⟨v,y0,ya⟩:=hcb2 k hkb
    rw [Nat.one_mul] at x0 y0
    have hneq:=fun m=>sameAtoms_any u v (la.getD k []) (lb.getD k []) (wr.drewN m) (xa.below (below_drewN wr m)) (ya.below (below_drewN wr m))
    obtain ⟨ua,uc,rfl⟩:=xa.shape
    obtain ⟨va,vc,rfl⟩:=ya.shape
    clear xa ya
    generalize hX:la.getD k [] = X at *
    generalize hY:lb.getD k [] = Y at *
    have HX:=Lib.hid hX
    have HY:=Lib.hid hY
    have HBW:=Lib.hid hbw
    clear hca hcb hca2 hcb2 hX hY hbw
    generalize hXl:X.length = xl at *
    generalize hYl:Y.length = yl at *
    clear hXl hYl
    by_cases hxy:X = Y
    ·rw [decide_eq_true hxy] at hneq
     have HNE:=Lib.hid hneq
     have HS2:Hid (∀ j,j < k + 1 → la.getD j [] = lb.getD j []):=fun j hj=>by
      by_cases e:j = k
      ·rw [e,HX.out,HY.out]; exact hxy
      ·exact HS.out j (by omega)
     clear hxy HX HY HS hneq
     go_wp2_with fail
     go_quiet ((with_reducible exact Calls.quiet_of (HNE.out _)))
     have kq:=Lib.hid (drewn_more HBW.out nq)
     generalize wr.drewN nq = wd at *
     go_wp2_with fail
     go_roundg g'
     case measure=>omega
     case rel=>exact ⟨k + 1,by go_num,kq.out,HS2.out,by omega,by omega⟩
    ·rw [decide_eq_false hxy] at hneq
     have HNE:=Lib.hid hneq
     have hd:decide (la = lb) = false:=decide_eq_false fun e=>hxy (by rw [← HX.out,← HY.out,e])
     have HD:=Lib.hid hd
     clear hxy HX HY HS hd hneq
     go_wp2_with fail
     go_quiet ((with_reducible exact Calls.quiet_of (HNE.out _)))
     have kq:=Lib.hid (drewn_more HBW.out nq)
     generalize wr.drewN nq = wd at *
     go_wp2_with fail
     go_ret
     exact ⟨by rw [HD.out]; rfl,kq.out⟩
   ·have hge:¬ (k:Int) < (n:Int):=by omega
    obtain rfl:k = n:=by omega
    have hd:decide (la = lb) = true:=decide_eq_true (same_all (z:=([]:List At)) HLL.out fun j hj=>HS.out j (by rw [← HL.out]; exact hj))
    have HD:=Lib.hid hd
    have HBW:=Lib.hid hbw
    clear hd hbw HS
    go_wp2_with fail
    go_ret
    exact ⟨by rw [HD.out]; rfl,HBW.out⟩
 ·have hne:((la.length:Int) != (lb.length:Int)) = true:=by simp; omega
  have hd:decide (la = lb) = false:=decide_eq_false fun e=>hlen (by rw [e])
  rw [hd]
  clear hd hlen ha hb
  go_enter Tryz.func56,Tryz.ntmps56
  go_wp2
  go_ret
  exact ⟨rfl,0,rfl⟩
end Rl
end Go.Proofs.YthmpepnikmdjpaaGreatDoor
namespace Go.Proofs.YthmpepnikmdjpaaGreatDoor
open Go.RowKit
set_option linter.unusedSimpArgs false
set_option linter.unusedVariables false
namespace Rl
open Ver (Bs li li_len li_drop S S_self S_of S_size S_li below_drewN empty_is empty_no MaxLen Signs)
def erO {α:Type}:Except Int (List α) → Int
 | .error e=>e
 | .ok _=>0
def xsO {α:Type}:Except Int (List α) → List α
 | .error _=>[]
 | .ok xs=>xs
theorem items_len {α:Type} {rd:Bs → Except Int (α × Bs)} {c:UInt8}:∀ k l xs r,items rd c k l = .ok (xs,r) → xs.length ≤ k
 | 0,l,xs,r,h=>by cases h
 | k + 1,l,xs,r,h=>by
  unfold items at h
  cases h1:rd l with
  | error e=>rw [h1] at h; cases h
  | ok p =>
   obtain ⟨x,l1⟩:=p
   rw [h1] at h
   simp only at h
   cases h2:tk c l1 with
   | none=>rw [h2] at h; cases h; simp
   | some l2 =>
    rw [h2] at h
    simp only at h
    cases h3:items rd c k l2 with
    | error e=>rw [h3] at h; cases h
    | ok q =>
     obtain ⟨ys,r3⟩:=q
     rw [h3] at h
     cases h
     have:=items_len k l2 ys _ h3
     simp; omega
theorem items_all {α:Type} {rd:Bs → Except Int (α × Bs)} {c:UInt8} (P:α → Prop) (hP:∀ l x r,rd l = .ok (x,r) → P x):∀ k l xs r,items rd c k l = .ok (xs,r) → ∀ x ∈ xs,P x
 | 0,l,xs,r,h=>by cases h
 | k + 1,l,xs,r,h=>by
  unfold items at h
  cases h1:rd l with
  | error e=>rw [h1] at h; cases h
  | ok p =>
   obtain ⟨x,l1⟩:=p
   have hx:=hP l x l1 h1
   rw [h1] at h
   simp only at h
   cases h2:tk c l1 with
   | none =>
    rw [h2] at h
    cases h
    intro y hy
    rw [List.mem_singleton.1 hy]; exact hx
   | some l2 =>
    rw [h2] at h
    simp only at h
    cases h3:items rd c k l2 with
    | error e=>rw [h3] at h; cases h
    | ok q =>
     obtain ⟨ys,r3⟩:=q
     rw [h3] at h
     cases h
     intro y hy
     rcases List.mem_cons.1 hy with rfl | hy
     ·exact hx
     ·exact items_all P hP k l2 ys _ h3 y hy
theorem whole_ok {α:Type} {rd:Bs → Except Int (α × Bs)} {s:Bs} {xs:List α} (h:whole rd s = .ok xs):xs = [] ∨ ∃ r,items rd 44 12 (skip s) = .ok (xs,r):=by
 unfold whole at h
 by_cases h0:skip s = []
 ·rw [if_pos h0] at h; cases h; exact .inl rfl
 ·rw [if_neg h0] at h
  cases h1:items rd 44 12 (skip s) with
  | error e=>rw [h1] at h; cases h
  | ok q =>
   obtain ⟨ys,r⟩:=q
   rw [h1] at h
   simp only at h
   split at h
   ·cases h; exact .inr ⟨r,rfl⟩
   ·cases h
theorem whole_len {α:Type} {rd:Bs → Except Int (α × Bs)} {s:Bs} {xs:List α} (h:whole rd s = .ok xs):xs.length ≤ 12:=by
 rcases whole_ok h with rfl | ⟨r,h1⟩
 ·simp
 ·exact items_len 12 _ _ _ h1
theorem whole_clen {s:Bs} {xs:List (List At)} (h:whole rdC s = .ok xs):∀ c ∈ xs,c.length ≤ 6:=by
 rcases whole_ok h with rfl | ⟨r,h1⟩
 ·intro c hc; cases hc
 ·exact items_all (fun c:List At=>c.length ≤ 6) (fun l x r h=>items_len 6 l x r h) 12 _ _ _ h1
def UC (w:World) (o:Except Int (List (List At))) (e:Ending) (w':World):Prop:=Below w.heap.size w w' ∧ ∃ v,e = .returned (.tuple #[v,.int .i64 (erO o)]) ∧ Clss w' v (xsO o)
def UA (w:World) (o:Except Int (List At)) (e:Ending) (w':World):Prop:=Below w.heap.size w w' ∧ ∃ v,e = .returned (.tuple #[v,.int .i64 (erO o)]) ∧ Ats w' v (xsO o)
def UP (w:World) (o:Except Int (List Pv)) (e:Ending) (w':World):Prop:=Below w.heap.size w w' ∧ ∃ v,e = .returned (.tuple #[v,.int .i64 (erO o)]) ∧ Pvs w' v (xsO o)
theorem UC.of {w w':World} {o:Except Int (List (List At))} {e:Ending} (h:WholeC w o e w') (h1:∀ xs,o = .ok xs → xs.length ≤ 12 ∧ ∀ c ∈ xs,c.length ≤ 6):UC w o e w':=by
 unfold WholeC at h
 cases o with
 | error er=>exact ⟨h.1,_,h.2,Slc.none _ _ _ _⟩
 | ok xs =>
  obtain ⟨hb,v,vs,rfl,h2,h3⟩:=h
  obtain ⟨h4,h5⟩:=h1 xs rfl
  exact ⟨hb,v,rfl,own_clss h2 h3 (show xs.length ≤ _ by omega) fun c hc=>by have:=h5 c hc; omega⟩
theorem UA.of {w w':World} {o:Except Int (List At)} {e:Ending} (h:WholeA w o e w') (h1:∀ xs,o = .ok xs → xs.length ≤ 12):UA w o e w':=by
 unfold WholeA at h
 cases o with
 | error er=>exact ⟨h.1,_,h.2,Slc.none _ _ _ _⟩
 | ok xs =>
  obtain ⟨hb,v,rfl,h2⟩:=h
  have:=h1 xs rfl
  exact ⟨hb,v,rfl,own_ats h2 (show xs.length ≤ _ by omega)⟩
theorem UP.of {w w':World} {o:Except Int (List Pv)} {e:Ending} (h:WholeP w o e w') (h1:∀ xs,o = .ok xs → xs.length ≤ 12):UP w o e w':=by
 unfold WholeP at h
 cases o with
 | error er=>exact ⟨h.1,_,h.2,Slc.none _ _ _ _⟩
 | ok xs =>
  obtain ⟨hb,v,rfl,h2⟩:=h
  have:=h1 xs rfl
  exact ⟨hb,v,rfl,own_pvs h2 (show xs.length ≤ _ by omega)⟩
section
variable (s:ByteArray) (w:World) (hs:s.size ≤ 4611686018427387904)
include hs
theorem uParse (hv:Vars w):Calls Tryz.prog 157 #[.string s] w fun e w'=>UC w (whole rdC (li s)) e w' :=
 (Parse_any s w hs hv).mono fun e w' h=>UC.of h fun xs hx=>⟨whole_len hx,whole_clen hx⟩
theorem uAtoms (hv:Vars w):Calls Tryz.prog 158 #[.string s] w fun e w'=>UA w (whole rdA (li s)) e w' :=
 (ParseAtoms_any s w hs hv).mono fun e w' h=>UA.of h fun xs hx=>whole_len hx
theorem uProvides (hv:Vars w):Calls Tryz.prog 159 #[.string s] w fun e w'=>UP w (whole rdP (li s)) e w' :=
 (ParseProvides_any s w hs hv).mono fun e w' h=>UP.of h fun xs hx=>whole_len hx
end
end Rl
end Go.Proofs.YthmpepnikmdjpaaGreatDoor
namespace Go.Proofs.YthmpepnikmdjpaaGreatDoor
open Go.RowKit
set_option linter.unusedSimpArgs false
set_option linter.unusedVariables false
namespace Txt
theorem lib_name:decide (nameOK ⟨#[108,105,98,99,54]⟩) = true:=by decide +kernel
theorem c_name:decide (nameOK ⟨#[67]⟩) = false:=by decide +kernel
theorem lit_good:good ⟨#[97,195,169,255]⟩ = 3:=by decide +kernel
end Txt
end Go.Proofs.YthmpepnikmdjpaaGreatDoor

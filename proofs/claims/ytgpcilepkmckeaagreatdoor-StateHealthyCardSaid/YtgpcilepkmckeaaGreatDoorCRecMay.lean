/-
Which items of a field, which packages may be.
-/
import Derived.Test.YtgpcilepkmckeaaGreatDoorCRecMem
import Derived.Test.YtgpcilepkmckeaaGreatDoorCVerRefParse
import Derived.Test.YtgpcilepkmckeaaGreatDoorCVerSignsK
namespace Go.Proofs.YtgpcilepkmckeaaGreatDoor
open Go.RowKit
set_option linter.unusedSimpArgs false
set_option linter.unusedVariables false
namespace Rc
open Ver (S)
open Rl (At Pv Ats Pvs LimA LimP Vars nA nP mem_getD may pvA aV pV)
theorem all_of {α:Type} {z:α} {l:List α} {p:α → Bool} (h:∀ j,j < l.length → p (l.getD j z) = true):l.all p = true:=by
 rw [List.all_eq_true]
 intro x hx
 obtain ⟨i,hi,rfl⟩:=List.mem_iff_getElem.1 hx
 have:=h i hi
 simpa [List.getD,List.getElem?_eq_getElem hi] using this
theorem all_not {α:Type} {z:α} {l:List α} {p:α → Bool} {j:Nat} (hj:j < l.length) (h:p (l.getD j z) = false):l.all p = false:=by
 cases hq:l.all p with
 | false=>rfl
 | true =>
  rw [List.all_eq_true] at hq
  rw [hq _ (mem_getD hj)] at h
  cases h
set_option maxRecDepth 100000 in
set_option maxHeartbeats 2000000 in
theorem mayItemsA_any (v:Value) (l:List At) (w:World) (h:Ats w v l) (hL:LimA l) (hv:Vars w) :
  Calls Tryz.prog 64 #[v,.func (.func 65) #[] #[]] w fun e w'=>e = .returned (.int .i64 (mayA l)) ∧ Below w.heap.size w w':=by
 obtain ⟨sa,cap,rfl⟩:=h.shape
 unfold mayA
 by_cases hmost:12 < l.length
 ·rw [if_pos hmost]
  have hm':(12:Int) < (l.length:Int):=by omega
  generalize l.length = n at *
  clear h hL hv
  go_enter Tryz.func64,Tryz.ntmps64
  go_wp2_with fail
  go_ret
  exact ⟨rfl,Below.refl _ _⟩
 ·rw [if_neg hmost]
  have hm':¬ (12:Int) < (l.length:Int):=by omega
  obtain ⟨G,hG⟩:∃ G:Int,(if l.all may = true then (0:Int) else 3) = G:=⟨_,rfl⟩
  have HG:=Lib.hid hG
  rw [hG]
  have H:=Lib.hid h
  have HL:=Lib.hid hL
  have HV:=Lib.hid hv
  clear hG h hL hv
  obtain ⟨n,hn⟩:∃ n,l.length = n:=⟨_,rfl⟩
  have HN:=Lib.hid hn
  rw [hn] at hmost hm' ⊢
  clear hn
  go_enter Tryz.func64,Tryz.ntmps64
  go_wp2_with fail
  go_loopg [12] n (fun gf s12 wx=>∃ k:Nat,s12 = .int .i64 k ∧ Below w.heap.size w wx ∧ Hid (∀ j,j < k → may (l.getD j nA) = true) ∧ k ≤ n ∧ n ≤ k + gf)
  case atStart=>exact ⟨0,rfl,Below.refl _ _,fun j hj=>absurd hj (by omega),by omega,by omega⟩
  case round =>
   obtain ⟨k,rfl,hbw,HE,hkn,hfu⟩:=hrel
   by_cases hlt:k < n
   ·obtain ⟨g',rfl⟩:∃ g',gk = g' + 1:=⟨gk - 1,by omega⟩
    have hlt':(k:Int) < (n:Int):=by omega
    have hk0:(0:Int) ≤ k:=by omega
    have hkl:k < l.length:=by rw [HN.out]; exact hlt
    obtain ⟨_,a',cap',e1,_,hcells⟩:=H.out.below hbw
    simp only [Value.slice.injEq,true_and] at e1
    obtain ⟨rfl,rfl⟩:=e1
    obtain ⟨kb,off,rfl,hcl2⟩:=hcells (by omega)
    obtain ⟨x0,x1,x2⟩:=hcl2 k hkl
    rw [Nat.mul_comm 3 k] at x0 x1 x2
    have hmem:=mem_getD (z:=nA) hkl
    have hlim:=HL.out _ hmem
    have hno:=fun h=>all_not (p:=may) (z:=nA) hkl h
    have HNO:=Lib.hid hno
    have HBW:=Lib.hid hbw
    have ca:=fun w hv=>Rl.mayAtom_any (l.getD k nA) w (by omega) (by omega) hv
    unfold aV at ca
    generalize hx:l.getD k nA = x at *
    have HX:=Lib.hid hx
    clear hcl2 hcells hbw hmem hlim hno hx
    have hb2:=(Below.refl wr.heap.size wr).alloc (Nat.le_refl _) (.cells #[.string (S x.1),.int .i64 x.2.1,.string (S x.2.2)] 56)
    have HB2:=Lib.hid (HBW.out.trans (hb2.mono HBW.out.size))
    clear hb2 HBW
    cases hw:may x with
    | false =>
     have hG:G = 3:=by rw [← HG.out,if_neg (by rw [HNO.out hw]; simp)]
     rw [hw] at ca
     subst hG
     clear HG HNO hw HL HX HE
     go_wp2_with fail
     generalize wr.alloc (.cells #[.string (S x.1),.int .i64 x.2.1,.string (S x.2.2)] 56) = W at *
     refine (ca _ (HV.out.on HB2.out)).mono ?_
     rintro e w1 ⟨rfl,k1⟩
     have hb1:=HB2.out.trans (k1.mono HB2.out.size)
     go_wp2_with fail
     go_ret
     exact ⟨rfl,hb1⟩
    | true =>
     rw [hw] at ca
     have hE2:∀ j,j < k + 1 → may (l.getD j nA) = true:=fun j hj=>by
      by_cases e:j = k
      ·rw [e,HX.out,hw]
      ·exact HE.out j (by omega)
     have HE2:=Lib.hid hE2
     clear HNO hw HL HX HE hE2
     go_wp2_with fail
     generalize wr.alloc (.cells #[.string (S x.1),.int .i64 x.2.1,.string (S x.2.2)] 56) = W at *
     refine (ca _ (HV.out.on HB2.out)).mono ?_
     rintro e w1 ⟨rfl,k1⟩
     have hb1:=HB2.out.trans (k1.mono HB2.out.size)
     clear k1 HB2 ca
     go_wp2_with fail
     go_roundg g'
     case measure=>omega
     case rel=>exact ⟨k + 1,by go_num,hb1,HE2.out,by omega,by omega⟩
   ·have hge:¬ (k:Int) < (n:Int):=by omega
    obtain rfl:k = n:=by omega
    have hG:G = 0:=by rw [← HG.out,if_pos (all_of (z:=nA) (p:=may) fun j hj=>HE.out j (by rw [← HN.out]; exact hj))]
    subst hG
    clear HG HE HL
    go_wp2_with fail
    go_ret
    exact ⟨rfl,hbw⟩
set_option maxRecDepth 100000 in
theorem isProvide_any (p:Pv) (w:World) (h1:p.1.length ≤ 4611686018427387904) (h2:p.2.length ≤ 4611686018427387904) (hv:Vars w) :
  Calls Tryz.prog 67 #[pV p] w fun e w'=>e = .returned (.bool (mayPv p)) ∧ Below w.heap.size w w':=by
 obtain ⟨n,v⟩:=p
 have ca:=fun w hv=>Rl.mayAtom_any (pvA (n,v)) w h1 h2 hv
 unfold pvA aV at ca
 unfold pV mayPv pvA
 simp only at ca h1 h2 ⊢
 have hb2:=((Below.refl w.heap.size w).alloc (Nat.le_refl _) (.cells #[.string (S n),.string (S v)] 85))
 have hc:=Blk.Is.new w 85 #[.string (S n),.string (S v)]
 have hq:(S v).toList.isEmpty = decide (v = []):=by
  rw [Rl.isEmpty_S]
  cases v <;> rfl
 obtain ⟨W,hW⟩:∃ W,w.alloc (.cells #[.string (S n),.string (S v)] 85) = W:=⟨_,rfl⟩
 rw [hW] at hb2 hc
 have c0:=hc.at (i:=0) rfl
 have c1:=hc.at (i:=1) rfl
 have hb3:=hb2.alloc hb2.size (.cells #[.string (S n),.int .i64 0,.string (S v)] 56)
 have hs3:=hb2.size
 have hc3:=Blk.Is.new W 56 #[.string (S n),.int .i64 0,.string (S v)]
 have c1':=(hc.alloc (.cells #[.string (S n),.int .i64 0,.string (S v)] 56)).at (i:=1) rfl
 obtain ⟨X,hX⟩:∃ X,W.alloc (.cells #[.string (S n),.int .i64 0,.string (S v)] 56) = X:=⟨_,rfl⟩
 rw [hX] at hb3 hc3 c1'
 have e0:=hc3.at (i:=0) rfl
 have e1:=hc3.at (i:=1) rfl
 have e2:=hc3.at (i:=2) rfl
 by_cases hz:v = []
 ·rw [if_pos hz] at ca ⊢
  rw [decide_eq_true hz] at hq
  have HV:=Lib.hid hv
  have HB:=Lib.hid hb3
  clear hz hv hb3 hb2 hc hc3
  generalize S n = N at *
  generalize S v = V at *
  go_enter Tryz.func67,Tryz.ntmps67
  go_wp2_with fail
  refine (ca _ (HV.out.on HB.out)).mono ?_
  rintro e w1 ⟨rfl,k1⟩
  have hb1:=HB.out.trans (k1.mono HB.out.size)
  go_wp2_with fail
  go_ret
  exact ⟨rfl,hb1⟩
 ·rw [if_neg hz] at ca ⊢
  rw [decide_eq_false hz] at hq
  have HV:=Lib.hid hv
  have hb4:=hb3.setCell (p:=⟨W.heap.size,1,none⟩) hs3 (.int .i64 3)
  have hc4:=hc3.set 1 (.int .i64 3)
  have f4:=hc3.free 1
  have g0:=hc4.at (i:=0) (v:=.string (S n)) rfl
  have g1:=hc4.at (i:=1) (v:=.int .i64 3) rfl
  have g2:=hc4.at (i:=2) (v:=.string (S v)) rfl
  have HB:=Lib.hid hb4
  clear hz hv hb4 hb3 hb2 hc hc3 hc4
  generalize S n = N at *
  generalize S v = V at *
  go_enter Tryz.func67,Tryz.ntmps67
  go_wp2_with fail
  refine (ca _ (HV.out.on HB.out)).mono ?_
  rintro e w1 ⟨rfl,k1⟩
  have hb1:=HB.out.trans (k1.mono HB.out.size)
  go_wp2_with fail
  go_ret
  exact ⟨rfl,hb1⟩
set_option maxRecDepth 100000 in
set_option maxHeartbeats 2000000 in
theorem mayItemsP_any (v:Value) (l:List Pv) (w:World) (h:Pvs w v l) (hL:LimP l) (hv:Vars w) :
  Calls Tryz.prog 66 #[v,.func (.func 67) #[] #[]] w fun e w'=>e = .returned (.int .i64 (mayP l)) ∧ Below w.heap.size w w':=by
 obtain ⟨sa,cap,rfl⟩:=h.shape
 unfold mayP
 by_cases hmost:12 < l.length
 ·rw [if_pos hmost]
  have hm':(12:Int) < (l.length:Int):=by omega
  generalize l.length = n at *
  clear h hL hv
  go_enter Tryz.func66,Tryz.ntmps66
  go_wp2_with fail
  go_ret
  exact ⟨rfl,Below.refl _ _⟩
 ·rw [if_neg hmost]
  have hm':¬ (12:Int) < (l.length:Int):=by omega
  obtain ⟨G,hG⟩:∃ G:Int,(if l.all mayPv = true then (0:Int) else 3) = G:=⟨_,rfl⟩
  have HG:=Lib.hid hG
  rw [hG]
  have H:=Lib.hid h
  have HL:=Lib.hid hL
  have HV:=Lib.hid hv
  clear hG h hL hv
  obtain ⟨n,hn⟩:∃ n,l.length = n:=⟨_,rfl⟩
  have HN:=Lib.hid hn
  rw [hn] at hmost hm' ⊢
  clear hn
  go_enter Tryz.func66,Tryz.ntmps66
  go_wp2_with fail
  go_loopg [12] n (fun gf s12 wx=>∃ k:Nat,s12 = .int .i64 k ∧ Below w.heap.size w wx ∧ Hid (∀ j,j < k → mayPv (l.getD j nP) = true) ∧ k ≤ n ∧ n ≤ k + gf)
  case atStart=>exact ⟨0,rfl,Below.refl _ _,fun j hj=>absurd hj (by omega),by omega,by omega⟩
  case round =>
   obtain ⟨k,rfl,hbw,HE,hkn,hfu⟩:=hrel
   by_cases hlt:k < n
   ·obtain ⟨g',rfl⟩:∃ g',gk = g' + 1:=⟨gk - 1,by omega⟩
    have hlt':(k:Int) < (n:Int):=by omega
    have hk0:(0:Int) ≤ k:=by omega
    have hkl:k < l.length:=by rw [HN.out]; exact hlt
    obtain ⟨_,a',cap',e1,_,hcells⟩:=H.out.below hbw
    simp only [Value.slice.injEq,true_and] at e1
    obtain ⟨rfl,rfl⟩:=e1
    obtain ⟨kb,off,rfl,hcl2⟩:=hcells (by omega)
    obtain ⟨x0,x1⟩:=hcl2 k hkl
    rw [Nat.mul_comm 2 k] at x0 x1
    have hmem:=mem_getD (z:=nP) hkl
    have hlim:=HL.out _ hmem
    have hno:=fun h=>all_not (p:=mayPv) (z:=nP) hkl h
    have HNO:=Lib.hid hno
    have HBW:=Lib.hid hbw
    have ca:=fun w hv=>isProvide_any (l.getD k nP) w (by omega) (by omega) hv
    unfold pV at ca
    generalize hx:l.getD k nP = x at *
    have HX:=Lib.hid hx
    clear hcl2 hcells hbw hmem hlim hno hx
    have hb2:=(Below.refl wr.heap.size wr).alloc (Nat.le_refl _) (.cells #[.string (S x.1),.string (S x.2)] 85)
    have HB2:=Lib.hid (HBW.out.trans (hb2.mono HBW.out.size))
    clear hb2 HBW
    cases hw:mayPv x with
    | false =>
     have hG:G = 3:=by rw [← HG.out,if_neg (by rw [HNO.out hw]; simp)]
     rw [hw] at ca
     subst hG
     clear HG HNO hw HL HX HE
     go_wp2_with fail
     generalize wr.alloc (.cells #[.string (S x.1),.string (S x.2)] 85) = W at *
     refine (ca _ (HV.out.on HB2.out)).mono ?_
     rintro e w1 ⟨rfl,k1⟩
     have hb1:=HB2.out.trans (k1.mono HB2.out.size)
     go_wp2_with fail
     go_ret
     exact ⟨rfl,hb1⟩
    | true =>
     rw [hw] at ca
     have hE2:∀ j,j < k + 1 → mayPv (l.getD j nP) = true:=fun j hj=>by
      by_cases e:j = k
      ·rw [e,HX.out,hw]
      ·exact HE.out j (by omega)
     have HE2:=Lib.hid hE2
     clear HNO hw HL HX HE hE2
     go_wp2_with fail
     generalize wr.alloc (.cells #[.string (S x.1),.string (S x.2)] 85) = W at *
     refine (ca _ (HV.out.on HB2.out)).mono ?_
     rintro e w1 ⟨rfl,k1⟩
     have hb1:=HB2.out.trans (k1.mono HB2.out.size)
     clear k1 HB2 ca
     go_wp2_with fail
     go_roundg g'
     case measure=>omega
     case rel=>exact ⟨k + 1,by go_num,hb1,HE2.out,by omega,by omega⟩
   ·have hge:¬ (k:Int) < (n:Int):=by omega
    obtain rfl:k = n:=by omega
    have hG:G = 0:=by rw [← HG.out,if_pos (all_of (z:=nP) (p:=mayPv) fun j hj=>HE.out j (by rw [← HN.out]; exact hj))]
    subst hG
    clear HG HE HL
    go_wp2_with fail
    go_ret
    exact ⟨rfl,hbw⟩
end Rc
end Go.Proofs.YtgpcilepkmckeaaGreatDoor

/-
Which clauses, and which packages may be. May: a whole package: may it be?
-/
import Derived.Test.YthmpepnikmdjpaaGreatDoorBRecMay
import Derived.Test.YthmpepnikmdjpaaGreatDoorBValSort
import Derived.OrdersHeld
import Derived.Deep.MidRow
import Derived.Test.YthmpepnikmdjpaaGreatDoorBRecFld
namespace Go.Proofs.YthmpepnikmdjpaaGreatDoor
open Go.RowKit
set_option linter.unusedSimpArgs false
set_option linter.unusedVariables false
namespace Rc
open Ver (Bs li li_len S S_self S_size S_li)
open Rl (At Pv Ats Pvs Clss Slc LimA LimP LimC Vars nA nP mem_getD may nmB isV pvA aV pV)
set_option maxRecDepth 100000 in
theorem lenF_any (u:Value) (c:List At) (w:World) (h:Ats w u c) :
  Calls Tryz.prog 86 #[u] w fun e w'=>e = .returned (.bool (decide (6 < c.length))) ∧ w' = w:=by
 obtain ⟨a,cap,rfl⟩:=h.shape
 generalize c.length = n at *
 clear h
 by_cases h6:6 < n
 ·have h6':(6:Int) < (n:Int):=by omega
  rw [decide_eq_true h6]
  go_enter Tryz.func86,Tryz.ntmps86
  go_wp2_with fail
  go_ret
  exact ⟨rfl,rfl⟩
 ·have h6':¬ (6:Int) < (n:Int):=by omega
  rw [decide_eq_false h6]
  go_enter Tryz.func86,Tryz.ntmps86
  go_wp2_with fail
  go_ret
  exact ⟨rfl,rfl⟩
theorem any_at {α:Type} {z:α} {l:List α} {p:α → Bool} {j:Nat} (hj:j < l.length) (h:p (l.getD j z) = true):l.any p = true:=List.any_eq_true.2 ⟨_,mem_getD hj,h⟩
theorem any_no {α:Type} {z:α} {l:List α} {p:α → Bool} (h:∀ j,j < l.length → p (l.getD j z) = false):l.any p = false:=by
 cases hq:l.any p with
 | false=>rfl
 | true =>
  obtain ⟨x,hx,hp⟩:=List.any_eq_true.1 hq
  obtain ⟨i,hi,rfl⟩:=List.mem_iff_getElem.1 hx
  have:=h i hi
  rw [List.getD_eq_getElem?_getD,List.getElem?_eq_getElem hi] at this
  simp only [Option.getD_some] at this
  rw [this] at hp
  cases hp
def longC (c:List At):Bool:=decide (6 < c.length)
set_option maxRecDepth 100000 in
set_option maxHeartbeats 2000000 in
theorem indexCl_any (v:Value) (l:List (List At)) (w:World) (h:Clss w v l) :
  Calls Tryz.prog 141 #[v,.func (.func 86) #[] #[]] w fun e w'=>∃ i:Int,e = .returned (.int .i64 i) ∧ (0 ≤ i ↔ l.any longC = true) ∧ w' = w:=by
 obtain ⟨sa,cap,rfl⟩:=h.shape
 obtain ⟨G,hG⟩:∃ G,l.any longC = G:=⟨_,rfl⟩
 have HG:=Lib.hid hG
 rw [hG]
 have H:=Lib.hid h
 obtain ⟨n,hn⟩:∃ n,l.length = n:=⟨_,rfl⟩
 have HN:=Lib.hid hn
 rw [hn]
 clear hn hG h
 go_enter Tryz.func141,Tryz.ntmps141
 go_wp2_with fail
 go_loopg [8] n (fun gf s8 wx=>∃ k:Nat,s8 = .int .i64 k ∧ wx = w ∧ Hid (∀ j,j < k → longC (l.getD j []) = false) ∧ k ≤ n ∧ n ≤ k + gf)
 case atStart=>exact ⟨0,rfl,rfl,fun j hj=>absurd hj (by omega),by omega,by omega⟩
 case round =>
  obtain ⟨k,rfl,rfl,HE,hkn,hfu⟩:=hrel
  by_cases hlt:k < n
  ·obtain ⟨g',rfl⟩:∃ g',gk = g' + 1:=⟨gk - 1,by omega⟩
   have hlt':(k:Int) < (n:Int):=by omega
   have hk0:(0:Int) ≤ k:=by omega
   have hkl:k < l.length:=by rw [HN.out]; exact hlt
   obtain ⟨_,a',cap',e1,_,hcells⟩:=H.out
   simp only [Value.slice.injEq,true_and] at e1
   obtain ⟨rfl,rfl⟩:=e1
   obtain ⟨kb,off,rfl,hcl2⟩:=hcells (by omega)
   obtain ⟨u,x0,xa⟩:=hcl2 k hkl
   rw [Nat.one_mul] at x0
   have ca:=lenF_any u _ wr xa
   have hyes:=fun h=>any_at (p:=longC) (z:=[]) hkl h
   obtain ⟨ua,uc,rfl⟩:=xa.shape
   have HY:=Lib.hid hyes
   generalize hx:l.getD k [] = x at *
   have HX:=Lib.hid hx
   have hl:longC x = decide (6 < x.length):=rfl
   rw [← hl] at ca
   generalize x.length = xl at *
   clear hcl2 hcells xa hx hyes hl
   cases hw:longC x with
   | true =>
    rw [hw] at ca
    have hG:G = true:=by rw [← HG.out]; exact HY.out hw
    subst hG
    clear HG HY HX HE hw
    go_wp2_with fail
    refine ca.mono ?_
    rintro e w1 ⟨rfl,rfl⟩
    go_wp2_with fail
    go_ret
    exact ⟨k,rfl,by simp [hk0],rfl⟩
   | false =>
    rw [hw] at ca
    have HE2:Hid (∀ j,j < k + 1 → longC (l.getD j []) = false):=fun j hj=>by
     by_cases e:j = k
     ·rw [e,HX.out,hw]
     ·exact HE.out j (by omega)
    clear HY HX HE hw
    go_wp2_with fail
    refine ca.mono ?_
    rintro e w1 ⟨rfl,rfl⟩
    clear ca
    go_wp2_with fail
    go_roundg g'
    case measure=>omega
    case rel=>exact ⟨k + 1,by go_num,rfl,HE2.out,by omega,by omega⟩
  ·have hge:¬ (k:Int) < (n:Int):=by omega
   obtain rfl:k = n:=by omega
   have hG:G = false:=by rw [← HG.out]; exact any_no (z:=[]) fun j hj=>HE.out j (by rw [← HN.out]; exact hj)
   subst hG
   clear HG HE
   go_wp2_with fail
   go_ret
   exact ⟨-1,rfl,by simp,rfl⟩
set_option maxRecDepth 100000 in
theorem containsCl_any (v:Value) (l:List (List At)) (w:World) (h:Clss w v l) :
  Calls Tryz.prog 85 #[v,.func (.func 86) #[] #[]] w fun e w'=>e = .returned (.bool (l.any longC)) ∧ w' = w:=by
 have ca:=indexCl_any v l w h
 obtain ⟨sa,cap,rfl⟩:=h.shape
 generalize l.any longC = G at *
 generalize l.length = n at *
 clear h
 go_enter Tryz.func85,Tryz.ntmps85
 go_wp2_with fail
 refine ca.mono ?_
 rintro e w1 ⟨i,rfl,hi,rfl⟩
 clear ca
 cases G with
 | true =>
  have h0:(0:Int) ≤ i:=hi.2 rfl
  clear hi
  go_wp2_with fail
  go_ret
  exact ⟨rfl,rfl⟩
 | false =>
  have h0:¬ (0:Int) ≤ i:=fun h=>by simpa using hi.1 h
  clear hi
  go_wp2_with fail
  go_ret
  exact ⟨by simp; omega,rfl⟩
def rightC (c:List At):Bool:=decide (0 < c.length) && c.all may
set_option maxRecDepth 100000 in
set_option maxHeartbeats 2000000 in
theorem isClause_any (v:Value) (l:List At) (w:World) (h:Ats w v l) (hL:LimA l) (hv:Vars w) :
  Calls Tryz.prog 88 #[v] w fun e w'=>e = .returned (.bool (rightC l)) ∧ Below w.heap.size w w':=by
 obtain ⟨sa,cap,rfl⟩:=h.shape
 obtain ⟨G,hG⟩:∃ G:Bool,rightC l = G:=⟨_,rfl⟩
 have HG:=Lib.hid hG
 rw [hG]
 have H:=Lib.hid h
 have HL:=Lib.hid hL
 have HV:=Lib.hid hv
 obtain ⟨n,hn⟩:∃ n,l.length = n:=⟨_,rfl⟩
 have HN:=Lib.hid hn
 rw [hn]
 clear hn hG h hL hv
 go_enter Tryz.func88,Tryz.ntmps88
 go_wp2_with fail
 go_loopg [7] n (fun gf s7 wx=>∃ k:Nat,s7 = .int .i64 k ∧ Below w.heap.size w wx ∧ Hid (∀ j,j < k → may (l.getD j nA) = true) ∧ k ≤ n ∧ n ≤ k + gf)
 case atStart=>exact ⟨0,rfl,Below.refl _ _,fun j hj=>absurd hj (by omega),by omega,by omega⟩
 case round =>
  obtain ⟨k,rfl,hbw,HE,hkn,hfu⟩:=hrel
  by_cases hlt:k < n
  ·obtain ⟨g',rfl⟩:∃ g',gk = g' + 1:=⟨gk - 1,by omega⟩
   have hlt':(k:Int) < (n:Int):=by omega
   have hk0:(0:Int) ≤ k:=by omega
   have hkl:k < l.length:=by rw [HN.out]; exact hlt
   obtain ⟨_,a',cap',e1,_,hcells⟩:=H.out.below hbw
   simp only [Value.slice.injEq,true_and] at e1
   obtain ⟨rfl,rfl⟩:=e1
   obtain ⟨kb,off,rfl,hcl2⟩:=hcells (by omega)
   obtain ⟨x0,x1,x2⟩:=hcl2 k hkl
   rw [Nat.mul_comm 3 k] at x0 x1 x2
   have hmem:=mem_getD (z:=nA) hkl
   have hlim:=HL.out _ hmem
   have hno:=fun h=>all_not (p:=may) (z:=nA) hkl h
   have HNO:=Lib.hid hno
   have HBW:=Lib.hid hbw
   have ca:=fun w hv=>Rl.mayAtom_any (l.getD k nA) w (by omega) (by omega) hv
   unfold aV at ca
   generalize hx:l.getD k nA = x at *
   have HX:=Lib.hid hx
   have hb2:=(Below.refl wr.heap.size wr).alloc (Nat.le_refl _) (.cells #[.string (S x.1),.int .i64 x.2.1,.string (S x.2.2)] 78)
   have HB2:=Lib.hid (HBW.out.trans (hb2.mono HBW.out.size))
   clear hb2 HBW hcl2 hcells hbw hmem hlim hno hx
   cases hw:may x with
   | false =>
    have hG:G = false:=by rw [← HG.out]; unfold rightC; rw [HNO.out hw,Bool.and_false]
    rw [hw] at ca
    subst hG
    clear HG HNO hw HL HX HE
    go_wp2_with fail
    generalize wr.alloc (.cells #[.string (S x.1),.int .i64 x.2.1,.string (S x.2.2)] 78) = W at *
    refine (ca _ (HV.out.on HB2.out)).mono ?_
    rintro e w1 ⟨rfl,k1⟩
    have hb1:=HB2.out.trans (k1.mono HB2.out.size)
    go_wp2_with fail
    go_ret
    exact ⟨rfl,hb1⟩
   | true =>
    rw [hw] at ca
    have HE2:Hid (∀ j,j < k + 1 → may (l.getD j nA) = true):=fun j hj=>by
     by_cases e:j = k
     ·rw [e,HX.out,hw]
     ·exact HE.out j (by omega)
    clear HNO hw HL HX HE
    go_wp2_with fail
    generalize wr.alloc (.cells #[.string (S x.1),.int .i64 x.2.1,.string (S x.2.2)] 78) = W at *
    refine (ca _ (HV.out.on HB2.out)).mono ?_
    rintro e w1 ⟨rfl,k1⟩
    have hb1:=HB2.out.trans (k1.mono HB2.out.size)
    clear k1 HB2 ca
    go_wp2_with fail
    go_roundg g'
    case measure=>omega
    case rel=>exact ⟨k + 1,by go_num,hb1,HE2.out,by omega,by omega⟩
  ·have hge:¬ (k:Int) < (n:Int):=by omega
   obtain rfl:k = n:=by omega
   have hA:l.all may = true:=all_of (z:=nA) (p:=may) fun j hj=>HE.out j (by rw [← HN.out]; exact hj)
   have hG:G = decide (0 < k):=by rw [← HG.out]; unfold rightC; rw [hA,HN.out,Bool.and_true]
   clear HG HE HL hA
   by_cases h0:0 < k
   ·have h0':(0:Int) < (k:Int):=by omega
    rw [decide_eq_true h0] at hG
    subst hG
    go_wp2_with fail
    go_ret
    exact ⟨rfl,hbw⟩
   ·have h0':¬ (0:Int) < (k:Int):=by omega
    rw [decide_eq_false h0] at hG
    subst hG
    go_wp2_with fail
    go_ret
    exact ⟨rfl,hbw⟩
def mayI (l:List (List At)):Int:=if 12 < l.length then 12 else if l.all rightC = true then 0 else 3
set_option maxRecDepth 100000 in
set_option maxHeartbeats 2000000 in
theorem mayItemsC_any (v:Value) (l:List (List At)) (w:World) (h:Clss w v l) (hL:LimC l) (hv:Vars w) :
  Calls Tryz.prog 87 #[v,.func (.func 88) #[] #[]] w fun e w'=>e = .returned (.int .i64 (mayI l)) ∧ Below w.heap.size w w':=by
 obtain ⟨sa,cap,rfl⟩:=h.shape
 unfold mayI
 by_cases hmost:12 < l.length
 ·rw [if_pos hmost]
  have hm':(12:Int) < (l.length:Int):=by omega
  generalize l.length = n at *
  clear h hL hv
  go_enter Tryz.func87,Tryz.ntmps87
  go_wp2_with fail
  go_ret
  exact ⟨rfl,Below.refl _ _⟩
 ·rw [if_neg hmost]
  have hm':¬ (12:Int) < (l.length:Int):=by omega
  obtain ⟨G,hG⟩:∃ G:Int,(if l.all rightC = true then (0:Int) else 3) = G:=⟨_,rfl⟩
  have HG:=Lib.hid hG
  rw [hG]
  have H:=Lib.hid h
  have HL:=Lib.hid hL
  have HV:=Lib.hid hv
  clear hG h hL hv
  obtain ⟨n,hn⟩:∃ n,l.length = n:=⟨_,rfl⟩
  have HN:=Lib.hid hn
  rw [hn] at hmost hm' ⊢
  clear hn
  go_enter Tryz.func87,Tryz.ntmps87
  go_wp2_with fail
  go_loopg [12] n (fun gf s12 wx=>∃ k:Nat,s12 = .int .i64 k ∧ Below w.heap.size w wx ∧ Hid (∀ j,j < k → rightC (l.getD j []) = true) ∧ k ≤ n ∧ n ≤ k + gf)
  case atStart=>exact ⟨0,rfl,Below.refl _ _,fun j hj=>absurd hj (by omega),by omega,by omega⟩
  case round =>
   obtain ⟨k,rfl,hbw,HE,hkn,hfu⟩:=hrel
   by_cases hlt:k < n
   ·obtain ⟨g',rfl⟩:∃ g',gk = g' + 1:=⟨gk - 1,by omega⟩
    have hlt':(k:Int) < (n:Int):=by omega
    have hk0:(0:Int) ≤ k:=by omega
    have hkl:k < l.length:=by rw [HN.out]; exact hlt
    obtain ⟨_,a',cap',e1,_,hcells⟩:=H.out.below hbw
    simp only [Value.slice.injEq,true_and] at e1
    obtain ⟨rfl,rfl⟩:=e1
    obtain ⟨kb,off,rfl,hcl2⟩:=hcells (by omega)
    obtain ⟨u,x0,xa⟩:=hcl2 k hkl
    rw [Nat.one_mul] at x0
    have hmem:=mem_getD (z:=[]) hkl
    have hlim:=HL.out _ hmem
    have hno:=fun h=>all_not (p:=rightC) (z:=[]) hkl h
    have HNO:=Lib.hid hno
    have HBW:=Lib.hid hbw
    have ca:=isClause_any u _ wr xa hlim (HV.out.on hbw)
    obtain ⟨ua,uc,rfl⟩:=xa.shape
    generalize hx:l.getD k [] = x at *
    generalize x.length = xl at *
    clear xa
    have HX:=Lib.hid hx
    clear hcl2 hcells hbw hmem hlim hno hx
    have HB2:=HBW
    clear HBW
    cases hw:rightC x with
    | false =>
     have hG:G = 3:=by rw [← HG.out,if_neg (by rw [HNO.out hw]; simp)]
     rw [hw] at ca
     subst hG
     clear HG HNO hw HL HX HE
     go_wp2_with fail
     skip
     refine ca.mono ?_
     rintro e w1 ⟨rfl,k1⟩
     have hb1:=HB2.out.trans (k1.mono HB2.out.size)
     go_wp2_with fail
     go_ret
     exact ⟨rfl,hb1⟩
    | true =>
     rw [hw] at ca
     have hE2:∀ j,j < k + 1 → rightC (l.getD j []) = true:=fun j hj=>by
      by_cases e:j = k
      ·rw [e,HX.out,hw]
      ·exact HE.out j (by omega)
     have HE2:=Lib.hid hE2
     clear HNO hw HL HX HE hE2
     go_wp2_with fail
     skip
     refine ca.mono ?_
     rintro e w1 ⟨rfl,k1⟩
     have hb1:=HB2.out.trans (k1.mono HB2.out.size)
     clear k1 HB2 ca
     go_wp2_with fail
     go_roundg g'
     case measure=>omega
     case rel=>exact ⟨k + 1,by go_num,hb1,HE2.out,by omega,by omega⟩
   ·have hge:¬ (k:Int) < (n:Int):=by omega
    obtain rfl:k = n:=by omega
    have hG:G = 0:=by rw [← HG.out,if_pos (all_of (z:=[]) (p:=rightC) fun j hj=>HE.out j (by rw [← HN.out]; exact hj))]
    subst hG
    clear HG HE HL
    go_wp2_with fail
    go_ret
    exact ⟨rfl,hbw⟩
theorem mayC_eq (l:List (List At)):mayC l = if l.any longC = true then 12 else mayI l:=rfl
set_option maxRecDepth 100000 in
theorem mayClauses_any (v:Value) (l:List (List At)) (w:World) (h:Clss w v l) (hL:LimC l) (hv:Vars w) :
  Calls Tryz.prog 41 #[v] w fun e w'=>e = .returned (.int .i64 (mayC l)) ∧ Below w.heap.size w w':=by
 rw [mayC_eq]
 have ca:=containsCl_any v l w h
 have cb:=mayItemsC_any v l w h hL hv
 obtain ⟨sa,cap,rfl⟩:=h.shape
 generalize mayI l = M at *
 generalize l.length = n at *
 clear h hL hv
 cases hG:l.any longC with
 | true =>
  rw [hG] at ca
  go_enter Tryz.func41,Tryz.ntmps41
  go_wp2_with fail
  refine ca.mono ?_
  rintro e w1 ⟨rfl,rfl⟩
  go_wp2_with fail
  go_ret
  exact ⟨rfl,Below.refl _ _⟩
 | false =>
  rw [hG] at ca
  go_enter Tryz.func41,Tryz.ntmps41
  go_wp2_with fail
  refine ca.mono ?_
  rintro e w1 ⟨rfl,rfl⟩
  clear ca
  go_wp2_with fail
  refine cb.mono ?_
  rintro e w2 ⟨rfl,k2⟩
  clear cb
  go_wp2_with fail
  go_ret
  exact ⟨rfl,k2⟩
set_option maxRecDepth 100000 in
theorem isVersion_any (v:Bs) (w:World) (hs:v.length ≤ 4611686018427387904) (hm:Ver.MaxLen w) :
  Calls Tryz.prog 39 #[.string (S v)] w fun e w'=>e = .returned (.bool (isV v)) ∧ Below w.heap.size w w':=by
 have ca:=Ver.parse_any (S v) w (by rw [S_size]; exact hs) hm
 rw [S_li] at ca
 have he:isV v = (Ver.parse v).isSome:=rfl
 rw [he]
 generalize S v = s at *
 cases hq:Ver.parse v with
 | none =>
  rw [hq] at ca
  unfold Ver.toldV at ca
  simp only [Option.isSome_none] at ca ⊢
  go_enter Tryz.func39,Tryz.ntmps39
  go_wp2_with fail
  refine ca.mono ?_
  rintro e w1 ⟨rfl,k1⟩
  clear ca
  go_wp2_with fail
  go_ret
  exact ⟨rfl,k1⟩
 | some p =>
  rw [hq] at ca
  unfold Ver.toldV at ca
  simp only [Option.isSome_some] at ca ⊢
  go_enter Tryz.func39,Tryz.ntmps39
  go_wp2_with fail
  refine ca.mono ?_
  rintro e w1 ⟨rfl,k1⟩
  clear ca
  go_wp2_with fail
  go_ret
  exact ⟨rfl,k1⟩
set_option maxRecDepth 100000 in
theorem cmpOrE_any (xs:List Int) (k:Nat) (w:World) (hl:xs.length ≤ 100) (hc:∀ i,i < xs.length → w.cell? ⟨k,i,none⟩ = some (.int .i64 (xs.getD i 0))) :
  Calls Tryz.prog 40 #[.slice (some ⟨k,0,none⟩) xs.length xs.length] w fun e w'=>e = .returned (.int .i64 (Ver.orl xs)) ∧ w' = w:=by
 obtain ⟨G,hG⟩:∃ G,Ver.orl xs = G:=⟨_,rfl⟩
 have HG:=Lib.hid hG
 have HC:=Lib.hid hc
 rw [hG]
 clear hG hc
 obtain ⟨n,hn⟩:∃ n,xs.length = n:=⟨_,rfl⟩
 have HL:=Lib.hid hn
 rw [hn] at hl ⊢
 clear hn
 go_enter Tryz.func40,Tryz.ntmps40
 go_wp2
 go_loopg [8] n (fun gf s8 wx=>∃ pos:Nat,s8 = .int .i64 pos ∧ wx = w ∧ Hid (Ver.orl (xs.drop pos) = G) ∧ n ≤ pos + gf ∧ pos ≤ n)
 case atStart=>exact ⟨0,rfl,rfl,HG.out,by omega,by omega⟩
 case round =>
  obtain ⟨pos,rfl,rfl,HN,hfu,hps⟩:=hrel
  by_cases hlt:pos < n
  ·have hlt':(pos:Int) < (n:Int):=by omega
   have hlx:pos < xs.length:=by rw [HL.out]; exact hlt
   have hcell:=HC.out pos hlx
   have hd:xs.drop pos = xs.getD pos 0 :: xs.drop (pos + 1):=by
    rw [List.drop_eq_getElem_cons hlx,List.getD_eq_getElem?_getD,List.getElem?_eq_getElem hlx]; rfl
   have hN:=HN.out
   rw [hd] at hN
   obtain ⟨x,hx⟩:∃ x,xs.getD pos 0 = x:=⟨_,rfl⟩
   rw [hx] at hN hcell
   have HN2:=Lib.hid hN
   clear hx hd hN HN
   obtain ⟨g',rfl⟩:∃ g',gk = g' + 1:=⟨gk - 1,by omega⟩
   by_cases hz:x = 0
   ·subst hz
    have HM:=Lib.hid (Ver.orr_of_zero HN2.out rfl)
    clear HN2
    go_wp2_with fail
    go_roundg g'
    case measure=>omega
    case rel=>exact ⟨pos + 1,by go_num,rfl,HM,by omega,by omega⟩
   ·obtain rfl:=Ver.orr_of_ne HN2.out hz
    clear HN2 HG
    go_wp2_with fail
    go_ret
    exact ⟨rfl,rfl⟩
  ·have hge:¬ (pos:Int) < (n:Int):=by omega
   have hG:G = 0:=by
    rw [← HN.out,List.drop_eq_nil_of_le (by rw [HL.out]; omega)]; rfl
   subst hG
   clear HN HG
   go_wp2_with fail
   go_ret
   exact ⟨rfl,rfl⟩
theorem orl_orI:∀ l:List Int,Ver.orl l = orI l
 | []=>rfl
 | x :: r=>by
  unfold Ver.orl orI
  rw [orl_orI r]; rfl
end Rc
end Go.Proofs.YthmpepnikmdjpaaGreatDoor
namespace Go.Proofs.YthmpepnikmdjpaaGreatDoor
open Go.RowKit
set_option linter.unusedSimpArgs false
set_option linter.unusedVariables false
namespace Rc
open Ver (Bs li li_len S S_self S_size S_li)
open Rl (At Pv Ats Pvs Clss Slc LimA LimP LimC Vars nA nP mem_getD may nmB isV pvA aV pV)
def orM (p:Pk):Int:=orI [mayC p.pre,mayC p.dep,mayC p.rcm,mayA p.con,mayA p.brk,mayP p.prv]
theorem mayK_eq (p:Pk):mayK p = if (nmB p.nm && isV p.vs) = true then orM p else 3:=rfl
def PkV (w:World) (v:Value) (p:Pk):Prop:=∃ u1 u2 u3 u4 u5 u6,v = .agg #[.string (S p.nm),.string (S p.vs),u1,u2,u3,u4,u5,u6,.bool p.ess] ∧ Has w p u1 u2 u3 u4 u5 u6
theorem PkV.below {w w':World} {v:Value} {p:Pk} (h:PkV w v p) (hb:Below w.heap.size w w'):PkV w' v p:=by
 obtain ⟨u1,u2,u3,u4,u5,u6,e,h1⟩:=h
 exact ⟨u1,u2,u3,u4,u5,u6,e,h1.below hb⟩
theorem PkC.val {w:World} {cs:List Value} {p:Pk} (h:PkC w cs p):PkV w (.agg cs.toArray) p:=by
 obtain ⟨u1,u2,u3,u4,u5,u6,e,h1⟩:=h
 exact ⟨u1,u2,u3,u4,u5,u6,by rw [e],h1⟩
set_option maxRecDepth 100000 in
set_option maxHeartbeats 16000000 in
theorem may_any (v:Value) (p:Pk) (w:World) (h:PkV w v p) (hL:p.Lim) (hv:Vars w) :
  Calls Tryz.prog 15 #[v] w fun e w'=>e = .returned (.int .i64 (mayK p)) ∧ Below w.heap.size w w':=by
 obtain ⟨u1,u2,u3,u4,u5,u6,rfl,h1⟩:=h
 rw [mayK_eq]
 obtain ⟨M,hM⟩:∃ M,orM p = M:=⟨_,rfl⟩
 have HM:=Lib.hid hM
 rw [hM]
 have cn:=fun w=>Rl.name_any p.nm w (by have:=hL.nm; omega)
 have cv:=fun w hm=>isVersion_any p.vs w (by have:=hL.vs; omega) hm
 have hb0:=(Below.refl w.heap.size w).alloc (Nat.le_refl _) (.cells #[.string (S p.nm),.string (S p.vs),u1,u2,u3,u4,u5,u6,.bool p.ess] 31)
 have i0:=Blk.Is.new w 31 #[.string (S p.nm),.string (S p.vs),u1,u2,u3,u4,u5,u6,.bool p.ess]
 obtain ⟨W,hW⟩:∃ W,w.alloc (.cells #[.string (S p.nm),.string (S p.vs),u1,u2,u3,u4,u5,u6,.bool p.ess] 31) = W:=⟨_,rfl⟩
 rw [hW] at hb0 i0
 have H:=Lib.hid (h1.below hb0)
 have HL:=Lib.hid hL
 have HV:=Lib.hid (hv.on hb0)
 have HB:=Lib.hid hb0
 have HI:=Lib.hid i0
 have c0:=i0.at (i:=0) rfl
 have c1:=i0.at (i:=1) rfl
 have HCV:=Lib.hid cv
 clear hM h1 hL hv hb0 i0 cv
 generalize S p.nm = N at *
 generalize hvv:S p.vs = V at *
 generalize p.ess = E at *
 clear hvv
 cases hn:nmB p.nm with
 | false =>
  rw [hn] at cn
  simp only [Bool.false_and,Bool.false_eq_true,if_false]
  clear hn HM HL HCV H
  go_enter Tryz.func15,Tryz.ntmps15
  go_wp2_with fail
  refine (cn _).mono ?_
  rintro e w1 ⟨rfl,k1⟩
  have hb1:=HB.out.trans (k1.mono HB.out.size)
  clear cn k1
  go_wp2_with fail
  go_ret
  exact ⟨rfl,hb1⟩
 | true =>
  rw [hn] at cn
  simp only [Bool.true_and]
  cases hq:isV p.vs with
  | false =>
   rw [hq] at HCV
   simp only [Bool.false_eq_true,if_false]
   clear hn hq HM HL H
   go_enter Tryz.func15,Tryz.ntmps15
   go_wp2_with fail
   refine (cn _).mono ?_
   rintro e w1 ⟨rfl,k1⟩
   have hb1:=HB.out.trans (k1.mono HB.out.size)
   have c1':=Rl.cell_on c1 k1
   have ca:=HCV.out _ (HV.out.maxLen.on k1)
   clear cn k1
   go_wp2_with fail
   refine ca.mono ?_
   rintro e w2 ⟨rfl,k2⟩
   have hb2:=hb1.trans (k2.mono hb1.size)
   clear ca k2
   go_wp2_with fail
   go_ret
   exact ⟨rfl,hb2⟩
  | true =>
   rw [hq] at HCV
   simp only [if_true]
   clear hn hq
   go_enter Tryz.func15,Tryz.ntmps15
   go_wp2_with fail
   refine (cn _).mono ?_
   rintro e w1 ⟨rfl,k1⟩
   have hb1:=HB.out.trans (k1.mono HB.out.size)
   have c1':=Rl.cell_on c1 k1
   have ca:=HCV.out _ (HV.out.maxLen.on k1)
   have K1:=Lib.hid k1
   clear cn k1
   go_wp2_with fail
   refine ca.mono ?_
   rintro e w2 ⟨rfl,k2⟩
   have hb2:=hb1.trans (k2.mono hb1.size)
   have k12:=K1.out.trans (k2.mono K1.out.size)
   have HV2:=Lib.hid (HV.out.on k12)
   have H2:=Lib.hid (H.out.below k12)
   have i2:=Rl.is_on HI.out k12
   have HB2:=Lib.hid hb2
   clear ca k2 c0 c1 c1' hb1 hb2 k12 K1 HCV
   have L2:∀ u,Below w2.heap.size w2 u → u.cell? ⟨w.heap.size,2,none⟩ = some u1:=fun u hu=>Rl.cell_on (i2.at (i:=2) rfl) hu
   have L3:∀ u,Below w2.heap.size w2 u → u.cell? ⟨w.heap.size,3,none⟩ = some u2:=fun u hu=>Rl.cell_on (i2.at (i:=3) rfl) hu
   have L4:∀ u,Below w2.heap.size w2 u → u.cell? ⟨w.heap.size,4,none⟩ = some u3:=fun u hu=>Rl.cell_on (i2.at (i:=4) rfl) hu
   have L5:∀ u,Below w2.heap.size w2 u → u.cell? ⟨w.heap.size,5,none⟩ = some u4:=fun u hu=>Rl.cell_on (i2.at (i:=5) rfl) hu
   have L6:∀ u,Below w2.heap.size w2 u → u.cell? ⟨w.heap.size,6,none⟩ = some u5:=fun u hu=>Rl.cell_on (i2.at (i:=6) rfl) hu
   have L7:∀ u,Below w2.heap.size w2 u → u.cell? ⟨w.heap.size,7,none⟩ = some u6:=fun u hu=>Rl.cell_on (i2.at (i:=7) rfl) hu
   clear i2
   have HL2:=Lib.hid L2
   have HL3:=Lib.hid L3
   have HL4:=Lib.hid L4
   have HL5:=Lib.hid L5
   have HL6:=Lib.hid L6
   have HL7:=Lib.hid L7
   clear L2 L3 L4 L5 L6 L7
   go_wp2_with fail
   refine wp_region_held (S:=fun u=>Below w2.heap.size w2 u) (by kernel_rfl) ?_
   have hS0:Below w2.heap.size w2 w2.drew:=(Below.refl _ _).drew
   change wpAnyH _ _ _ _ _ 21 _ _ w2.drew
   generalize w2.drew = u0 at *
   refine wpAnyH_take (i:=0) (v:=.pointer (some ⟨w.heap.size,2,none⟩)) rfl (by kernel_rfl) (by kernel_rfl) (by kernel_rfl) (fun _ _ _ h=>h) (.inl ⟨rfl,fun w _=>rfl⟩) hS0 ?_
   simp only [Act.put,List.getElem_toArray,List.getElem_cons_zero,List.getElem_cons_succ,List.setIfInBounds_toArray,List.set_cons_zero,List.set_cons_succ]
   refine wpAnyH_take (i:=1) (v:=u1) rfl (by kernel_rfl) (by kernel_rfl) (by kernel_rfl) (fun _ _ _ h=>h) (Held.load1 rfl 27 (.tmp 13) rfl w.heap.size 2 rfl _ _ HL2.out Tryz.underlying27 rfl) hS0 ?_
   simp only [Act.put,List.getElem_toArray,List.getElem_cons_zero,List.getElem_cons_succ,List.setIfInBounds_toArray,List.set_cons_zero,List.set_cons_succ]
   refine wpAnyH_take (i:=3) (v:=.pointer (some ⟨w.heap.size,3,none⟩)) rfl (by kernel_rfl) (by kernel_rfl) (by kernel_rfl) (fun _ _ _ h=>h) (.inl ⟨rfl,fun w _=>rfl⟩) hS0 ?_
   simp only [Act.put,List.getElem_toArray,List.getElem_cons_zero,List.getElem_cons_succ,List.setIfInBounds_toArray,List.set_cons_zero,List.set_cons_succ]
   refine wpAnyH_take (i:=4) (v:=u2) rfl (by kernel_rfl) (by kernel_rfl) (by kernel_rfl) (fun _ _ _ h=>h) (Held.load1 rfl 27 (.tmp 16) rfl w.heap.size 3 rfl _ _ HL3.out Tryz.underlying27 rfl) hS0 ?_
   simp only [Act.put,List.getElem_toArray,List.getElem_cons_zero,List.getElem_cons_succ,List.setIfInBounds_toArray,List.set_cons_zero,List.set_cons_succ]
   refine wpAnyH_take (i:=6) (v:=.pointer (some ⟨w.heap.size,4,none⟩)) rfl (by kernel_rfl) (by kernel_rfl) (by kernel_rfl) (fun _ _ _ h=>h) (.inl ⟨rfl,fun w _=>rfl⟩) hS0 ?_
   simp only [Act.put,List.getElem_toArray,List.getElem_cons_zero,List.getElem_cons_succ,List.setIfInBounds_toArray,List.set_cons_zero,List.set_cons_succ]
   refine wpAnyH_take (i:=7) (v:=u3) rfl (by kernel_rfl) (by kernel_rfl) (by kernel_rfl) (fun _ _ _ h=>h) (Held.load1 rfl 27 (.tmp 19) rfl w.heap.size 4 rfl _ _ HL4.out Tryz.underlying27 rfl) hS0 ?_
   simp only [Act.put,List.getElem_toArray,List.getElem_cons_zero,List.getElem_cons_succ,List.setIfInBounds_toArray,List.set_cons_zero,List.set_cons_succ]
   refine wpAnyH_take (i:=9) (v:=.pointer (some ⟨w.heap.size,5,none⟩)) rfl (by kernel_rfl) (by kernel_rfl) (by kernel_rfl) (fun _ _ _ h=>h) (.inl ⟨rfl,fun w _=>rfl⟩) hS0 ?_
   simp only [Act.put,List.getElem_toArray,List.getElem_cons_zero,List.getElem_cons_succ,List.setIfInBounds_toArray,List.set_cons_zero,List.set_cons_succ]
   refine wpAnyH_take (i:=10) (v:=u4) rfl (by kernel_rfl) (by kernel_rfl) (by kernel_rfl) (fun _ _ _ h=>h) (Held.load1 rfl 28 (.tmp 22) rfl w.heap.size 5 rfl _ _ HL5.out Tryz.underlying28 rfl) hS0 ?_
   simp only [Act.put,List.getElem_toArray,List.getElem_cons_zero,List.getElem_cons_succ,List.setIfInBounds_toArray,List.set_cons_zero,List.set_cons_succ]
   refine wpAnyH_take (i:=12) (v:=.pointer (some ⟨w.heap.size,6,none⟩)) rfl (by kernel_rfl) (by kernel_rfl) (by kernel_rfl) (fun _ _ _ h=>h) (.inl ⟨rfl,fun w _=>rfl⟩) hS0 ?_
   simp only [Act.put,List.getElem_toArray,List.getElem_cons_zero,List.getElem_cons_succ,List.setIfInBounds_toArray,List.set_cons_zero,List.set_cons_succ]
   refine wpAnyH_take (i:=13) (v:=u5) rfl (by kernel_rfl) (by kernel_rfl) (by kernel_rfl) (fun _ _ _ h=>h) (Held.load1 rfl 28 (.tmp 25) rfl w.heap.size 6 rfl _ _ HL6.out Tryz.underlying28 rfl) hS0 ?_
   simp only [Act.put,List.getElem_toArray,List.getElem_cons_zero,List.getElem_cons_succ,List.setIfInBounds_toArray,List.set_cons_zero,List.set_cons_succ]
   refine wpAnyH_take (i:=15) (v:=.pointer (some ⟨w.heap.size,7,none⟩)) rfl (by kernel_rfl) (by kernel_rfl) (by kernel_rfl) (fun _ _ _ h=>h) (.inl ⟨rfl,fun w _=>rfl⟩) hS0 ?_
   simp only [Act.put,List.getElem_toArray,List.getElem_cons_zero,List.getElem_cons_succ,List.setIfInBounds_toArray,List.set_cons_zero,List.set_cons_succ]
   refine wpAnyH_take (i:=16) (v:=u6) rfl (by kernel_rfl) (by kernel_rfl) (by kernel_rfl) (fun _ _ _ h=>h) (Held.load1 rfl 29 (.tmp 28) rfl w.heap.size 7 rfl _ _ HL7.out Tryz.underlying29 rfl) hS0 ?_
   simp only [Act.put,List.getElem_toArray,List.getElem_cons_zero,List.getElem_cons_succ,List.setIfInBounds_toArray,List.set_cons_zero,List.set_cons_succ]
   have cx:=mayClauses_any _ p.pre u0 (H2.out.pre.below hS0) HL.out.pre (HV2.out.on hS0)
   refine wpAnyH_all (rs:=[2]) (by kernel_rfl) (by simp) ?_
   intro i hi
   obtain rfl:=List.mem_singleton.1 hi
   refine Reg.wpOp_list rfl ?_
   go_wp2_with fail
   refine cx.mono ?_
   rintro e u1 ⟨rfl,k1⟩
   go_wp2_with fail
   change _ ∧ _
   have hS1:Below w2.heap.size w2 u1:=hS0.trans (k1.mono hS0.size)
   refine ⟨hS1,?_⟩
   clear cx
   have cx:=mayClauses_any _ p.dep u1 (H2.out.dep.below hS1) HL.out.dep (HV2.out.on hS1)
   refine wpAnyH_all (rs:=[5]) (by kernel_rfl) (by simp) ?_
   intro i hi
   obtain rfl:=List.mem_singleton.1 hi
   refine Reg.wpOp_list rfl ?_
   go_wp2_with fail
   refine cx.mono ?_
   rintro e u2 ⟨rfl,k2⟩
   go_wp2_with fail
   change _ ∧ _
   have hS2:Below w2.heap.size w2 u2:=hS1.trans (k2.mono hS1.size)
   refine ⟨hS2,?_⟩
   clear cx
   have cx:=mayClauses_any _ p.rcm u2 (H2.out.rcm.below hS2) HL.out.rcm (HV2.out.on hS2)
   refine wpAnyH_all (rs:=[8]) (by kernel_rfl) (by simp) ?_
   intro i hi
   obtain rfl:=List.mem_singleton.1 hi
   refine Reg.wpOp_list rfl ?_
   go_wp2_with fail
   refine cx.mono ?_
   rintro e u3 ⟨rfl,k3⟩
   go_wp2_with fail
   change _ ∧ _
   have hS3:Below w2.heap.size w2 u3:=hS2.trans (k3.mono hS2.size)
   refine ⟨hS3,?_⟩
   clear cx
   have cx:=mayItemsA_any _ p.con u3 (H2.out.con.below hS3) HL.out.con (HV2.out.on hS3)
   refine wpAnyH_all (rs:=[11]) (by kernel_rfl) (by simp) ?_
   intro i hi
   obtain rfl:=List.mem_singleton.1 hi
   refine Reg.wpOp_list rfl ?_
   go_wp2_with fail
   refine cx.mono ?_
   rintro e u4 ⟨rfl,k4⟩
   go_wp2_with fail
   change _ ∧ _
   have hS4:Below w2.heap.size w2 u4:=hS3.trans (k4.mono hS3.size)
   refine ⟨hS4,?_⟩
   clear cx
   have cx:=mayItemsA_any _ p.brk u4 (H2.out.brk.below hS4) HL.out.brk (HV2.out.on hS4)
   refine wpAnyH_all (rs:=[14]) (by kernel_rfl) (by simp) ?_
   intro i hi
   obtain rfl:=List.mem_singleton.1 hi
   refine Reg.wpOp_list rfl ?_
   go_wp2_with fail
   refine cx.mono ?_
   rintro e u5 ⟨rfl,k5⟩
   go_wp2_with fail
   change _ ∧ _
   have hS5:Below w2.heap.size w2 u5:=hS4.trans (k5.mono hS4.size)
   refine ⟨hS5,?_⟩
   clear cx
   have cx:=mayItemsP_any _ p.prv u5 (H2.out.prv.below hS5) HL.out.prv (HV2.out.on hS5)
   refine wpAnyH_all (rs:=[17]) (by kernel_rfl) (by simp) ?_
   intro i hi
   obtain rfl:=List.mem_singleton.1 hi
   refine Reg.wpOp_list rfl ?_
   go_wp2_with fail
   refine cx.mono ?_
   rintro e u6 ⟨rfl,k6⟩
   go_wp2_with fail
   change _ ∧ _
   have hS6:Below w2.heap.size w2 u6:=hS5.trans (k6.mono hS5.size)
   refine ⟨hS6,?_⟩
   clear cx
   have HO:Hid (orI [mayC p.pre,mayC p.dep,mayC p.rcm,mayA p.con,mayA p.brk,mayP p.prv] = M):=HM.out
   generalize mayC p.pre = m1 at *
   generalize mayC p.dep = m2 at *
   generalize mayC p.rcm = m3 at *
   generalize mayA p.con = m4 at *
   generalize mayA p.brk = m5 at *
   generalize mayP p.prv = m6 at *
   have hSL:Below u6.heap.size u6 (u6.alloc (.cells #[.int .i64 m1,.int .i64 m2,.int .i64 m3,.int .i64 m4,.int .i64 m5,.int .i64 m6] 32)):=(Below.refl _ _).alloc (Nat.le_refl _) _
   have iSL:=Blk.Is.new u6 32 #[.int .i64 m1,.int .i64 m2,.int .i64 m3,.int .i64 m4,.int .i64 m5,.int .i64 m6]
   have hS7:=hS6.trans (hSL.mono hS6.size)
   refine wpAnyH_all (rs:=[18]) (by kernel_rfl) (by simp) ?_
   intro i hi
   obtain rfl:=List.mem_singleton.1 hi
   refine Reg.wpOp_list rfl ?_
   go_wp2_with fail
   change _ ∧ _
   refine ⟨hS7,?_⟩
   have cx:=cmpOrE_any [m1,m2,m3,m4,m5,m6] u6.heap.size _ (by simp) (fun i hi=>by
    match i,hi with
    | 0,_=>exact iSL.at (i:=0) rfl
    | 1,_=>exact iSL.at (i:=1) rfl
    | 2,_=>exact iSL.at (i:=2) rfl
    | 3,_=>exact iSL.at (i:=3) rfl
    | 4,_=>exact iSL.at (i:=4) rfl
    | 5,_=>exact iSL.at (i:=5) rfl)
   rw [orl_orI,HO.out] at cx
   clear iSL hSL
   generalize (u6.alloc (.cells #[.int .i64 m1,.int .i64 m2,.int .i64 m3,.int .i64 m4,.int .i64 m5,.int .i64 m6] 32)) = u7 at *
   refine wpAnyH_all (rs:=[19]) (by kernel_rfl) (by simp) ?_
   intro i hi
   obtain rfl:=List.mem_singleton.1 hi
   refine Reg.wpOp_list rfl ?_
   go_wp2_with fail
   refine cx.mono ?_
   rintro e u8 ⟨rfl,rfl⟩
   go_wp2_with fail
   change _ ∧ _
   refine ⟨hS7,?_⟩
   clear cx
   refine wpAnyH_all (rs:=[20]) (by kernel_rfl) (by simp) ?_
   intro i hi
   obtain rfl:=List.mem_singleton.1 hi
   refine Reg.wpOp_list rfl ?_
   go_wp2_with fail
   change _ ∧ _
   refine ⟨hS7,?_⟩
   refine wpAnyH_done (by kernel_rfl) ?_ _
   have hK:=HB2.out.trans (hS7.mono HB2.out.size)
   go_wp2_with fail
   go_ret
   exact ⟨rfl,hK⟩
end Rc
end Go.Proofs.YthmpepnikmdjpaaGreatDoor

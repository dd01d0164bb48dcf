/-
What is light: the law's measure of packages. The packages that every program must know: in memory, in order. What every program must know of an index: the law's awake.
-/
import Derived.Test.YtelofmeapplfpaaGreatDoorDIxDef
import Derived.Test.YtelofmeapplfpaaGreatDoorDRecMay3
import Derived.Test.YtelofmeapplfpaaGreatDoorDIxUniq
import Derived.Test.YtelofmeapplfpaaGreatDoorDIxMeets
import Derived.Test.YtelofmeapplfpaaGreatDoorDIxNew
namespace Go.Proofs.YtelofmeapplfpaaGreatDoor
open Go.RowKit
set_option linter.unusedSimpArgs false
set_option linter.unusedVariables false
namespace Rc
open Ver (Bs li li_len S S_self S_size S_li sameV)
open Rl (At Pv Ats Pvs Clss Slc LimA LimP LimC Vars nA nP mem_getD may nmB isV pvA aV pV tcells)
def lightL (l:List (List At)):Bool:=decide (l.length ≤ 30) && l.all fun c=>decide (c.length ≤ 30)
def three (p:Pk):List (List (List At)):=[p.pre,p.dep,p.rcm]
def lightP (p:Pk):Bool:=decide (p.con.length + p.brk.length + p.prv.length ≤ 60) && (three p).all lightL
def lightB (l:List Pk):Bool:=decide (l.length ≤ 40) && l.all lightP
theorem all_no {α:Type} {f:α → Bool} {l:List α} {z:α} {k:Nat} (hk:k < l.length) (h:f (l.getD k z) = false):l.all f = false:=by
 rw [Bool.eq_false_iff]
 intro ha
 have:=List.all_eq_true.1 ha _ (mem_getD (z:=z) hk)
 rw [h] at this
 cases this
theorem all_yes {α:Type} {f:α → Bool} {l:List α} {z:α} (h:∀ k,k < l.length → f (l.getD k z) = true):l.all f = true:=by
 refine List.all_eq_true.2 fun x hx=>?_
 obtain ⟨i,hi,rfl⟩:=List.mem_iff_getElem.1 hx
 have:=h i hi
 rwa [List.getD_eq_getElem?_getD,List.getElem?_eq_getElem hi] at this
theorem light_no {l:List Pk} {k:Nat} (hk:k < l.length) (h:lightP (l.getD k nPk) = false):lightB l = false:=by
 unfold lightB
 rw [all_no hk h,Bool.and_false]
theorem light_many {l:List Pk} (h:40 < l.length):lightB l = false:=by
 unfold lightB
 rw [decide_eq_false (by omega),Bool.false_and]
theorem light_yes {l:List Pk} (h:l.length ≤ 40) (ha:∀ k,k < l.length → lightP (l.getD k nPk) = true):lightB l = true:=by
 unfold lightB
 rw [decide_eq_true h,all_yes ha]; rfl
theorem three_no {p:Pk} {i:Nat} (hi:i < 3) (h:lightL ((three p).getD i []) = false):lightP p = false:=by
 unfold lightP
 rw [all_no (l:=three p) (z:=[]) (k:=i) hi h,Bool.and_false]
theorem sum_no {p:Pk} (h:60 < p.con.length + p.brk.length + p.prv.length):lightP p = false:=by
 unfold lightP
 rw [decide_eq_false (by omega),Bool.false_and]
theorem pk_yes {p:Pk} (h:p.con.length + p.brk.length + p.prv.length ≤ 60) (ha:∀ i,i < 3 → lightL ((three p).getD i []) = true):lightP p = true:=by
 unfold lightP
 rw [decide_eq_true h,all_yes (z:=[]) (fun k hk=>ha k hk)]; rfl
theorem list_long {l:List (List At)} (h:30 < l.length):lightL l = false:=by
 unfold lightL
 rw [decide_eq_false (by omega),Bool.false_and]
theorem list_no {l:List (List At)} {k:Nat} (hk:k < l.length) (h:30 < (l.getD k []).length):lightL l = false:=by
 unfold lightL
 rw [all_no (z:=[]) hk (decide_eq_false (by omega)),Bool.and_false]
theorem list_yes {l:List (List At)} (h:l.length ≤ 30) (ha:∀ k,k < l.length → (l.getD k []).length ≤ 30):lightL l = true:=by
 unfold lightL
 rw [decide_eq_true h,all_yes (z:=[]) (fun k hk=>decide_eq_true (ha k hk))]; rfl
theorem index_three (cs:Array Value) (j:Nat) (hj:j < 3) (v:Value) (hv:cs[j]? = some v) (w:World):(Instr.index 66 (.agg cs) (.int .i64 j)).run Tryz.prog w = .ok v w :=
 Held.run_index_one (e:=22) (n:=3) (by kernel_rfl) Tryz.underlying22 rfl (by kernel_rfl) hj hv w
set_option maxRecDepth 100000 in
set_option maxHeartbeats 8000000 in
theorem light_any (v:Value) (l:List Pk) (w:World) (h:Pks w v l) :
  Calls Tryz.prog 10 #[v] w fun e w'=>e = .returned (.bool (lightB l)) ∧ Below w.heap.size w w':=by
 obtain ⟨sa,cap,rfl⟩:=h.shape
 have H:=Lib.hid h
 have hn0:=h.1
 obtain ⟨n,hn⟩:∃ n,l.length = n:=⟨_,rfl⟩
 have HN:=Lib.hid hn
 rw [hn] at hn0 ⊢
 obtain ⟨G,hG⟩:∃ G,lightB l = G:=⟨_,rfl⟩
 have HG:=Lib.hid hG
 rw [hG]
 clear hn hG h
 go_enter Tryz.func10,Tryz.ntmps10
 go_wp2_with fail
 go_loopg [11] n (fun gf s1 wx=>∃ k:Nat,s1 = .int .i64 k ∧ Below w.heap.size w wx ∧ Hid (∀ j,j < k → lightP (l.getD j nPk) = true) ∧ k ≤ 40 ∧ k ≤ n ∧ n ≤ k + gf)
 case atStart=>exact ⟨0,rfl,Below.refl _ _,Lib.hid (fun j hj=>absurd hj (by omega)),by omega,by omega,by omega⟩
 case round =>
  obtain ⟨k,rfl,hbw,HP,hk40,hkn,hfu⟩:=hrel
  by_cases hlt:k < n
  ·obtain ⟨g',rfl⟩:∃ g',gk = g' + 1:=⟨gk - 1,by omega⟩
   have hlt':(k:Int) < (n:Int):=by omega
   have hk0:(0:Int) ≤ k:=by omega
   have hkl:k < l.length:=by rw [HN.out]; exact hlt
   obtain ⟨_,a',cap',e1,_,hcells⟩:=H.out.below hbw
   simp only [Value.slice.injEq,true_and] at e1
   obtain ⟨rfl,rfl⟩:=e1
   obtain ⟨kb,off,rfl,hcl2⟩:=hcells (by omega)
   obtain ⟨a1,n1,c1,a2,n2,c2,a3,n3,c3,a4,n4,c4,a5,n5,c5,a6,n6,c6,⟨x0,x1,x2,x3,x4,x5,x6,x7,x8⟩,hh⟩:=pk_read (hcl2 k hkl)
   rw [Nat.mul_comm 9 k] at x0 x1 x2 x3 x4 x5 x6 x7 x8
   have HKL:=Lib.hid hkl
   obtain ⟨_,_,e1⟩:=hh.pre.shape
   obtain ⟨_,_,e2⟩:=hh.dep.shape
   obtain ⟨_,_,e3⟩:=hh.rcm.shape
   obtain ⟨_,_,e4⟩:=hh.con.shape
   obtain ⟨_,_,e5⟩:=hh.brk.shape
   obtain ⟨_,_,e6⟩:=hh.prv.shape
   have l4:=hh.con.1
   have l5:=hh.brk.1
   have l6:=hh.prv.1
   simp only [Value.slice.injEq] at e1 e2 e3 e4 e5 e6
   rw [← e4.2.1] at l4
   rw [← e5.2.1] at l5
   rw [← e6.2.1] at l6
   generalize hx:l.getD k nPk = x at *
   have HX:=Lib.hid hx
   have HL:=Lib.hid (⟨e1.2.1,e2.2.1,e3.2.1,e4.2.1,e5.2.1,e6.2.1⟩:n1 = _ ∧ n2 = _ ∧ n3 = _ ∧ n4 = _ ∧ n5 = _ ∧ n6 = _)
   have hb2:=(Below.refl wr.heap.size wr).alloc (Nat.le_refl _) (.cells #[.string (S x.nm),.string (S x.vs),.slice a1 n1 c1,.slice a2 n2 c2,.slice a3 n3 c3,.slice a4 n4 c4,.slice a5 n5 c5,.slice a6 n6 c6,.bool x.ess] 26)
   have i2:=Blk.Is.new wr 26 #[.string (S x.nm),.string (S x.vs),.slice a1 n1 c1,.slice a2 n2 c2,.slice a3 n3 c3,.slice a4 n4 c4,.slice a5 n5 c5,.slice a6 n6 c6,.bool x.ess]
   have hh2:=hh.below hb2
   have HB2:=Lib.hid (hbw.trans (hb2.mono hbw.size))
   obtain ⟨bx,hbx⟩:∃ bx,wr.heap.size = bx:=⟨_,rfl⟩
   obtain ⟨W,hW⟩:∃ W,wr.alloc (.cells #[.string (S x.nm),.string (S x.vs),.slice a1 n1 c1,.slice a2 n2 c2,.slice a3 n3 c3,.slice a4 n4 c4,.slice a5 n5 c5,.slice a6 n6 c6,.bool x.ess] 26) = W:=⟨_,rfl⟩
   rw [hW] at hh2 i2 HB2
   rw [hbx] at i2
   have y2:W.cell? ⟨bx,2,none⟩ = some (.slice a1 n1 c1):=i2.at (i:=2) rfl
   have y3:W.cell? ⟨bx,3,none⟩ = some (.slice a2 n2 c2):=i2.at (i:=3) rfl
   have y4:W.cell? ⟨bx,4,none⟩ = some (.slice a3 n3 c3):=i2.at (i:=4) rfl
   have y5:W.cell? ⟨bx,5,none⟩ = some (.slice a4 n4 c4):=i2.at (i:=5) rfl
   have y6:W.cell? ⟨bx,6,none⟩ = some (.slice a5 n5 c5):=i2.at (i:=6) rfl
   have y7:W.cell? ⟨bx,7,none⟩ = some (.slice a6 n6 c6):=i2.at (i:=7) rfl
   have HH:=Lib.hid hh2
   clear hcells hcl2 hx hh hh2 hb2 i2 e1 e2 e3 e4 e5 e6 hbw hkl
   by_cases h40:40 ≤ k
   ·have h40':(40:Int) ≤ k:=by omega
    have hG:G = false:=by rw [← HG.out]; exact light_many (by rw [HN.out]; omega)
    subst hG
    clear HG
    go_wp2_with fail
    go_ret
    exact ⟨rfl,HB2.out⟩
   ·have h40':¬ (40:Int) ≤ k:=by omega
    by_cases h60:60 < n4 + n5 + n6
    ·have h60':(60:Int) < (n4:Int) + (n5:Int) + (n6:Int):=by omega
     have hG:G = false:=by
      rw [← HG.out]
      refine light_no HKL.out ?_
      rw [HX.out]
      have:=HL.out
      exact sum_no (by omega)
     subst hG
     clear HG
     go_wp2_with fail
     go_ret
     exact ⟨rfl,HB2.out⟩
    ·have h60':¬ (60:Int) < (n4:Int) + (n5:Int) + (n6:Int):=by omega
     go_wp2_with fail
     clear y5 y6 y7 l4 l5 l6
     go_loopg [39] 3 (fun gf s3 wx=>∃ i:Nat,s3 = .int .i64 i ∧ W = wx ∧ Hid (∀ j,j < i → lightL ((three x).getD j []) = true) ∧ i ≤ 3 ∧ 3 ≤ i + gf)
     case atStart=>exact ⟨0,rfl,rfl,Lib.hid (fun j hj=>absurd hj (by omega)),by omega,by omega⟩
     case round =>
      obtain ⟨i,rfl,rfl,HQ,hi3,hfu2⟩:=hrel
      by_cases hi:i < 3
      ·obtain ⟨g2,rfl⟩:∃ g2,gk = g2 + 1:=⟨gk - 1,by omega⟩
       have hi':(i:Int) < 3:=by omega
       obtain ⟨xa,xm,xc,hv,hcl⟩:∃ xa xm xc,(#[.slice a1 n1 c1,.slice a2 n2 c2,.slice a3 n3 c3]:Array Value)[i]? = some (.slice xa xm xc) ∧ Clss W (.slice xa xm xc) ((three x).getD i []):=by
        match i,hi with
        | 0,_=>exact ⟨_,_,_,rfl,HH.out.pre⟩
        | 1,_=>exact ⟨_,_,_,rfl,HH.out.dep⟩
        | 2,_=>exact ⟨_,_,_,rfl,HH.out.rcm⟩
       have hidx:=fun w=>index_three #[.slice a1 n1 c1,.slice a2 n2 c2,.slice a3 n3 c3] i hi _ hv w
       obtain ⟨cl,hcl0⟩:∃ cl,(three x).getD i [] = cl:=⟨_,rfl⟩
       rw [hcl0] at hcl
       have HCL:=Lib.hid hcl0
       obtain ⟨_,_,em⟩:=hcl.shape
       simp only [Value.slice.injEq] at em
       have hm0:=hcl.1
       rw [← em.2.1] at hm0
       have HM:=Lib.hid em.2.1
       have HC:=Lib.hid hcl
       clear hcl hcl0 em hv
       by_cases h30:30 < xm
       ·have h30':(30:Int) < (xm:Int):=by omega
        have hG:G = false:=by
         rw [← HG.out]
         refine light_no HKL.out ?_
         rw [HX.out]
         refine three_no hi ?_
         rw [HCL.out]
         exact list_long (by rw [← HM.out]; exact h30)
        subst hG
        clear HG
        go_wp2_with fail
        go_ret
        exact ⟨rfl,HB2.out⟩
       ·have h30':¬ (30:Int) < (xm:Int):=by omega
        go_wp2_with fail
        go_loopg [47] xm (fun gf s4 wx=>∃ q:Nat,s4 = .int .i64 q ∧ W = wx ∧ Hid (∀ j,j < q → (cl.getD j []).length ≤ 30) ∧ q ≤ xm ∧ xm ≤ q + gf)
        case atStart=>exact ⟨0,rfl,rfl,Lib.hid (fun j hj=>absurd hj (by omega)),by omega,by omega⟩
        case round =>
         obtain ⟨q,rfl,rfl,HR,hqm,hfu3⟩:=hrel
         by_cases hq:q < xm
         ·obtain ⟨g3,rfl⟩:∃ g3,gk = g3 + 1:=⟨gk - 1,by omega⟩
          have hq':(q:Int) < (xm:Int):=by omega
          have hq0:(0:Int) ≤ q:=by omega
          have hql:q < cl.length:=by rw [← HM.out]; exact hq
          obtain ⟨_,a',cap',e1,_,hcells⟩:=HC.out
          simp only [Value.slice.injEq] at e1
          obtain ⟨rfl,hz9,rfl⟩:=e1
          clear hz9
          obtain ⟨kb2,off2,rfl,hat⟩:=hcells (by omega)
          obtain ⟨u,z0,hA⟩:=hat q hql
          rw [Nat.one_mul] at z0
          obtain ⟨ua,uc,rfl⟩:=hA.shape
          have hu0:=hA.1
          obtain ⟨um,hum⟩:∃ um,(cl.getD q []).length = um:=⟨_,rfl⟩
          rw [hum] at z0 hu0
          have HUM:=Lib.hid hum
          have HQL:=Lib.hid hql
          clear hcells hat hA hum hql
          by_cases h31:30 < um
          ·have h31':(30:Int) < (um:Int):=by omega
           have hG:G = false:=by
            rw [← HG.out]
            refine light_no HKL.out ?_
            rw [HX.out]
            refine three_no hi ?_
            rw [HCL.out]
            exact list_no HQL.out (by rw [HUM.out]; exact h31)
           subst hG
           clear HG
           go_wp2_with fail
           go_ret
           exact ⟨rfl,HB2.out⟩
          ·have h31':¬ (30:Int) < (um:Int):=by omega
           have HR2:Hid (∀ j,j < q + 1 → (cl.getD j []).length ≤ 30):=Lib.hid fun j hj=>by
            by_cases e:j = q
            ·rw [e,HUM.out]; omega
            ·exact HR.out j (by omega)
           clear HR
           go_wp2_with fail
           go_roundg g3
           case measure=>omega
           case rel=>exact ⟨q + 1,by go_num,rfl,HR2,by omega,by omega⟩
         ·have hge:¬ (q:Int) < (xm:Int):=by omega
          obtain rfl:q = xm:=by omega
          have HQ2:Hid (∀ j,j < i + 1 → lightL ((three x).getD j []) = true):=Lib.hid fun j hj=>by
           by_cases e:j = i
           ·rw [e,HCL.out]
            exact list_yes (by rw [← HM.out]; omega) (fun t ht=>HR.out t (by rw [HM.out]; exact ht))
           ·exact HQ.out j (by omega)
          clear HR HQ
          go_wp2_with fail
          go_roundg g2
          case measure=>omega
          case rel=>exact ⟨i + 1,by go_num,rfl,HQ2,by omega,by omega⟩
      ·have hgi:¬ (i:Int) < 3:=by omega
       obtain rfl:i = 3:=by omega
       have HP2:Hid (∀ j,j < k + 1 → lightP (l.getD j nPk) = true):=Lib.hid fun j hj=>by
        by_cases e:j = k
        ·rw [e,HX.out]
         have:=HL.out
         exact pk_yes (by omega) (fun t ht=>HQ.out t ht)
        ·exact HP.out j (by omega)
       clear HP HQ
       go_wp2_with fail
       go_roundg g'
       case measure=>omega
       case rel=>exact ⟨k + 1,by go_num,HB2.out,HP2,by omega,by omega,by omega⟩
  ·have hge:¬ (k:Int) < (n:Int):=by omega
   obtain rfl:k = n:=by omega
   have hG:G = true:=by
    rw [← HG.out]
    exact light_yes (by rw [HN.out]; exact hk40) (fun j hj=>HP.out j (by rw [← HN.out]; exact hj))
   subst hG
   have HBW:=Lib.hid hbw
   clear HG hbw
   go_wp2_with fail
   go_ret
   exact ⟨rfl,HBW.out⟩
end Rc
end Go.Proofs.YtelofmeapplfpaaGreatDoor
namespace Go.Proofs.YtelofmeapplfpaaGreatDoor
open Go.RowKit
set_option linter.unusedSimpArgs false
set_option linter.unusedVariables false
namespace Ix
open Ver (Bs S)
open Rl (At Pv Slc Pvs Ats Clss)
open Rc (Pk nPk mayAll Pks PkC CAt Has)
def aw1:Pk:=⟨[97,97],[49],[],[],[],[],[],[],false⟩
def aw2:Pk:=⟨[98,98],[49],[],[],[],[],[],[([97,97],[51])],false⟩
def aw3:Pk:=⟨[97,97],[50],[],[],[],[],[],[],false⟩
def awA:At:=([97,97],4,[50])
theorem aw_may:mayAll [aw1,aw2,aw3] = 0:=by decide +kernel
theorem aw_sorts:Sorts [aw1,aw2,aw3] [aw3,aw1,aw2]:=by
 refine ⟨(List.perm_append_comm (l₁:=[aw3]) (l₂:=[aw1,aw2])),fun i j hij hj=>?_⟩
 have hj3:j < 3:=hj
 rcases i with _ | _ | i
 ·rcases j with _ | _ | _ | j
  ·omega
  ·decide +kernel
  ·decide +kernel
  ·omega
 ·rcases j with _ | _ | _ | j
  ·omega
  ·omega
  ·decide +kernel
  ·omega
 ·omega
theorem aw_one {xs:List Pk} (h:Sorts [aw1,aw2,aw3] xs):xs = [aw3,aw1,aw2]:=sorts_one (mayAll_of aw_may) (List.Perm.refl _) h aw_sorts
theorem aw_mt:mt [aw3,aw1,aw2] awA = [0,2]:=by decide +kernel
theorem aw_lim:∀ x ∈ [aw1,aw2,aw3],x.Lim:=by
 intro x hx
 simp only [List.mem_cons,List.not_mem_nil,or_false] at hx
 rcases hx with rfl | rfl | rfl
 all_goals
  refine ⟨by decide,by decide,?_,?_,?_,?_,?_,?_⟩
  all_goals
   intro y hy
   first
    | (cases hy; done)
    | (simp only [aw2,List.mem_singleton] at hy; subst hy; exact ⟨by decide,by decide⟩)
theorem slc_nil {α:Type} (sz:Nat) (z:α) (P:World → Nat → Nat → α → Prop) (w:World):Slc sz z P w (.slice none 0 0) []:=⟨by simp,none,0,rfl,by simp,fun h=>absurd h (by simp)⟩
def awC1:List Value:=[.string (S [97,97]),.string (S [49]),.slice none 0 0,.slice none 0 0,.slice none 0 0,.slice none 0 0,.slice none 0 0,.slice none 0 0,.bool false]
def awC2 (b:Nat):List Value:=[.string (S [98,98]),.string (S [49]),.slice none 0 0,.slice none 0 0,.slice none 0 0,.slice none 0 0,.slice none 0 0,.slice (some ⟨b,0,none⟩) 1 1,.bool false]
def awC3:List Value:=[.string (S [97,97]),.string (S [50]),.slice none 0 0,.slice none 0 0,.slice none 0 0,.slice none 0 0,.slice none 0 0,.slice none 0 0,.bool false]
def awR (b:Nat):Array Value:=(awC1 ++ awC2 b ++ awC3).toArray
theorem at_of {w:World} {b:Nat} {T:TypeId} {cs:Array Value} (h:Blk.Is w b T cs) {o:Nat} {xs:List Value} (hx:∀ j,j < xs.length → cs[o + j]? = xs[j]?):∀ j u,xs[j]? = some u → w.cell? ⟨b,o + j,none⟩ = some u:=fun j u hj =>
 h.at ((hx j (List.getElem?_eq_some_iff.1 hj).1).trans hj)
theorem aw_row (w:World):∃ W1 W,w.alloc (.cells #[.string (S [97,97]),.string (S [51])] 63) = W1 ∧ W1.alloc (.cells (awR w.heap.size) 26) = W ∧ W1.heap.size = w.heap.size + 1 ∧ Below w.heap.size w W ∧ Pks W (.slice (some ⟨w.heap.size + 1,0,none⟩) 3 3) [aw1,aw2,aw3]:=by
 have h1:(w.alloc (.cells #[.string (S [97,97]),.string (S [51])] 63)).heap.size = w.heap.size + 1:=by simp
 have b1:=(Below.refl w.heap.size w).alloc (Nat.le_refl _) (.cells #[.string (S [97,97]),.string (S [51])] 63)
 have b2:=b1.alloc b1.size (.cells (awR w.heap.size) 26)
 have i1:=Blk.Is.new w 63 #[.string (S [97,97]),.string (S [51])]
 have i1':=i1.alloc (.cells (awR w.heap.size) 26)
 have i2:=Blk.Is.new (w.alloc (.cells #[.string (S [97,97]),.string (S [51])] 63)) 26 (awR w.heap.size)
 rw [h1] at i2
 refine ⟨_,_,rfl,rfl,h1,b2,by decide,some ⟨w.heap.size + 1,0,none⟩,3,rfl,by decide,fun _=>⟨w.heap.size + 1,0,rfl,fun i hi=>?_⟩⟩
 have hi3:i < 3:=hi
 have nc:∀ W,Clss W (.slice none 0 0) []:=fun W=>slc_nil _ _ _ _
 have na:∀ W,Ats W (.slice none 0 0) []:=fun W=>slc_nil _ _ _ _
 have np:∀ W,Pvs W (.slice none 0 0) []:=fun W=>slc_nil _ _ _ _
 rcases i with _ | _ | _ | i
 ·refine ⟨awC1,⟨_,_,_,_,_,_,rfl,nc _,nc _,nc _,na _,na _,np _⟩,at_of i2 fun j hj=>?_⟩
  have hj9:j < 9:=hj
  rcases j with _ | _ | _ | _ | _ | _ | _ | _ | _ | j
  all_goals first | rfl | omega
 ·refine ⟨awC2 w.heap.size,⟨_,_,_,_,_,_,rfl,nc _,nc _,nc _,na _,na _,⟨by decide,some ⟨w.heap.size,0,none⟩,1,rfl,by decide,fun _=>⟨w.heap.size,0,rfl,fun i hi=>?_⟩⟩⟩,at_of i2 fun j hj=>?_⟩
  ·have:i = 0:=by have:i < 1:=hi; omega
   subst this
   exact ⟨i1'.at (i:=0) rfl,i1'.at (i:=1) rfl⟩
  ·have hj9:j < 9:=hj
   rcases j with _ | _ | _ | _ | _ | _ | _ | _ | _ | j
   all_goals first | rfl | omega
 ·refine ⟨awC3,⟨_,_,_,_,_,_,rfl,nc _,nc _,nc _,na _,na _,np _⟩,at_of i2 fun j hj=>?_⟩
  have hj9:j < 9:=hj
  rcases j with _ | _ | _ | _ | _ | _ | _ | _ | _ | j
  all_goals first | rfl | omega
 ·omega
end Ix
end Go.Proofs.YtelofmeapplfpaaGreatDoor
namespace Go.Proofs.YtelofmeapplfpaaGreatDoor
open Go.RowKit
set_option linter.unusedSimpArgs false
set_option linter.unusedVariables false
namespace Ix
open Ver (Bs S)
open Rl (At Pv Vars aV)
open Rc (Pk nPk mayAll Pks)
set_option maxRecDepth 100000 in
set_option maxHeartbeats 4000000 in
theorem awake_any (w:World) (hv:Vars w) :
  Calls Tryz.prog 15 #[] w fun e w'=>e = .returned (.bool true) ∧ Below w.heap.size w w':=by
 obtain ⟨W1,W,hW1,hW,hs1,hbW,hpk⟩:=aw_row w
 have ca:=new_yes _ _ W hpk aw_lim (hv.on hbW) aw_may
 have HV:=Lib.hid hv
 have HBW:=Lib.hid hbW
 have CA:=Lib.hid ca
 obtain ⟨b,hb⟩:∃ b,w.heap.size = b:=⟨_,rfl⟩
 rw [hb] at hs1 CA hW
 clear hbW hpk ca hv
 have hrw:awR b = #[.string ⟨#[97,97]⟩,.string ⟨#[49]⟩,.slice none 0 0,.slice none 0 0,.slice none 0 0,.slice none 0 0,.slice none 0 0,.slice none 0 0,.bool false,.string ⟨#[98,98]⟩,.string ⟨#[49]⟩,.slice none 0 0,.slice none 0 0,.slice none 0 0,.slice none 0 0,.slice none 0 0,.slice (some ⟨b,0,none⟩) 1 1,.bool false,.string ⟨#[97,97]⟩,.string ⟨#[50]⟩,.slice none 0 0,.slice none 0 0,.slice none 0 0,.slice none 0 0,.slice none 0 0,.slice none 0 0,.bool false]:=rfl
 rw [hrw] at hW
 have e1:(S [97,97]) = (⟨#[97,97]⟩:ByteArray):=rfl
 have e2:(S [51]) = (⟨#[51]⟩:ByteArray):=rfl
 rw [e1,e2] at hW1
 clear hrw e1 e2
 go_enter Tryz.func15,Tryz.ntmps15
 go_wp2_with fail
 refine CA.out.mono ?_
 rintro e w1 ⟨pb,xs,rfl,hso,hix,k1⟩
 have hxs:=aw_one hso
 subst hxs
 have hb1:=HBW.out.trans (k1.mono HBW.out.size)
 have cm:=meets_any pb _ awA w1 hix (fun x hx=>aw_lim x (hso.1.mem_iff.1 hx)) (by decide) ⟨by decide,by decide⟩ (HV.out.on hb1)
 rw [aw_mt] at cm
 have e3:aV awA = .agg #[.string ⟨#[97,97]⟩,.int .i64 4,.string ⟨#[50]⟩]:=rfl
 rw [e3] at cm
 have HB1:=Lib.hid hb1
 clear e3 hix hso k1 hb1 hs1 hW hW1 CA HBW
 go_wp2_with fail
 refine cm.mono ?_
 rintro e w2 ⟨v,rfl,ho,k2⟩
 have hb2:=HB1.out.trans (k2.mono HB1.out.size)
 obtain ⟨ra,rc,rfl,_⟩:=Rl.own_slice ho (by decide)
 have y0:w2.cell? ⟨ra,0,none⟩ = some (.int .i64 0):=Rl.own_cell ho (i:=0) rfl
 have y1:w2.cell? ⟨ra,1,none⟩ = some (.int .i64 2):=Rl.own_cell ho (i:=1) rfl
 have HB2:=Lib.hid hb2
 clear cm ho k2 hb2
 have hl:([0,2]:List Nat).length = 2:=rfl
 rw [hl]
 clear hl
 go_wp2_with fail
 go_ret
 exact ⟨rfl,HB2.out⟩
end Ix
end Go.Proofs.YtelofmeapplfpaaGreatDoor

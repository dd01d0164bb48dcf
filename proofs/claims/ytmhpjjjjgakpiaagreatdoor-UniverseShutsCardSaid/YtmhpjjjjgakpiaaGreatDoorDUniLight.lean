/-
What is light: the law's measure of packages; the packages of entries.
-/
import Derived.Test.YtmhpjjjjgakpiaaGreatDoorDStaConf
import Derived.Test.YtmhpjjjjgakpiaaGreatDoorDTextTexts
namespace Go.Proofs.YtmhpjjjjgakpiaaGreatDoor
open Go.RowKit
set_option linter.unusedSimpArgs false
set_option linter.unusedVariables false
namespace Un
open Ver (Bs li li_len S S_self S_size S_li)
open Rl (At Pv Ats Pvs Clss Slc LimA LimP LimC Vars nA nP mem_getD may nmB isV pvA aV pV)
open Rc (Pk nPk En nEn PkC Has Pks Ens pk_read en_read Acc In in_low append_big infoPk)
def lightL (l:List (List At)):Bool:=decide (l.length ≤ 15) && l.all fun c=>decide (c.length ≤ 15)
def three (p:Pk):List (List (List At)):=[p.pre,p.dep,p.rcm]
def lightP (p:Pk):Bool:=decide (p.con.length + p.brk.length + p.prv.length ≤ 60) && (three p).all lightL
def lightB (l:List Pk):Bool:=decide (l.length ≤ 40) && l.all lightP
theorem all_no {α:Type} {f:α → Bool} {l:List α} {z:α} {k:Nat} (hk:k < l.length) (h:f (l.getD k z) = false):l.all f = false:=by
 rw [Bool.eq_false_iff]
 intro ha
 have:=List.all_eq_true.1 ha _ (mem_getD (z:=z) hk)
 rw [h] at this
 cases this
theorem all_yes {α:Type} {f:α → Bool} {l:List α} {z:α} (h:∀ k,k < l.length → f (l.getD k z) = true):l.all f = true:=by
 refine List.all_eq_true.2 fun x hx=>?_
 obtain ⟨i,hi,rfl⟩:=List.mem_iff_getElem.1 hx
 have:=h i hi
 rwa [List.getD_eq_getElem?_getD,List.getElem?_eq_getElem hi] at this
theorem light_no {l:List Pk} {k:Nat} (hk:k < l.length) (h:lightP (l.getD k nPk) = false):lightB l = false:=by
 unfold lightB
 rw [all_no hk h,Bool.and_false]
theorem light_many {l:List Pk} (h:40 < l.length):lightB l = false:=by
 unfold lightB
 rw [decide_eq_false (by omega),Bool.false_and]
theorem light_yes {l:List Pk} (h:l.length ≤ 40) (ha:∀ k,k < l.length → lightP (l.getD k nPk) = true):lightB l = true:=by
 unfold lightB
 rw [decide_eq_true h,all_yes ha]; rfl
theorem three_no {p:Pk} {i:Nat} (hi:i < 3) (h:lightL ((three p).getD i []) = false):lightP p = false:=by
 unfold lightP
 rw [all_no (l:=three p) (z:=[]) (k:=i) hi h,Bool.and_false]
theorem sum_no {p:Pk} (h:60 < p.con.length + p.brk.length + p.prv.length):lightP p = false:=by
 unfold lightP
 rw [decide_eq_false (by omega),Bool.false_and]
theorem pk_yes {p:Pk} (h:p.con.length + p.brk.length + p.prv.length ≤ 60) (ha:∀ i,i < 3 → lightL ((three p).getD i []) = true):lightP p = true:=by
 unfold lightP
 rw [decide_eq_true h,all_yes (z:=[]) (fun k hk=>ha k hk)]; rfl
theorem list_long {l:List (List At)} (h:15 < l.length):lightL l = false:=by
 unfold lightL
 rw [decide_eq_false (by omega),Bool.false_and]
theorem list_no {l:List (List At)} {k:Nat} (hk:k < l.length) (h:15 < (l.getD k []).length):lightL l = false:=by
 unfold lightL
 rw [all_no (z:=[]) hk (decide_eq_false (by omega)),Bool.and_false]
theorem list_yes {l:List (List At)} (h:l.length ≤ 15) (ha:∀ k,k < l.length → (l.getD k []).length ≤ 15):lightL l = true:=by
 unfold lightL
 rw [decide_eq_true h,all_yes (z:=[]) (fun k hk=>decide_eq_true (ha k hk))]; rfl
theorem index_three (cs:Array Value) (j:Nat) (hj:j < 3) (v:Value) (hv:cs[j]? = some v) (w:World):(Instr.index 46 (.agg cs) (.int .i64 j)).run Tryz.prog w = .ok v w :=
 Held.run_index_one (e:=36) (n:=3) (by kernel_rfl) Tryz.underlying36 rfl (by kernel_rfl) hj hv w
set_option maxRecDepth 100000 in
set_option maxHeartbeats 8000000 in
theorem light_any (v:Value) (l:List Pk) (w:World) (h:Pks w v l) :
  Calls Tryz.prog 7 #[v] w fun e w'=>e = .returned (.bool (lightB l)) ∧ Below w.heap.size w w':=by
 obtain ⟨sa,cap,rfl⟩:=h.shape
 have H:=Lib.hid h
 have hn0:=h.1
 obtain ⟨n,hn⟩:∃ n,l.length = n:=⟨_,rfl⟩
 have HN:=Lib.hid hn
 rw [hn] at hn0 ⊢
 obtain ⟨G,hG⟩:∃ G,lightB l = G:=⟨_,rfl⟩
 have HG:=Lib.hid hG
 rw [hG]
 clear hn hG h
 go_enter Tryz.func7,Tryz.ntmps7
 go_wp2_with fail
 go_loopg [11] n (fun gf s1 wx=>∃ k:Nat,s1 = .int .i64 k ∧ Below w.heap.size w wx ∧ Hid (∀ j,j < k → lightP (l.getD j nPk) = true) ∧ k ≤ 40 ∧ k ≤ n ∧ n ≤ k + gf)
 case atStart=>exact ⟨0,rfl,Below.refl _ _,Lib.hid (fun j hj=>absurd hj (by omega)),by omega,by omega,by omega⟩
 case round =>
  obtain ⟨k,rfl,hbw,HP,hk40,hkn,hfu⟩:=hrel
  by_cases hlt:k < n
  ·obtain ⟨g',rfl⟩:∃ g',gk = g' + 1:=⟨gk - 1,by omega⟩
   have hlt':(k:Int) < (n:Int):=by omega
   have hk0:(0:Int) ≤ k:=by omega
   have hkl:k < l.length:=by rw [HN.out]; exact hlt
   obtain ⟨_,a',cap',e1,_,hcells⟩:=H.out.below hbw
   simp only [Value.slice.injEq,true_and] at e1
   obtain ⟨rfl,rfl⟩:=e1
   obtain ⟨kb,off,rfl,hcl2⟩:=hcells (by omega)
   obtain ⟨a1,n1,c1,a2,n2,c2,a3,n3,c3,a4,n4,c4,a5,n5,c5,a6,n6,c6,⟨x0,x1,x2,x3,x4,x5,x6,x7,x8⟩,hh⟩:=pk_read (hcl2 k hkl)
   rw [Nat.mul_comm 9 k] at x0 x1 x2 x3 x4 x5 x6 x7 x8
   have HKL:=Lib.hid hkl
   obtain ⟨_,_,e1⟩:=hh.pre.shape
   obtain ⟨_,_,e2⟩:=hh.dep.shape
   obtain ⟨_,_,e3⟩:=hh.rcm.shape
   obtain ⟨_,_,e4⟩:=hh.con.shape
   obtain ⟨_,_,e5⟩:=hh.brk.shape
   obtain ⟨_,_,e6⟩:=hh.prv.shape
   have l4:=hh.con.1
   have l5:=hh.brk.1
   have l6:=hh.prv.1
   simp only [Value.slice.injEq] at e1 e2 e3 e4 e5 e6
   rw [← e4.2.1] at l4
   rw [← e5.2.1] at l5
   rw [← e6.2.1] at l6
   generalize hx:l.getD k nPk = x at *
   have HX:=Lib.hid hx
   have HL:=Lib.hid (⟨e1.2.1,e2.2.1,e3.2.1,e4.2.1,e5.2.1,e6.2.1⟩:n1 = _ ∧ n2 = _ ∧ n3 = _ ∧ n4 = _ ∧ n5 = _ ∧ n6 = _)
   have hb2:=(Below.refl wr.heap.size wr).alloc (Nat.le_refl _) (.cells #[.string (S x.nm),.string (S x.vs),.slice a1 n1 c1,.slice a2 n2 c2,.slice a3 n3 c3,.slice a4 n4 c4,.slice a5 n5 c5,.slice a6 n6 c6,.bool x.ess] 40)
   have i2:=Blk.Is.new wr 40 #[.string (S x.nm),.string (S x.vs),.slice a1 n1 c1,.slice a2 n2 c2,.slice a3 n3 c3,.slice a4 n4 c4,.slice a5 n5 c5,.slice a6 n6 c6,.bool x.ess]
   have hh2:=hh.below hb2
   have HB2:=Lib.hid (hbw.trans (hb2.mono hbw.size))
   obtain ⟨bx,hbx⟩:∃ bx,wr.heap.size = bx:=⟨_,rfl⟩
   obtain ⟨W,hW⟩:∃ W,wr.alloc (.cells #[.string (S x.nm),.string (S x.vs),.slice a1 n1 c1,.slice a2 n2 c2,.slice a3 n3 c3,.slice a4 n4 c4,.slice a5 n5 c5,.slice a6 n6 c6,.bool x.ess] 40) = W:=⟨_,rfl⟩
   rw [hW] at hh2 i2 HB2
   rw [hbx] at i2
   have y2:W.cell? ⟨bx,2,none⟩ = some (.slice a1 n1 c1):=i2.at (i:=2) rfl
   have y3:W.cell? ⟨bx,3,none⟩ = some (.slice a2 n2 c2):=i2.at (i:=3) rfl
   have y4:W.cell? ⟨bx,4,none⟩ = some (.slice a3 n3 c3):=i2.at (i:=4) rfl
   have y5:W.cell? ⟨bx,5,none⟩ = some (.slice a4 n4 c4):=i2.at (i:=5) rfl
   have y6:W.cell? ⟨bx,6,none⟩ = some (.slice a5 n5 c5):=i2.at (i:=6) rfl
   have y7:W.cell? ⟨bx,7,none⟩ = some (.slice a6 n6 c6):=i2.at (i:=7) rfl
   have HH:=Lib.hid hh2
   clear hcells hcl2 hx hh hh2 hb2 i2 e1 e2 e3 e4 e5 e6 hbw hkl
   by_cases h40:40 ≤ k
   ·have h40':(40:Int) ≤ k:=by omega
    have hG:G = false:=by rw [← HG.out]; exact light_many (by rw [HN.out]; omega)
    subst hG
    clear HG
    go_wp2_with fail
    go_ret
    exact ⟨rfl,HB2.out⟩
   ·have h40':¬ (40:Int) ≤ k:=by omega
    by_cases h60:60 < n4 + n5 + n6
    ·have h60':(60:Int) < (n4:Int) + (n5:Int) + (n6:Int):=by omega
     have hG:G = false:=by
      rw [← HG.out]
      refine light_no HKL.out ?_
      rw [HX.out]
      have:=HL.out
      exact sum_no (by omega)
     subst hG
     clear HG
     go_wp2_with fail
     go_ret
     exact ⟨rfl,HB2.out⟩
    ·have h60':¬ (60:Int) < (n4:Int) + (n5:Int) + (n6:Int):=by omega
     go_wp2_with fail
     clear y5 y6 y7 l4 l5 l6
     go_loopg [39] 3 (fun gf s3 wx=>∃ i:Nat,s3 = .int .i64 i ∧ W = wx ∧ Hid (∀ j,j < i → lightL ((three x).getD j []) = true) ∧ i ≤ 3 ∧ 3 ≤ i + gf)
     case atStart=>exact ⟨0,rfl,rfl,Lib.hid (fun j hj=>absurd hj (by omega)),by omega,by omega⟩
     case round =>
      obtain ⟨i,rfl,rfl,HQ,hi3,hfu2⟩:=hrel
      by_cases hi:i < 3
      ·obtain ⟨g2,rfl⟩:∃ g2,gk = g2 + 1:=⟨gk - 1,by omega⟩
       have hi':(i:Int) < 3:=by omega
       obtain ⟨xa,xm,xc,hv,hcl⟩:∃ xa xm xc,(#[.slice a1 n1 c1,.slice a2 n2 c2,.slice a3 n3 c3]:Array Value)[i]? = some (.slice xa xm xc) ∧ Clss W (.slice xa xm xc) ((three x).getD i []):=by
        match i,hi with
        | 0,_=>exact ⟨_,_,_,rfl,HH.out.pre⟩
        | 1,_=>exact ⟨_,_,_,rfl,HH.out.dep⟩
        | 2,_=>exact ⟨_,_,_,rfl,HH.out.rcm⟩
       have hidx:=fun w=>index_three #[.slice a1 n1 c1,.slice a2 n2 c2,.slice a3 n3 c3] i hi _ hv w
       obtain ⟨cl,hcl0⟩:∃ cl,(three x).getD i [] = cl:=⟨_,rfl⟩
       rw [hcl0] at hcl
       have HCL:=Lib.hid hcl0
       obtain ⟨_,_,em⟩:=hcl.shape
       simp only [Value.slice.injEq] at em
       have hm0:=hcl.1
       rw [← em.2.1] at hm0
       have HM:=Lib.hid em.2.1
       have HC:=Lib.hid hcl
       clear hcl hcl0 em hv
       by_cases h30:15 < xm
       ·have h30':(15:Int) < (xm:Int):=by omega
        have hG:G = false:=by
         rw [← HG.out]
         refine light_no HKL.out ?_
         rw [HX.out]
         refine three_no hi ?_
         rw [HCL.out]
         exact list_long (by rw [← HM.out]; exact h30)
        subst hG
        clear HG
        go_wp2_with fail
        go_ret
        exact ⟨rfl,HB2.out⟩
       ·have h30':¬ (15:Int) < (xm:Int):=by omega
        go_wp2_with fail
        go_loopg [47] xm (fun gf s4 wx=>∃ q:Nat,s4 = .int .i64 q ∧ W = wx ∧ Hid (∀ j,j < q → (cl.getD j []).length ≤ 15) ∧ q ≤ xm ∧ xm ≤ q + gf)
        case atStart=>exact ⟨0,rfl,rfl,Lib.hid (fun j hj=>absurd hj (by omega)),by omega,by omega⟩
        case round =>
         obtain ⟨q,rfl,rfl,HR,hqm,hfu3⟩:=hrel
         by_cases hq:q < xm
         ·obtain ⟨g3,rfl⟩:∃ g3,gk = g3 + 1:=⟨gk - 1,by omega⟩
          have hq':(q:Int) < (xm:Int):=by omega
          have hq0:(0:Int) ≤ q:=by omega
          have hql:q < cl.length:=by rw [← HM.out]; exact hq
          obtain ⟨_,a',cap',e1,_,hcells⟩:=HC.out
          simp only [Value.slice.injEq] at e1
          obtain ⟨rfl,hz9,rfl⟩:=e1
          clear hz9
          obtain ⟨kb2,off2,rfl,hat⟩:=hcells (by omega)
          obtain ⟨u,z0,hA⟩:=hat q hql
          rw [Nat.one_mul] at z0
          obtain ⟨ua,uc,rfl⟩:=hA.shape
          have hu0:=hA.1
          obtain ⟨um,hum⟩:∃ um,(cl.getD q []).length = um:=⟨_,rfl⟩
          rw [hum] at z0 hu0
          have HUM:=Lib.hid hum
          have HQL:=Lib.hid hql
          clear hcells hat hA hum hql
          by_cases h31:15 < um
          ·have h31':(15:Int) < (um:Int):=by omega
           have hG:G = false:=by
            rw [← HG.out]
            refine light_no HKL.out ?_
            rw [HX.out]
            refine three_no hi ?_
            rw [HCL.out]
            exact list_no HQL.out (by rw [HUM.out]; exact h31)
           subst hG
           clear HG
           go_wp2_with fail
           go_ret
           exact ⟨rfl,HB2.out⟩
          ·have h31':¬ (15:Int) < (um:Int):=by omega
           have HR2:Hid (∀ j,j < q + 1 → (cl.getD j []).length ≤ 15):=Lib.hid fun j hj=>by
            by_cases e:j = q
            ·rw [e,HUM.out]; omega
            ·exact HR.out j (by omega)
           clear HR
           go_wp2_with fail
           go_roundg g3
           case measure=>omega
           case rel=>exact ⟨q + 1,by go_num,rfl,HR2,by omega,by omega⟩
         ·have hge:¬ (q:Int) < (xm:Int):=by omega
          obtain rfl:q = xm:=by omega
          have HQ2:Hid (∀ j,j < i + 1 → lightL ((three x).getD j []) = true):=Lib.hid fun j hj=>by
           by_cases e:j = i
           ·rw [e,HCL.out]
            exact list_yes (by rw [← HM.out]; omega) (fun t ht=>HR.out t (by rw [HM.out]; exact ht))
           ·exact HQ.out j (by omega)
          clear HR HQ
          go_wp2_with fail
          go_roundg g2
          case measure=>omega
          case rel=>exact ⟨i + 1,by go_num,rfl,HQ2,by omega,by omega⟩
      ·have hgi:¬ (i:Int) < 3:=by omega
       obtain rfl:i = 3:=by omega
       have HP2:Hid (∀ j,j < k + 1 → lightP (l.getD j nPk) = true):=Lib.hid fun j hj=>by
        by_cases e:j = k
        ·rw [e,HX.out]
         have:=HL.out
         exact pk_yes (by omega) (fun t ht=>HQ.out t ht)
        ·exact HP.out j (by omega)
       clear HP HQ
       go_wp2_with fail
       go_roundg g'
       case measure=>omega
       case rel=>exact ⟨k + 1,by go_num,HB2.out,HP2,by omega,by omega,by omega⟩
  ·have hge:¬ (k:Int) < (n:Int):=by omega
   obtain rfl:k = n:=by omega
   have hG:G = true:=by
    rw [← HG.out]
    exact light_yes (by rw [HN.out]; exact hk40) (fun j hj=>HP.out j (by rw [← HN.out]; exact hj))
   subst hG
   have HBW:=Lib.hid hbw
   clear HG hbw
   go_wp2_with fail
   go_ret
   exact ⟨rfl,HBW.out⟩
set_option maxRecDepth 100000 in
set_option maxHeartbeats 8000000 in
theorem bare_any (v:Value) (l:List En) (w:World) (h:Ens w v l) (hbig:l.length * 184 ≤ 140737488355328) :
  Calls Tryz.prog 8 #[v] w fun e w'=>∃ v',e = .returned v' ∧ Pks w' v' (l.map En.pk) ∧ Below w.heap.size w w':=by
 obtain ⟨sa,cap,rfl⟩:=h.shape
 have H:=Lib.hid h
 have hn0:=h.1
 obtain ⟨n,hn⟩:∃ n,l.length = n:=⟨_,rfl⟩
 have HN:=Lib.hid hn
 rw [hn] at hn0 hbig ⊢
 have hn9:(Tryz.prog.info? 40).map (·.size) = some 9:=by kernel_rfl
 clear hn h
 go_enter Tryz.func8,Tryz.ntmps8
 go_wp2_with fail
 go_loopg [3,8] n (fun gf s3 s8 wx=>∃ (k:Nat) (pa:Option Addr) (pc:Nat),s3 = .slice pa k pc ∧ s8 = .int .i64 k ∧ Hid (Acc PkC 9 40 w.heap.size 0 wx (.slice pa k pc) ((l.take k).map En.pk)) ∧ Below w.heap.size w wx ∧ k ≤ n ∧ n ≤ k + gf)
 case atStart=>exact ⟨0,none,0,rfl,rfl,Lib.hid (Acc.nil _ _ _ _ _ _),Below.refl _ _,by omega,by omega⟩
 case round =>
  obtain ⟨k,pa,pc,rfl,rfl,HA,hbw,hkn,hfu⟩:=hrel
  by_cases hlt:k < n
  ·obtain ⟨g',rfl⟩:∃ g',gk = g' + 1:=⟨gk - 1,by omega⟩
   have hlt':(k:Int) < (n:Int):=by omega
   have hk0:(0:Int) ≤ k:=by omega
   have hkl:k < l.length:=by rw [HN.out]; exact hlt
   obtain ⟨_,a',cap',e1,_,hcells⟩:=H.out
   simp only [Value.slice.injEq,true_and] at e1
   obtain ⟨rfl,rfl⟩:=e1
   obtain ⟨kb,off,rfl,hcl2⟩:=hcells (by omega)
   obtain ⟨a1,n1,c1,a2,n2,c2,a3,n3,c3,a4,n4,c4,a5,n5,c5,a6,n6,c6,⟨x0,x1,x2,x3,x4,x5,x6,x7,x8,x9,x10⟩,hh⟩:=en_read (hcl2 k hkl)
   rw [Nat.mul_comm 11 k] at x0 x1 x2 x3 x4 x5 x6 x7 x8 x9 x10
   have x0:=Rl.cell_on x0 hbw
   have x1:=Rl.cell_on x1 hbw
   have x2:=Rl.cell_on x2 hbw
   have x3:=Rl.cell_on x3 hbw
   have x4:=Rl.cell_on x4 hbw
   have x5:=Rl.cell_on x5 hbw
   have x6:=Rl.cell_on x6 hbw
   have x7:=Rl.cell_on x7 hbw
   have x8:=Rl.cell_on x8 hbw
   have x9:=Rl.cell_on x9 hbw
   have x10:=Rl.cell_on x10 hbw
   have ht:l.take (k + 1) = l.take k ++ [l.getD k nEn]:=by
    rw [List.getD_eq_getElem?_getD,List.getElem?_eq_getElem hkl,Option.getD_some,List.take_append_getElem hkl]
   have hlen:((l.take k).map En.pk).length = k:=by rw [List.length_map,List.length_take,HN.out]; omega
   generalize hx:l.getD k nEn = x at *
   have HT:=Lib.hid ht
   have HLE:=Lib.hid hlen
   have hb2:=(Below.refl wr.heap.size wr).alloc (Nat.le_refl _) (.cells #[.string (S x.pk.nm),.string (S x.pk.vs),.slice a1 n1 c1,.slice a2 n2 c2,.slice a3 n3 c3,.slice a4 n4 c4,.slice a5 n5 c5,.slice a6 n6 c6,.bool x.pk.ess,.bool x.cfg,.bool x.hld] 52)
   have i2:=Blk.Is.new wr 52 #[.string (S x.pk.nm),.string (S x.pk.vs),.slice a1 n1 c1,.slice a2 n2 c2,.slice a3 n3 c3,.slice a4 n4 c4,.slice a5 n5 c5,.slice a6 n6 c6,.bool x.pk.ess,.bool x.cfg,.bool x.hld]
   have hs2:(wr.alloc (.cells #[.string (S x.pk.nm),.string (S x.pk.vs),.slice a1 n1 c1,.slice a2 n2 c2,.slice a3 n3 c3,.slice a4 n4 c4,.slice a5 n5 c5,.slice a6 n6 c6,.bool x.pk.ess,.bool x.cfg,.bool x.hld] 52)).heap.size = wr.heap.size + 1:=by simp
   have hb3:=hb2.alloc hb2.size (.cells #[.string (S x.pk.nm),.string (S x.pk.vs),.slice a1 n1 c1,.slice a2 n2 c2,.slice a3 n3 c3,.slice a4 n4 c4,.slice a5 n5 c5,.slice a6 n6 c6,.bool x.pk.ess] 40)
   have i3:=Blk.Is.new (wr.alloc (.cells #[.string (S x.pk.nm),.string (S x.pk.vs),.slice a1 n1 c1,.slice a2 n2 c2,.slice a3 n3 c3,.slice a4 n4 c4,.slice a5 n5 c5,.slice a6 n6 c6,.bool x.pk.ess,.bool x.cfg,.bool x.hld] 52)) 40 #[.string (S x.pk.nm),.string (S x.pk.vs),.slice a1 n1 c1,.slice a2 n2 c2,.slice a3 n3 c3,.slice a4 n4 c4,.slice a5 n5 c5,.slice a6 n6 c6,.bool x.pk.ess]
   have acc3:=HA.out.on hb3
   have hk1:(k + 1) * 184 ≤ 140737488355328:=Nat.le_trans (Nat.mul_le_mul_right _ hlt) hbig
   have hin:In 0 w.heap.size w (fun u=>PkC u [.string (S x.pk.nm),.string (S x.pk.vs),.slice a1 n1 c1,.slice a2 n2 c2,.slice a3 n3 c3,.slice a4 n4 c4,.slice a5 n5 c5,.slice a6 n6 c6,.bool x.pk.ess] x.pk):=in_low fun u hu=>⟨_,_,_,_,_,_,rfl,hh.below hu⟩
   have hin3:=(hin.on (Blk.Chg.ofBelow' hbw)).on (Blk.Chg.ofBelow' hb3)
   have rg:(wr.alloc (.cells #[.string (S x.pk.nm),.string (S x.pk.vs),.slice a1 n1 c1,.slice a2 n2 c2,.slice a3 n3 c3,.slice a4 n4 c4,.slice a5 n5 c5,.slice a6 n6 c6,.bool x.pk.ess,.bool x.cfg,.bool x.hld] 52)).rangeAt wr.heap.size 0 [.string (S x.pk.nm),.string (S x.pk.vs),.slice a1 n1 c1,.slice a2 n2 c2,.slice a3 n3 c3,.slice a4 n4 c4,.slice a5 n5 c5,.slice a6 n6 c6,.bool x.pk.ess]:=fun j u hj=>by
    rw [Nat.zero_add]
    refine i2.at ?_
    have hjl:j < 9:=(List.getElem?_eq_some_iff.1 hj).1
    have hj2:([.string (S x.pk.nm),.string (S x.pk.vs),.slice a1 n1 c1,.slice a2 n2 c2,.slice a3 n3 c3,.slice a4 n4 c4,.slice a5 n5 c5,.slice a6 n6 c6,.bool x.pk.ess] ++ [.bool x.cfg,.bool x.hld])[j]? = some u:=by rw [List.getElem?_append_left hjl]; exact hj
    rw [← Array.getElem?_toList]; exact hj2
   have hB3:=hbw.trans (hb3.mono hbw.size)
   have hlow:∀ g,Value.ownBlock (.slice pa k pc) = some g → g < 0 ∨ w.heap.size ≤ g:=fun g hg=>by
    obtain ⟨_,ho⟩:=HA.out.own
    exact .inr (Rl.own_lt ho hg).1
   obtain ⟨W2,hW2⟩:∃ W2,wr.alloc (.cells #[.string (S x.pk.nm),.string (S x.pk.vs),.slice a1 n1 c1,.slice a2 n2 c2,.slice a3 n3 c3,.slice a4 n4 c4,.slice a5 n5 c5,.slice a6 n6 c6,.bool x.pk.ess,.bool x.cfg,.bool x.hld] 52) = W2:=⟨_,rfl⟩
   obtain ⟨W3,hW3⟩:∃ W3,W2.alloc (.cells #[.string (S x.pk.nm),.string (S x.pk.vs),.slice a1 n1 c1,.slice a2 n2 c2,.slice a3 n3 c3,.slice a4 n4 c4,.slice a5 n5 c5,.slice a6 n6 c6,.bool x.pk.ess] 40) = W3:=⟨_,rfl⟩
   rw [hW2] at hb3 i3 acc3 hin3 rg hs2 hB3
   rw [hW3] at hb3 i3 acc3 hin3 hB3
   rw [hs2] at i3
   have own3:∃ xs,W3.ownsRow w.heap.size 40 9 (.slice pa k pc) k xs:=by
    have:=acc3.own
    rwa [hlen] at this
   have hsz3:w.heap.size ≤ W3.heap.size:=hB3.size
   have hW23:w.heap.size ≤ W3.heap.size:=hsz3
   have AC3:=Lib.hid acc3
   have IN3:=Lib.hid hin3
   have LO:=Lib.hid hlow
   have B3:=Lib.hid hB3
   have I3:=Lib.hid i3
   have OW:=Lib.hid own3
   have RG:=Lib.hid rg
   have HW3:=Lib.hid hW3
   have hk2:k + 1 ≤ 4611686018427387904:=by omega
   obtain ⟨bx,hbx⟩:∃ bx,wr.heap.size = bx:=⟨_,rfl⟩
   rw [hbx] at I3 RG hs2
   clear hcells hcl2 hx ht hlen hb2 i2 hb3 i3 acc3 hin hin3 rg hlow hB3 hW3 own3 hh HA hbw
   go_wp2_with (first | (at_builtin; (try rw [HW3.out]); refine append_big Tryz.underlying22 infoPk rfl rfl (.tmp 12) (.tmp 15) rfl w.heap.size (.slice pa k pc) k rfl OW.out (bx + 1) 1 rfl [.string (S x.pk.nm),.string (S x.pk.vs),.slice a1 n1 c1,.slice a2 n2 c2,.slice a3 n3 c3,.slice a4 n4 c4,.slice a5 n5 c5,.slice a6 n6 c6,.bool x.pk.ess] rfl (fun j u hj=>I3.out.at (by rw [← Array.getElem?_toList]; exact hj)) (fun u hu=>by simp only [List.mem_cons,List.not_mem_nil,or_false] at hu; rcases hu with rfl | rfl | rfl | rfl | rfl | rfl | rfl | rfl | rfl <;> rfl) hk1 hk2 hsz3 ?_; intro v' w9 h2 h3 h4; have acc9:=AC3.out.more (cs:=[.string (S x.pk.nm),.string (S x.pk.vs),.slice a1 n1 c1,.slice a2 n2 c2,.slice a3 n3 c3,.slice a4 n4 c4,.slice a5 n5 c5,.slice a6 n6 c6,.bool x.pk.ess]) rfl IN3.out hsz3 LO.out (Nat.zero_le _) (by rw [HLE.out]; exact h2) h3 h4; obtain ⟨a9,c9,e9⟩:=acc9.shape; rw [List.length_append,HLE.out,List.length_singleton] at e9; subst e9; have hb9:=Own.below_grown B3.out (Classical.choose_spec OW.out) h3 hsz3; have AC9:=Lib.hid acc9; have HB9:=Lib.hid hb9; clear acc9 hb9 h2 h3 h4 AC3 IN3 LO B3 I3 OW RG HW3) | (refine BigFrame.wpList_want rfl fun KK hKK=>wp_load_mid 40 (.tmp 13) rfl bx 0 rfl [.string (S x.pk.nm),.string (S x.pk.vs),.slice a1 n1 c1,.slice a2 n2 c2,.slice a3 n3 c3,.slice a4 n4 c4,.slice a5 n5 c5,.slice a6 n6 c6,.bool x.pk.ess] _ RG.out Tryz.underlying40 rfl hn9 (hKK _ _ ?_)))
   go_roundg g'
   case measure=>omega
   case rel =>
    refine ⟨k + 1,a9,c9,rfl,by go_num,Lib.hid ?_,HB9.out,by omega,by omega⟩
    rw [HT.out,List.map_append]
    exact AC9.out
  ·have hge:¬ (k:Int) < (n:Int):=by omega
   obtain rfl:k = n:=by omega
   have hacc:=HA.out
   rw [List.take_of_length_le (by rw [HN.out]; exact Nat.le_refl _)] at hacc
   have hres:Pks wr (.slice pa k pc) (l.map En.pk):=Acc.slc nPk hacc (by rw [List.length_map,HN.out]; exact hn0)
   have HR:=Lib.hid hres
   have HBW:=Lib.hid hbw
   clear hacc hres hbw HA
   go_wp2_with fail
   go_ret
   exact ⟨_,rfl,HR.out,HBW.out⟩
end Un
end Go.Proofs.YtmhpjjjjgakpiaaGreatDoor

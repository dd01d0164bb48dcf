/-
The reference's May: a package: may it be?
-/
import Derived.Test.YtmhpjjjjgakpiaaGreatDoorDRecAll2
import Derived.Test.YtmhpjjjjgakpiaaGreatDoorDReg
import Derived.Test.YtmhpjjjjgakpiaaGreatDoorDRelSingles
import Derived.Test.YtmhpjjjjgakpiaaGreatDoorDVerRefCompare
namespace Go.Proofs.YtmhpjjjjgakpiaaGreatDoor
open Go.RowKit
set_option linter.unusedSimpArgs false
set_option linter.unusedVariables false
namespace Rc
open Ver (li S S_size S_li)
open Rl (At Pv Ats Pvs Clss LimA LimP LimC nA mem_getD may nmB isV pvA aV)
set_option maxRecDepth 100000 in
theorem cut_any (v:Value) (l:List At) (w:World) (h:Ats w v l) :
  Calls Tryz.prog 54 #[v] w fun e w'=>∃ v',e = .returned v' ∧ Ats w' v' (l.take 13) ∧ Below w.heap.size w w':=by
 obtain ⟨sa,cap,rfl⟩:=h.shape
 have h0:=h.1
 obtain ⟨_,_,_,e1,hc,_⟩:=id h
 simp only [Value.slice.injEq,true_and] at e1
 obtain ⟨rfl,rfl⟩:=e1
 have ht:=fun i hi=>slc_take (i:=i) h hi
 have HT:=Lib.hid ht
 obtain ⟨n,hn⟩:∃ n,l.length = n:=⟨_,rfl⟩
 rw [hn] at h0 hc ⊢
 have HN:=Lib.hid hn
 clear ht hn h
 by_cases hm:n ≤ 13
 ·have hm':(n:Int) ≤ 13:=by omega
  have hm2:min (n:Int) 13 = n:=by omega
  have hm3:¬ (13:Int) < n:=by omega
  go_enter Tryz.func54,Tryz.ntmps54
  go_wp2_with fail
  go_ret
  refine ⟨_,rfl,?_,Below.refl _ _⟩
  have hl:l.take 13 = l.take n:=by
   rw [List.take_of_length_le (by rw [HN.out]; exact hm),List.take_of_length_le (by rw [HN.out]; exact Nat.le_refl _)]
  rw [hl]
  exact HT.out n (by rw [HN.out]; exact Nat.le_refl _)
 ·have hm':¬ (n:Int) ≤ 13:=by omega
  have hm2:min (n:Int) 13 = 13:=by omega
  have hm3:(13:Int) < n:=by omega
  go_enter Tryz.func54,Tryz.ntmps54
  go_wp2_with fail
  go_ret
  exact ⟨_,rfl,HT.out 13 (by rw [HN.out]; omega),Below.refl _ _⟩
set_option maxRecDepth 100000 in
theorem cutProvides_any (v:Value) (l:List Pv) (w:World) (h:Pvs w v l) :
  Calls Tryz.prog 56 #[v] w fun e w'=>∃ v',e = .returned v' ∧ Pvs w' v' (l.take 13) ∧ Below w.heap.size w w':=by
 obtain ⟨sa,cap,rfl⟩:=h.shape
 have h0:=h.1
 obtain ⟨_,_,_,e1,hc,_⟩:=id h
 simp only [Value.slice.injEq,true_and] at e1
 obtain ⟨rfl,rfl⟩:=e1
 have ht:=fun i hi=>slc_take (i:=i) h hi
 have HT:=Lib.hid ht
 obtain ⟨n,hn⟩:∃ n,l.length = n:=⟨_,rfl⟩
 rw [hn] at h0 hc ⊢
 have HN:=Lib.hid hn
 clear ht hn h
 by_cases hm:n ≤ 13
 ·have hm':(n:Int) ≤ 13:=by omega
  have hm2:min (n:Int) 13 = n:=by omega
  have hm3:¬ (13:Int) < n:=by omega
  go_enter Tryz.func56,Tryz.ntmps56
  go_wp2_with fail
  go_ret
  refine ⟨_,rfl,?_,Below.refl _ _⟩
  have hl:l.take 13 = l.take n:=by
   rw [List.take_of_length_le (by rw [HN.out]; exact hm),List.take_of_length_le (by rw [HN.out]; exact Nat.le_refl _)]
  rw [hl]
  exact HT.out n (by rw [HN.out]; exact Nat.le_refl _)
 ·have hm':¬ (n:Int) ≤ 13:=by omega
  have hm2:min (n:Int) 13 = 13:=by omega
  have hm3:(13:Int) < n:=by omega
  go_enter Tryz.func56,Tryz.ntmps56
  go_wp2_with fail
  go_ret
  exact ⟨_,rfl,HT.out 13 (by rw [HN.out]; omega),Below.refl _ _⟩
theorem mayC_alt (l:List (List At)):mayC l = if 12 < l.length then 12 else if l.any longC = true then 12 else if l.all rightC = true then 0 else 3:=by
 rw [mayC_eq]
 unfold mayI
 by_cases h1:12 < l.length
 ·rw [if_pos h1,if_pos h1]; split <;> rfl
 ·rw [if_neg h1,if_neg h1]
theorem rightC_no {c:List At} {j:Nat} (hj:j < c.length) (h:may (c.getD j nA) = false):rightC c = false:=by
 unfold rightC
 rw [all_not (z:=nA) (p:=may) hj h,Bool.and_false]
theorem rightC_yes {c:List At} (h0:0 < c.length) (h:∀ j,j < c.length → may (c.getD j nA) = true):rightC c = true:=by
 unfold rightC
 rw [all_of (z:=nA) (p:=may) h,decide_eq_true h0]; rfl
set_option maxRecDepth 100000 in
set_option maxHeartbeats 8000000 in
theorem ymayClauses_any (v:Value) (l:List (List At)) (w:World) (h:Clss w v l) (hL:LimC l) :
  Calls Tryz.prog 57 #[v] w fun e w'=>e = .returned (.int .i64 (mayC l)) ∧ Below w.heap.size w w':=by
 rw [mayC_alt]
 obtain ⟨sa,cap,rfl⟩:=h.shape
 obtain ⟨G,hG⟩:∃ G:Int,(if 12 < l.length then 12 else if l.any longC = true then 12 else if l.all rightC = true then 0 else 3) = G:=⟨_,rfl⟩
 rw [hG]
 have H:=Lib.hid h
 have HL:=Lib.hid hL
 obtain ⟨n,hn⟩:∃ n,l.length = n:=⟨_,rfl⟩
 have HN:=Lib.hid hn
 rw [hn] at hG ⊢
 clear hn h hL
 by_cases hmost:12 < n
 ·have hm':(12:Int) < (n:Int):=by omega
  rw [if_pos hmost] at hG
  subst hG
  go_enter Tryz.func57,Tryz.ntmps57
  go_wp2_with fail
  go_ret
  exact ⟨rfl,Below.refl _ _⟩
 ·have hm':¬ (12:Int) < (n:Int):=by omega
  rw [if_neg hmost] at hG
  have HG:=Lib.hid hG
  clear hG
  go_enter Tryz.func57,Tryz.ntmps57
  go_wp2_with fail
  go_loopg [14] n (fun gf s1 wx=>∃ k:Nat,s1 = .int .i64 k ∧ w = wx ∧ Hid (∀ j,j < k → longC (l.getD j []) = false) ∧ k ≤ n ∧ n ≤ k + gf)
  case atStart=>exact ⟨0,rfl,rfl,fun j hj=>absurd hj (by omega),by omega,by omega⟩
  case round =>
   obtain ⟨k,rfl,rfl,HE,hkn,hfu⟩:=hrel
   by_cases hlt:k < n
   ·obtain ⟨g',rfl⟩:∃ g',gk = g' + 1:=⟨gk - 1,by omega⟩
    have hlt':(k:Int) < (n:Int):=by omega
    have hk0:(0:Int) ≤ k:=by omega
    have hkl:k < l.length:=by rw [HN.out]; exact hlt
    obtain ⟨_,a',cap',e1,_,hcells⟩:=H.out
    simp only [Value.slice.injEq,true_and] at e1
    obtain ⟨rfl,rfl⟩:=e1
    obtain ⟨kb,off,rfl,hcl2⟩:=hcells (by omega)
    obtain ⟨u,x0,xa⟩:=hcl2 k hkl
    rw [Nat.one_mul] at x0
    obtain ⟨ua,uc,rfl⟩:=xa.shape
    have hyes:=fun h=>any_at (p:=longC) (z:=[]) hkl h
    have HY:=Lib.hid hyes
    generalize hx:l.getD k [] = x at *
    have HX:=Lib.hid hx
    have hl6:longC x = decide (6 < x.length):=rfl
    generalize x.length = xl at *
    clear hcl2 hcells xa hx hyes
    by_cases h6:6 < xl
    ·have h6':(6:Int) < (xl:Int):=by omega
     rw [decide_eq_true h6] at hl6
     have hG:G = 12:=by rw [← HG.out,if_pos (HY.out hl6)]
     subst hG
     clear HG HY HX HE hl6
     go_wp2_with fail
     go_ret
     exact ⟨rfl,Below.refl _ _⟩
    ·have h6':¬ (6:Int) < (xl:Int):=by omega
     rw [decide_eq_false h6] at hl6
     have HE2:Hid (∀ j,j < k + 1 → longC (l.getD j []) = false):=fun j hj=>by
      by_cases e:j = k
      ·rw [e,HX.out]; exact hl6
      ·exact HE.out j (by omega)
     clear HY HX HE hl6
     go_wp2_with fail
     go_roundg g'
     case measure=>omega
     case rel=>exact ⟨k + 1,by go_num,rfl,HE2.out,by omega,by omega⟩
   ·have hge:¬ (k:Int) < (n:Int):=by omega
    obtain rfl:k = n:=by omega
    have hz:l.any longC = false:=any_no (z:=[]) fun j hj=>HE.out j (by rw [← HN.out]; exact hj)
    have hG3:=HG.out
    rw [hz,if_neg (by simp)] at hG3
    have HG3:=Lib.hid hG3
    clear HG hz HE hG3
    go_wp2_with fail
    go_loopg [24] k (fun gf s2 wx=>∃ i:Nat,s2 = .int .i64 i ∧ Below w.heap.size w wx ∧ Hid (∀ j,j < i → rightC (l.getD j []) = true) ∧ i ≤ k ∧ k ≤ i + gf)
    case atStart=>exact ⟨0,rfl,Below.refl _ _,fun j hj=>absurd hj (by omega),by omega,by omega⟩
    case round =>
     obtain ⟨i,rfl,hbw,HE,hin,hfu2⟩:=hrel
     by_cases hlt:i < k
     ·obtain ⟨g',rfl⟩:∃ g',gk = g' + 1:=⟨gk - 1,by omega⟩
      have hlt':(i:Int) < (k:Int):=by omega
      have hk0:(0:Int) ≤ i:=by omega
      have hkl:i < l.length:=by rw [HN.out]; exact hlt
      obtain ⟨_,a',cap',e1,_,hcells⟩:=H.out.below hbw
      simp only [Value.slice.injEq,true_and] at e1
      obtain ⟨rfl,rfl⟩:=e1
      obtain ⟨kb,off,rfl,hcl2⟩:=hcells (by omega)
      obtain ⟨u,x0,xa⟩:=hcl2 i hkl
      rw [Nat.one_mul] at x0
      obtain ⟨ua,uc,rfl⟩:=xa.shape
      have hlim:=HL.out _ (mem_getD (z:=[]) hkl)
      have hno:=fun h=>all_not (p:=rightC) (z:=[]) hkl h
      have HNO:=Lib.hid hno
      generalize hx:l.getD i [] = x at *
      have HX:=Lib.hid hx
      obtain ⟨m,hm⟩:∃ m,x.length = m:=⟨_,rfl⟩
      have HM:=Lib.hid hm
      have XA:=Lib.hid xa
      have XL:=Lib.hid hlim
      rw [hm] at x0
      have hm4:=xa.1
      rw [hm] at hm4
      have HBW:=Lib.hid hbw
      clear hcl2 hcells hx hno hm xa hlim hbw
      by_cases h0:m = 0
      ·subst h0
       have hG:G = 3:=by
        have hr:rightC x = false:=by unfold rightC; rw [HM.out]; rfl
        rw [← HG3.out,if_neg (by rw [HNO.out hr]; simp)]
       subst hG
       clear HG3 HNO HX HE
       go_wp2_with fail
       go_ret
       exact ⟨rfl,HBW.out⟩
      ·have h0':((m:Int) == 0) = false:=by simp [h0]
       obtain ⟨_,a',cap',e1,_,hcells⟩:=XA.out
       simp only [Value.slice.injEq] at e1
       obtain ⟨rfl,_,rfl⟩:=e1
       obtain ⟨qb,qo,rfl,_⟩:=hcells (by rw [HM.out]; omega)
       clear hcells
       go_wp2_with fail
       go_loopg [33] m (fun gf s3 wx=>∃ q:Nat,s3 = .int .i64 q ∧ Below w.heap.size w wx ∧ Below wr.heap.size wr wx ∧ Hid (∀ j,j < q → may (x.getD j nA) = true) ∧ q ≤ m ∧ m ≤ q + gf)
       case atStart=>exact ⟨0,rfl,HBW.out,Below.refl _ _,fun j hj=>absurd hj (by omega),by omega,by omega⟩
       case round =>
        obtain ⟨q,rfl,hbw,hbr,HF,hqm,hfu3⟩:=hrel
        by_cases hlq:q < m
        ·obtain ⟨g2,rfl⟩:∃ g2,gk = g2 + 1:=⟨gk - 1,by omega⟩
         have hlq':(q:Int) < (m:Int):=by omega
         have hq0:(0:Int) ≤ q:=by omega
         have hql:q < x.length:=by rw [HM.out]; exact hlq
         obtain ⟨_,a',cap',e1,_,hcells⟩:=XA.out.below hbr
         simp only [Value.slice.injEq] at e1
         obtain ⟨rfl,_,rfl⟩:=e1
         obtain ⟨qb',qo',e3,hcl2⟩:=hcells (by omega)
         simp only [Option.some.injEq,Addr.mk.injEq,and_true] at e3
         obtain ⟨rfl,rfl⟩:=e3
         obtain ⟨y0,y1,y2⟩:=hcl2 q hql
         rw [Nat.mul_comm 3 q] at y0 y1 y2
         have hlim:=XL.out _ (mem_getD (z:=nA) hql)
         have hrn:=fun h=>rightC_no hql h
         have HRN:=Lib.hid hrn
         have ca:=fun w=>Rl.ymayAtom_any (x.getD q nA) w (by omega) (by omega)
         unfold aV at ca
         generalize hy:x.getD q nA = y at *
         have HYY:=Lib.hid hy
         have hb2:=(Below.refl wr.heap.size wr).alloc (Nat.le_refl _) (.cells #[.string (S y.1),.int .i64 y.2.1,.string (S y.2.2)] 54)
         have HB2:=Lib.hid (hbw.trans (hb2.mono hbw.size))
         have HR2:=Lib.hid (hbr.trans (hb2.mono hbr.size))
         clear hb2 hbw hbr hcl2 hcells hlim hrn hy
         cases hw:may y with
         | false =>
          have hG:G = 3:=by rw [← HG3.out,if_neg (by rw [HNO.out (HRN.out hw)]; simp)]
          rw [hw] at ca
          subst hG
          clear HG3 HNO HRN hw HX HE HF HYY
          go_wp2_with fail
          generalize wr.alloc (.cells #[.string (S y.1),.int .i64 y.2.1,.string (S y.2.2)] 54) = W at *
          refine (ca _).mono ?_
          rintro e w1 ⟨rfl,k1⟩
          have hb1:=HB2.out.trans (k1.mono HB2.out.size)
          go_wp2_with fail
          go_ret
          exact ⟨rfl,hb1⟩
         | true =>
          rw [hw] at ca
          have HF2:Hid (∀ j,j < q + 1 → may (x.getD j nA) = true):=fun j hj=>by
           by_cases e:j = q
           ·rw [e,HYY.out,hw]
           ·exact HF.out j (by omega)
          clear HRN hw HF HYY
          go_wp2_with fail
          generalize wr.alloc (.cells #[.string (S y.1),.int .i64 y.2.1,.string (S y.2.2)] 54) = W at *
          refine (ca _).mono ?_
          rintro e w1 ⟨rfl,k1⟩
          have hb1:=HB2.out.trans (k1.mono HB2.out.size)
          have hr1:=HR2.out.trans (k1.mono HR2.out.size)
          clear k1 HB2 HR2 ca
          go_wp2_with fail
          go_roundg g2
          case measure=>omega
          case rel=>exact ⟨q + 1,by go_num,hb1,hr1,HF2.out,by omega,by omega⟩
        ·have hgq:¬ (q:Int) < (m:Int):=by omega
         obtain rfl:q = m:=by omega
         have hr:rightC x = true:=rightC_yes (by rw [HM.out]; omega) fun j hj=>HF.out j (by rw [← HM.out]; exact hj)
         have HE2:Hid (∀ j,j < i + 1 → rightC (l.getD j []) = true):=fun j hj=>by
          by_cases e:j = i
          ·rw [e,HX.out]; exact hr
          ·exact HE.out j (by omega)
         clear hr HF HE HX HNO
         go_wp2_with fail
         go_roundg g'
         case measure=>omega
         case rel=>exact ⟨i + 1,by go_num,hbw,HE2.out,by omega,by omega⟩
     ·have hge2:¬ (i:Int) < (k:Int):=by omega
      obtain rfl:i = k:=by omega
      have hG:G = 0:=by rw [← HG3.out,if_pos (all_of (z:=[]) (p:=rightC) fun j hj=>HE.out j (by rw [← HN.out]; exact hj))]
      subst hG
      have HBW:=Lib.hid hbw
      clear HG3 HE hbw
      go_wp2_with fail
      go_ret
      exact ⟨rfl,HBW.out⟩
theorem mayC_sing (l:List At):mayC ((l.take 13).map fun a=>[a]) = mayA l:=by
 have h1:((l.take 13).map fun a=>[a]).any (fun c=>decide (6 < c.length)) = false:=by
  cases hq:((l.take 13).map fun a=>[a]).any (fun c=>decide (6 < c.length)) with
  | false=>rfl
  | true =>
   obtain ⟨c,hc,hp⟩:=List.any_eq_true.1 hq
   obtain ⟨a,_,rfl⟩:=List.mem_map.1 hc
   simp at hp
 have hc0:∀ {c},c ∈ (l.take 13).map (fun a=>[a]) → ∃ a,a ∈ l.take 13 ∧ c = [a]:=fun hc=>by
  obtain ⟨a,ha,rfl⟩:=List.mem_map.1 hc
  exact ⟨a,ha,rfl⟩
 unfold mayC mayA
 rw [h1,if_neg (by simp),List.length_map,List.length_take]
 by_cases h2:12 < l.length
 ·rw [if_pos (by omega),if_pos h2]
 ·rw [if_neg (by omega),if_neg h2,List.take_of_length_le (by omega)]
  have h3:((l.map fun a=>[a]).all fun c=>decide (0 < c.length) && c.all may) = l.all may:=by
   rw [List.all_map]
   congr 1
   funext a
   simp
  rw [h3]
theorem mayA_prov (l:List Pv):mayC ((((l.take 13).map pvA)).map fun a=>[a]) = mayP l:=by
 have h:=mayC_sing ((l.take 13).map pvA)
 rw [List.take_of_length_le (by rw [List.length_map,List.length_take]; omega)] at h
 rw [h]
 unfold mayA mayP
 rw [List.length_map,List.length_take]
 by_cases h2:12 < l.length
 ·rw [if_pos (by omega),if_pos h2]
 ·rw [if_neg (by omega),if_neg h2,List.take_of_length_le (by omega)]
  have h3:(l.map pvA).all may = l.all mayPv:=by
   rw [List.all_map]; rfl
  rw [h3]
theorem lim_sing {l:List At} (h:LimA l):LimC ((l.take 13).map fun a=>[a]):=fun c hc=>by
 obtain ⟨a,ha,rfl⟩:=List.mem_map.1 hc
 intro b hb
 rw [List.mem_singleton] at hb
 subst hb
 exact h b (List.mem_of_mem_take ha)
theorem lim_prov {l:List Pv} (h:LimP l):LimC (((l.take 13).map pvA).map fun a=>[a]):=fun c hc=>by
 obtain ⟨a,ha,rfl⟩:=List.mem_map.1 hc
 obtain ⟨p,hp,rfl⟩:=List.mem_map.1 ha
 intro b hb
 rw [List.mem_singleton] at hb
 subst hb
 exact h p (List.mem_of_mem_take hp)
theorem index_six (cs:Array Value) (j:Nat) (hj:j < 6) (v:Value) (hv:cs[j]? = some v) (w:World):(Instr.index 106 (.agg cs) (.int .i64 j)).run Tryz.prog w = .ok v w :=
 Held.run_index_one (e:=36) (n:=6) (by kernel_rfl) Tryz.underlying36 rfl (by kernel_rfl) hj hv w
def six (p:Pk):List (List (List At)):=[p.pre,p.dep,p.rcm,(p.con.take 13).map fun a=>[a],(p.brk.take 13).map fun a=>[a],((p.prv.take 13).map pvA).map fun a=>[a]]
theorem six_or (p:Pk):orI ((six p).map mayC) = orM p:=by
 unfold six orM
 simp only [List.map_cons,List.map_nil]
 rw [mayC_sing,mayC_sing,mayA_prov]
set_option maxRecDepth 100000 in
set_option maxHeartbeats 16000000 in
theorem ymay_any (v:Value) (p:Pk) (w:World) (h:PkV w v p) (hL:p.Lim) :
  Calls Tryz.prog 36 #[v] w fun e w'=>e = .returned (.int .i64 (mayK p)) ∧ Below w.heap.size w w':=by
 obtain ⟨u1,u2,u3,u4,u5,u6,rfl,h1⟩:=h
 rw [mayK_eq]
 obtain ⟨M,hM⟩:∃ M,orM p = M:=⟨_,rfl⟩
 have hM2:=(six_or p).trans hM
 have HM:=Lib.hid hM2
 rw [hM]
 have cn:=fun w=>Rl.yname_any p.nm w (by have:=hL.nm; omega)
 have cv:=fun w=>Ver.yis_any (S p.vs) w (by rw [S_size]; have:=hL.vs; omega)
 have hvi:(Ver.parse (li (S p.vs))).isSome = isV p.vs:=by rw [S_li]; rfl
 rw [hvi] at cv
 have hb0:=(Below.refl w.heap.size w).alloc (Nat.le_refl _) (.cells #[.string (S p.nm),.string (S p.vs),u1,u2,u3,u4,u5,u6,.bool p.ess] 40)
 have i0:=Blk.Is.new w 40 #[.string (S p.nm),.string (S p.vs),u1,u2,u3,u4,u5,u6,.bool p.ess]
 obtain ⟨W,hW⟩:∃ W,w.alloc (.cells #[.string (S p.nm),.string (S p.vs),u1,u2,u3,u4,u5,u6,.bool p.ess] 40) = W:=⟨_,rfl⟩
 rw [hW] at hb0 i0
 have H:=Lib.hid (h1.below hb0)
 have HL:=Lib.hid hL
 have HB:=Lib.hid hb0
 have HI:=Lib.hid i0
 have c0:=i0.at (i:=0) rfl
 have c1:=i0.at (i:=1) rfl
 have HCV:=Lib.hid cv
 clear hM hM2 h1 hL hb0 i0 cv hvi
 generalize S p.nm = N at *
 generalize hvv:S p.vs = V at *
 generalize p.ess = E at *
 clear hvv
 cases hn:nmB p.nm with
 | false =>
  rw [hn] at cn
  simp only [Bool.false_and,Bool.false_eq_true,if_false]
  clear hn HM HL HCV H
  go_enter Tryz.func36,Tryz.ntmps36
  go_wp2_with fail
  refine (cn _).mono ?_
  rintro e w1 ⟨rfl,rfl⟩
  clear cn
  go_wp2_with fail
  go_ret
  exact ⟨rfl,HB.out⟩
 | true =>
  rw [hn] at cn
  simp only [Bool.true_and]
  cases hq:isV p.vs with
  | false =>
   rw [hq] at HCV
   simp only [Bool.false_eq_true,if_false]
   clear hn hq HM HL H
   go_enter Tryz.func36,Tryz.ntmps36
   go_wp2_with fail
   refine (cn _).mono ?_
   rintro e w1 ⟨rfl,rfl⟩
   clear cn
   go_wp2_with fail
   refine (HCV.out _).mono ?_
   rintro e w2 ⟨rfl,k2⟩
   have hb2:=HB.out.trans (k2.mono HB.out.size)
   clear k2
   go_wp2_with fail
   go_ret
   exact ⟨rfl,hb2⟩
  | true =>
   rw [hq] at HCV
   simp only [if_true]
   clear hn hq
   go_enter Tryz.func36,Tryz.ntmps36
   go_wp2_with fail
   refine (cn _).mono ?_
   rintro e w1 ⟨rfl,rfl⟩
   clear cn
   go_wp2_with fail
   refine (HCV.out _).mono ?_
   rintro e w2 ⟨rfl,k2⟩
   have hb2:=HB.out.trans (k2.mono HB.out.size)
   have H2:=Lib.hid (H.out.below k2)
   have i2:=Rl.is_on HI.out k2
   have HB2:=Lib.hid hb2
   clear k2 c0 c1 hb2 HCV
   obtain ⟨a1,e1,rfl⟩:=H2.out.pre.shape
   obtain ⟨a2,e2,rfl⟩:=H2.out.dep.shape
   obtain ⟨a3,e3,rfl⟩:=H2.out.rcm.shape
   have L2:∀ u,Below w2.heap.size w2 u → u.cell? ⟨w.heap.size,2,none⟩ = some (.slice a1 p.pre.length e1):=fun u hu=>Rl.cell_on (i2.at (i:=2) rfl) hu
   have L3:∀ u,Below w2.heap.size w2 u → u.cell? ⟨w.heap.size,3,none⟩ = some (.slice a2 p.dep.length e2):=fun u hu=>Rl.cell_on (i2.at (i:=3) rfl) hu
   have L4:∀ u,Below w2.heap.size w2 u → u.cell? ⟨w.heap.size,4,none⟩ = some (.slice a3 p.rcm.length e3):=fun u hu=>Rl.cell_on (i2.at (i:=4) rfl) hu
   have L5:∀ u,Below w2.heap.size w2 u → u.cell? ⟨w.heap.size,5,none⟩ = some u4:=fun u hu=>Rl.cell_on (i2.at (i:=5) rfl) hu
   have L6:∀ u,Below w2.heap.size w2 u → u.cell? ⟨w.heap.size,6,none⟩ = some u5:=fun u hu=>Rl.cell_on (i2.at (i:=6) rfl) hu
   have L7:∀ u,Below w2.heap.size w2 u → u.cell? ⟨w.heap.size,7,none⟩ = some u6:=fun u hu=>Rl.cell_on (i2.at (i:=7) rfl) hu
   clear i2
   have HL2:=Lib.hid L2
   have HL3:=Lib.hid L3
   have HL4:=Lib.hid L4
   have HL5:=Lib.hid L5
   have HL6:=Lib.hid L6
   have HL7:=Lib.hid L7
   clear L2 L3 L4 L5 L6 L7
   obtain ⟨m1,hm1⟩:∃ m,p.pre.length = m:=⟨_,rfl⟩
   obtain ⟨m2,hm2⟩:∃ m,p.dep.length = m:=⟨_,rfl⟩
   obtain ⟨m3,hm3⟩:∃ m,p.rcm.length = m:=⟨_,rfl⟩
   rw [hm1,hm2,hm3] at H2
   rw [hm1] at HL2
   rw [hm2] at HL3
   rw [hm3] at HL4
   clear hm1 hm2 hm3
   go_wp2_with fail
   refine wp_region_held (S:=fun u=>Below w2.heap.size w2 u) (by kernel_rfl) ?_
   have hS0:Below w2.heap.size w2 w2.drew:=(Below.refl _ _).drew
   change wpAnyH _ _ _ _ _ 21 _ _ w2.drew
   generalize w2.drew = u0 at *
   refine wpAnyH_take (i:=0) (v:=.pointer (some ⟨w.heap.size,2,none⟩)) rfl (by kernel_rfl) (by kernel_rfl) (by kernel_rfl) (fun _ _ _ h=>h) (.inl ⟨rfl,fun w _=>rfl⟩) hS0 ?_
   simp only [Act.put,List.getElem_toArray,List.getElem_cons_zero,List.getElem_cons_succ,List.setIfInBounds_toArray,List.set_cons_zero,List.set_cons_succ]
   refine wpAnyH_take (i:=1) (v:=.slice a1 m1 e1) rfl (by kernel_rfl) (by kernel_rfl) (by kernel_rfl) (fun _ _ _ h=>h) (Held.load1 rfl 36 (.tmp 16) rfl w.heap.size 2 rfl _ _ HL2.out Tryz.underlying36 rfl) hS0 ?_
   simp only [Act.put,List.getElem_toArray,List.getElem_cons_zero,List.getElem_cons_succ,List.setIfInBounds_toArray,List.set_cons_zero,List.set_cons_succ]
   refine wpAnyH_take (i:=2) (v:=.pointer (some ⟨w.heap.size,3,none⟩)) rfl (by kernel_rfl) (by kernel_rfl) (by kernel_rfl) (fun _ _ _ h=>h) (.inl ⟨rfl,fun w _=>rfl⟩) hS0 ?_
   simp only [Act.put,List.getElem_toArray,List.getElem_cons_zero,List.getElem_cons_succ,List.setIfInBounds_toArray,List.set_cons_zero,List.set_cons_succ]
   refine wpAnyH_take (i:=3) (v:=.slice a2 m2 e2) rfl (by kernel_rfl) (by kernel_rfl) (by kernel_rfl) (fun _ _ _ h=>h) (Held.load1 rfl 36 (.tmp 18) rfl w.heap.size 3 rfl _ _ HL3.out Tryz.underlying36 rfl) hS0 ?_
   simp only [Act.put,List.getElem_toArray,List.getElem_cons_zero,List.getElem_cons_succ,List.setIfInBounds_toArray,List.set_cons_zero,List.set_cons_succ]
   refine wpAnyH_take (i:=4) (v:=.pointer (some ⟨w.heap.size,4,none⟩)) rfl (by kernel_rfl) (by kernel_rfl) (by kernel_rfl) (fun _ _ _ h=>h) (.inl ⟨rfl,fun w _=>rfl⟩) hS0 ?_
   simp only [Act.put,List.getElem_toArray,List.getElem_cons_zero,List.getElem_cons_succ,List.setIfInBounds_toArray,List.set_cons_zero,List.set_cons_succ]
   refine wpAnyH_take (i:=5) (v:=.slice a3 m3 e3) rfl (by kernel_rfl) (by kernel_rfl) (by kernel_rfl) (fun _ _ _ h=>h) (Held.load1 rfl 36 (.tmp 20) rfl w.heap.size 4 rfl _ _ HL4.out Tryz.underlying36 rfl) hS0 ?_
   simp only [Act.put,List.getElem_toArray,List.getElem_cons_zero,List.getElem_cons_succ,List.setIfInBounds_toArray,List.set_cons_zero,List.set_cons_succ]
   refine wpAnyH_take (i:=6) (v:=.pointer (some ⟨w.heap.size,5,none⟩)) rfl (by kernel_rfl) (by kernel_rfl) (by kernel_rfl) (fun _ _ _ h=>h) (.inl ⟨rfl,fun w _=>rfl⟩) hS0 ?_
   simp only [Act.put,List.getElem_toArray,List.getElem_cons_zero,List.getElem_cons_succ,List.setIfInBounds_toArray,List.set_cons_zero,List.set_cons_succ]
   refine wpAnyH_take (i:=7) (v:=u4) rfl (by kernel_rfl) (by kernel_rfl) (by kernel_rfl) (fun _ _ _ h=>h) (Held.load1 rfl 37 (.tmp 22) rfl w.heap.size 5 rfl _ _ HL5.out Tryz.underlying37 rfl) hS0 ?_
   simp only [Act.put,List.getElem_toArray,List.getElem_cons_zero,List.getElem_cons_succ,List.setIfInBounds_toArray,List.set_cons_zero,List.set_cons_succ]
   refine wpAnyH_take (i:=10) (v:=.pointer (some ⟨w.heap.size,6,none⟩)) rfl (by kernel_rfl) (by kernel_rfl) (by kernel_rfl) (fun _ _ _ h=>h) (.inl ⟨rfl,fun w _=>rfl⟩) hS0 ?_
   simp only [Act.put,List.getElem_toArray,List.getElem_cons_zero,List.getElem_cons_succ,List.setIfInBounds_toArray,List.set_cons_zero,List.set_cons_succ]
   refine wpAnyH_take (i:=11) (v:=u5) rfl (by kernel_rfl) (by kernel_rfl) (by kernel_rfl) (fun _ _ _ h=>h) (Held.load1 rfl 37 (.tmp 26) rfl w.heap.size 6 rfl _ _ HL6.out Tryz.underlying37 rfl) hS0 ?_
   simp only [Act.put,List.getElem_toArray,List.getElem_cons_zero,List.getElem_cons_succ,List.setIfInBounds_toArray,List.set_cons_zero,List.set_cons_succ]
   refine wpAnyH_take (i:=14) (v:=.pointer (some ⟨w.heap.size,7,none⟩)) rfl (by kernel_rfl) (by kernel_rfl) (by kernel_rfl) (fun _ _ _ h=>h) (.inl ⟨rfl,fun w _=>rfl⟩) hS0 ?_
   simp only [Act.put,List.getElem_toArray,List.getElem_cons_zero,List.getElem_cons_succ,List.setIfInBounds_toArray,List.set_cons_zero,List.set_cons_succ]
   refine wpAnyH_take (i:=15) (v:=u6) rfl (by kernel_rfl) (by kernel_rfl) (by kernel_rfl) (fun _ _ _ h=>h) (Held.load1 rfl 38 (.tmp 30) rfl w.heap.size 7 rfl _ _ HL7.out Tryz.underlying38 rfl) hS0 ?_
   simp only [Act.put,List.getElem_toArray,List.getElem_cons_zero,List.getElem_cons_succ,List.setIfInBounds_toArray,List.set_cons_zero,List.set_cons_succ]
   refine wpAnyH_take (i:=20) (v:=.int .i64 0) rfl (by kernel_rfl) (by kernel_rfl) (by kernel_rfl) (fun _ _ _ h=>h) (.inl ⟨rfl,fun w _=>rfl⟩) hS0 ?_
   simp only [Act.put,List.getElem_toArray,List.getElem_cons_zero,List.getElem_cons_succ,List.setIfInBounds_toArray,List.set_cons_zero,List.set_cons_succ]
   have cx:=cut_any _ p.con u0 (H2.out.con.below hS0)
   refine wpAnyH_all (rs:=[8]) (by kernel_rfl) (by simp) ?_
   intro i hi
   obtain rfl:=List.mem_singleton.1 hi
   refine Reg.wpOp_list rfl ?_
   go_wp2_with fail
   refine cx.mono ?_
   rintro e u1 ⟨v1,rfl,hv1,k1⟩
   go_wp2_with fail
   change _ ∧ _
   have hS1:Below w2.heap.size w2 u1:=hS0.trans (k1.mono hS0.size)
   refine ⟨hS1,?_⟩
   clear cx
   have cx:=Rl.singles_any v1 _ u1 hv1 (by rw [List.length_take]; omega)
   refine wpAnyH_all (rs:=[9]) (by kernel_rfl) (by simp) ?_
   intro i hi
   obtain rfl:=List.mem_singleton.1 hi
   refine Reg.wpOp_list rfl ?_
   go_wp2_with fail
   refine cx.mono ?_
   rintro e u2 ⟨s1,rfl,hs1,k2⟩
   go_wp2_with fail
   change _ ∧ _
   have hS2:Below w2.heap.size w2 u2:=hS1.trans (k2.mono hS1.size)
   refine ⟨hS2,?_⟩
   clear cx
   have cx:=cut_any _ p.brk u2 (H2.out.brk.below hS2)
   refine wpAnyH_all (rs:=[12]) (by kernel_rfl) (by simp) ?_
   intro i hi
   obtain rfl:=List.mem_singleton.1 hi
   refine Reg.wpOp_list rfl ?_
   go_wp2_with fail
   refine cx.mono ?_
   rintro e u3 ⟨v2,rfl,hv2,k3⟩
   go_wp2_with fail
   change _ ∧ _
   have hS3:Below w2.heap.size w2 u3:=hS2.trans (k3.mono hS2.size)
   refine ⟨hS3,?_⟩
   clear cx
   have cx:=Rl.singles_any v2 _ u3 hv2 (by rw [List.length_take]; omega)
   refine wpAnyH_all (rs:=[13]) (by kernel_rfl) (by simp) ?_
   intro i hi
   obtain rfl:=List.mem_singleton.1 hi
   refine Reg.wpOp_list rfl ?_
   go_wp2_with fail
   refine cx.mono ?_
   rintro e u4 ⟨s2,rfl,hs2,k4⟩
   go_wp2_with fail
   change _ ∧ _
   have hS4:Below w2.heap.size w2 u4:=hS3.trans (k4.mono hS3.size)
   refine ⟨hS4,?_⟩
   clear cx
   have cx:=cutProvides_any _ p.prv u4 (H2.out.prv.below hS4)
   refine wpAnyH_all (rs:=[16]) (by kernel_rfl) (by simp) ?_
   intro i hi
   obtain rfl:=List.mem_singleton.1 hi
   refine Reg.wpOp_list rfl ?_
   go_wp2_with fail
   refine cx.mono ?_
   rintro e u5 ⟨v3,rfl,hv3,k5⟩
   go_wp2_with fail
   change _ ∧ _
   have hS5:Below w2.heap.size w2 u5:=hS4.trans (k5.mono hS4.size)
   refine ⟨hS5,?_⟩
   clear cx
   have cx:=Rl.provided_any v3 _ u5 hv3 (by rw [List.length_take]; omega)
   refine wpAnyH_all (rs:=[17]) (by kernel_rfl) (by simp) ?_
   intro i hi
   obtain rfl:=List.mem_singleton.1 hi
   refine Reg.wpOp_list rfl ?_
   go_wp2_with fail
   refine cx.mono ?_
   rintro e u6 ⟨v4,rfl,hv4,k6⟩
   go_wp2_with fail
   change _ ∧ _
   have hS6:Below w2.heap.size w2 u6:=hS5.trans (k6.mono hS5.size)
   refine ⟨hS6,?_⟩
   clear cx
   have cx:=Rl.singles_any v4 _ u6 hv4 (by rw [List.length_map,List.length_take]; omega)
   refine wpAnyH_all (rs:=[18]) (by kernel_rfl) (by simp) ?_
   intro i hi
   obtain rfl:=List.mem_singleton.1 hi
   refine Reg.wpOp_list rfl ?_
   go_wp2_with fail
   refine cx.mono ?_
   rintro e u7 ⟨s3,rfl,hs3,k7⟩
   go_wp2_with fail
   change _ ∧ _
   have hS7:Below w2.heap.size w2 u7:=hS6.trans (k7.mono hS6.size)
   refine ⟨hS7,?_⟩
   clear cx
   have q1:=((((hs1.below k3).below k4).below k5).below k6).below k7
   have q2:=((hs2.below k5).below k6).below k7
   have hp:=H2.out.below hS7
   obtain ⟨b1,g1,rfl⟩:=q1.shape
   obtain ⟨b2,g2,rfl⟩:=q2.shape
   obtain ⟨b3,g3,rfl⟩:=hs3.shape
   obtain ⟨r1,hr1⟩:∃ r,((p.con.take 13).map fun a=>[a]).length = r:=⟨_,rfl⟩
   obtain ⟨r2,hr2⟩:∃ r,((p.brk.take 13).map fun a=>[a]).length = r:=⟨_,rfl⟩
   obtain ⟨r3,hr3⟩:∃ r,(((p.prv.take 13).map pvA).map fun a=>[a]).length = r:=⟨_,rfl⟩
   have HC:Hid (∀ j,j < 6 → Clss u7 ([.slice a1 m1 e1,.slice a2 m2 e2,.slice a3 m3 e3,.slice b1 r1 g1,.slice b2 r2 g2,.slice b3 r3 g3].getD j undef) ((six p).getD j []) ∧ LimC ((six p).getD j [])):=Lib.hid fun j hj=>by
    match j,hj with
    | 0,_=>exact ⟨hp.pre,HL.out.pre⟩
    | 1,_=>exact ⟨hp.dep,HL.out.dep⟩
    | 2,_=>exact ⟨hp.rcm,HL.out.rcm⟩
    | 3,_=>exact ⟨by rw [← hr1]; exact q1,lim_sing HL.out.con⟩
    | 4,_=>exact ⟨by rw [← hr2]; exact q2,lim_sing HL.out.brk⟩
    | 5,_=>exact ⟨by rw [← hr3]; exact hs3,lim_prov HL.out.prv⟩
   rw [hr1,hr2,hr3]
   clear q1 q2 hp hs1 hs2 hs3 hv1 hv2 hv3 hv4 k1 k2 k3 k4 k5 k6 k7 hr1 hr2 hr3
   refine wpAnyH_all (rs:=[19]) (by kernel_rfl) (by simp) ?_
   intro i hi
   obtain rfl:=List.mem_singleton.1 hi
   refine Reg.wpOp_list rfl ?_
   go_wp2_with fail
   change _ ∧ _
   refine ⟨hS7,?_⟩
   refine wpAnyH_done (by kernel_rfl) ?_ _
   have hK:=Lib.hid (HB2.out.trans (hS7.mono HB2.out.size))
   have HS6:=Lib.hid (six_or p)
   have hlen:(six p).length = 6:=rfl
   obtain ⟨sx,hsx⟩:∃ sx,six p = sx:=⟨_,rfl⟩
   rw [hsx] at HC HM hlen
   have HLEN:=Lib.hid hlen
   clear HS6 hsx hlen hS0 hS1 hS2 hS3 hS4 hS5 hS6 hS7 HL2 HL3 HL4 HL5 HL6 HL7 HL H2 HB2 HI H
   go_wp2_with fail
   go_loopg [36] 6 (fun gf s1 wx=>∃ k:Nat,s1 = .int .i64 k ∧ Below w.heap.size w wx ∧ Below u7.heap.size u7 wx ∧ Hid (∀ j,j < k → mayC (sx.getD j []) = 0) ∧ k ≤ 6 ∧ 6 ≤ k + gf)
   case atStart=>exact ⟨0,rfl,hK.out,Below.refl _ _,fun j hj=>absurd hj (by omega),by omega,by omega⟩
   case round =>
    obtain ⟨k,rfl,hbw,hbu,HE,hkn,hfu⟩:=hrel
    by_cases hlt:k < 6
    ·obtain ⟨g',rfl⟩:∃ g',gk = g' + 1:=⟨gk - 1,by omega⟩
     have hlt':(k:Int) < 6:=by omega
     obtain ⟨hc,hl⟩:=HC.out k hlt
     have ca:=ymayClauses_any _ _ wr (hc.below hbu) hl
     obtain ⟨xa,xc,hx⟩:=hc.shape
     rw [hx] at ca
     have hidx:=fun w=>index_six #[.slice a1 m1 e1,.slice a2 m2 e2,.slice a3 m3 e3,.slice b1 r1 g1,.slice b2 r2 g2,.slice b3 r3 g3] k hlt (.slice xa (sx.getD k []).length xc) (by
      rw [← hx]
      match k,hlt with
      | 0,_=>rfl
      | 1,_=>rfl
      | 2,_=>rfl
      | 3,_=>rfl
      | 4,_=>rfl
      | 5,_=>rfl) w
     obtain ⟨m,hm⟩:∃ m,mayC (sx.getD k []) = m:=⟨_,rfl⟩
     rw [hm] at ca
     have HMM:=Lib.hid hm
     generalize (sx.getD k []).length = xl at *
     have HBW:=Lib.hid hbw
     have HBU:=Lib.hid hbu
     clear hc hl hx hm hbw hbu
     by_cases hz:m = 0
     ·subst hz
      have HE2:Hid (∀ j,j < k + 1 → mayC (sx.getD j []) = 0):=fun j hj=>by
       by_cases e:j = k
       ·rw [e]; exact HMM.out
       ·exact HE.out j (by omega)
      clear HE HMM
      go_wp2_with fail
      refine ca.mono ?_
      rintro e w1 ⟨rfl,k1⟩
      have hb1:=HBW.out.trans (k1.mono HBW.out.size)
      have hb2:=HBU.out.trans (k1.mono HBU.out.size)
      clear ca k1 HBW HBU
      go_wp2_with fail
      go_roundg g'
      case measure=>omega
      case rel=>exact ⟨k + 1,by go_num,hb1,hb2,HE2.out,by omega,by omega⟩
     ·have hG:M = m:=by
       rw [← HM.out]
       refine orI_at (i:=k) (fun j hj=>?_) ?_ hz
       ·have h1:=HE.out j hj
        have hjl:j < sx.length:=by rw [HLEN.out]; omega
        rw [List.getD_eq_getElem?_getD,List.getElem?_eq_getElem hjl] at h1
        simp only [Option.getD_some] at h1
        simp [List.getD_eq_getElem?_getD,hjl,h1]
       ·have h1:=HMM.out
        have hjl:k < sx.length:=by rw [HLEN.out]; omega
        rw [List.getD_eq_getElem?_getD,List.getElem?_eq_getElem hjl] at h1
        simp only [Option.getD_some] at h1
        simp [hjl,h1]
      have hne:(m != 0) = true:=by simp [hz]
      subst hG
      clear HM HE HMM hz
      go_wp2_with fail
      refine ca.mono ?_
      rintro e w1 ⟨rfl,k1⟩
      have hb1:=HBW.out.trans (k1.mono HBW.out.size)
      go_wp2_with fail
      go_ret
      exact ⟨rfl,hb1⟩
    ·have hge:¬ (k:Int) < 6:=by omega
     have hG:M = 0:=by
      rw [← HM.out]
      refine orI_all fun x hx=>?_
      obtain ⟨y,hy,rfl⟩:=List.mem_map.1 hx
      obtain ⟨i,hi,rfl⟩:=List.mem_iff_getElem.1 hy
      have h1:=HE.out i (by rw [HLEN.out] at hi; omega)
      rw [List.getD_eq_getElem?_getD,List.getElem?_eq_getElem hi] at h1
      exact h1
     subst hG
     have HBW:=Lib.hid hbw
     clear HM HE hbw hbu
     go_wp2_with fail
     go_ret
     exact ⟨rfl,HBW.out⟩
end Rc
end Go.Proofs.YtmhpjjjjgakpiaaGreatDoor

/-
The reference's Healthy.
-/
import Derived.Test.YtmhpjjjjgakpiaaGreatDoorDStaConf
import Derived.Test.YtmhpjjjjgakpiaaGreatDoorDStaYMet
import Derived.Test.YtmhpjjjjgakpiaaGreatDoorDRecYMay
import Derived.Test.YtmhpjjjjgakpiaaGreatDoorDIxYClash
import Derived.Test.YtmhpjjjjgakpiaaGreatDoorDTextTexts
namespace Go.Proofs.YtmhpjjjjgakpiaaGreatDoor
open Go.RowKit
set_option linter.unusedSimpArgs false
set_option linter.unusedVariables false
namespace Sa
open Ver (S)
open Rl (At Clss LimC mem_getD)
open Rc (Pk nPk Has Pks pk_read mayK)
open Ix (clash)
theorem heaB_no {l:List Pk} {i:Nat} (hi:i < l.length) (h:¬ okR l i):heaB l = false:=by
 rw [Bool.eq_false_iff]
 intro hh
 exact h (hea_iff.1 (heaB_iff.1 hh) i hi)
theorem heaB_yes {l:List Pk} (h:∀ i,i < l.length → okR l i):heaB l = true:=heaB_iff.2 (hea_iff.2 h)
def preDep (p:Pk):List (List (List At)):=[p.pre,p.dep]
theorem okR_of {l:List Pk} {i:Nat} {x:Pk} (hx:l.getD i nPk = x) (h1:mayK x = 0) (h2:∀ j,j < i → (l.getD j nPk).nm ≠ x.nm ∧ clash x (l.getD j nPk) = false) (h3:∀ t,t < 2 → ∀ c ∈ (preDep x).getD t [],metR l c = true):okR l i:=by
 unfold okR
 rw [hx]
 exact ⟨h1,h2,h3 0 (by omega),h3 1 (by omega)⟩
theorem okR_met {l:List Pk} {i:Nat} {x:Pk} (hx:l.getD i nPk = x) (h:okR l i) {t:Nat} (ht:t < 2):∀ c ∈ (preDep x).getD t [],metR l c = true:=by
 unfold okR at h
 rw [hx] at h
 match t,ht with
 | 0,_=>exact h.2.2.1
 | 1,_=>exact h.2.2.2
theorem pk_size (w:World):(sizeOf 40).run Tryz.prog w = .ok 9 w:=by
 obtain ⟨i0,hi,hz0,hz1,hz2⟩:=info_parts Rc.infoPk
 simp [sizeOf,typeInfo,hi,hz1]
theorem slice_head (ra:Option Addr) (n rc t:Nat) (h:t ≤ rc) (w:World):(Instr.slice 22 (.slice ra n rc) none (some (.int .i64 (t:Int))) none).run Tryz.prog w = .ok (.slice ra t rc) w:=by
 have hsz:=pk_size w
 have h0:∀ x:Addr,x.add 0 = x:=fun x=>by
  obtain ⟨b,o,p⟩:=x
  cases p <;> simp [Addr.add]
 cases ra <;> simp [h0,Instr.slice,Instr.sliceBounds,Instr.sliceBound,asIntOf,run_underlying Tryz.underlying22,hsz,h]
theorem at_slice {x v:Value} {lo hi:Option Value} {w:World} (h:(Instr.slice 22 x lo hi none).run Tryz.prog w = .ok v w):(Instr.sliceAt 22 x lo hi none).run Tryz.prog w = .ok v w:=by
 have e:Tryz.prog.elem 22 = 40:=by kernel_rfl
 rw [run_sliceAt_slice w 22 x lo hi none (by rw [e]; exact Tryz.underlying22)]
 exact h
theorem index_pd (cs:Array Value) (j:Nat) (hj:j < 2) (v:Value) (hv:cs[j]? = some v) (w:World):(Instr.index 74 (.agg cs) (.int .i64 j)).run Tryz.prog w = .ok v w :=
 Held.run_index_one (e:=36) (n:=2) (by kernel_rfl) Tryz.underlying36 rfl (by kernel_rfl) hj hv w
set_option maxRecDepth 100000 in
set_option maxHeartbeats 16000000 in
theorem yhealthy_any (v:Value) (l:List Pk) (w:World) (h:Pks w v l) (hL:∀ x ∈ l,x.Lim) :
  Calls Tryz.prog 19 #[v] w fun e w'=>e = .returned (.bool (heaB l)) ∧ Below w.heap.size w w':=by
 obtain ⟨hn0,sa,cap,rfl,hcap,hcl0⟩:=id h
 obtain ⟨G,hG⟩:∃ G,heaB l = G:=⟨_,rfl⟩
 have HG:=Lib.hid hG
 rw [hG]
 have HL:=Lib.hid hL
 obtain ⟨n,hn⟩:∃ n,l.length = n:=⟨_,rfl⟩
 have H:=Lib.hid (show Pks w (.slice sa n cap) l by rw [← hn]; exact h)
 have HN:=Lib.hid hn
 rw [hn] at hn0 hcap
 rw [hn]
 clear hn hG h hL hcl0
 go_enter Tryz.func19,Tryz.ntmps19
 go_wp2_with fail
 go_loopg [13] n (fun gf s13 wx=>∃ i:Nat,s13 = .int .i64 i ∧ Hid (Below w.heap.size w wx) ∧ Hid (∀ j,j < i → okR l j) ∧ i ≤ n ∧ n ≤ i + gf)
 case atStart=>exact ⟨0,rfl,Below.refl _ _,Lib.hid (fun j hj=>absurd hj (by omega)),by omega,by omega⟩
 case round =>
  obtain ⟨i,rfl,B,HE,hin,hfu⟩:=hrel
  by_cases hlt:i < n
  ·obtain ⟨g',rfl⟩:∃ g',gk = g' + 1:=⟨gk - 1,by omega⟩
   have hlt':(i:Int) < (n:Int):=by omega
   have hi0:(0:Int) ≤ i:=by omega
   have hil:i < l.length:=by rw [HN.out]; exact hlt
   obtain ⟨_,a',cap',e1,_,hcells⟩:=H.out.below B.out
   rw [HN.out] at e1
   simp only [Value.slice.injEq,true_and] at e1
   obtain ⟨rfl,rfl⟩:=e1
   obtain ⟨kb,off,esa,hcl2⟩:=hcells (by omega)
   obtain ⟨a1,n1,c1,a2,n2,c2,a3,n3,c3,a4,n4,c4,a5,n5,c5,a6,n6,c6,⟨x0,x1,x2,x3,x4,x5,x6,x7,x8⟩,hh⟩:=pk_read (hcl2 i hil)
   rw [Nat.mul_comm 9 i] at x0 x1 x2 x3 x4 x5 x6 x7 x8
   have hlim:=HL.out _ (mem_getD (z:=nPk) hil)
   have HIL:=Lib.hid hil
   obtain ⟨x,hx⟩:∃ x,l.getD i nPk = x:=⟨_,rfl⟩
   rw [hx] at x0 x1 x8 hlim hh
   have HX:=Lib.hid hx
   have HLX:=Lib.hid hlim
   have hb2:=(Below.refl wr.heap.size wr).alloc (Nat.le_refl _) (.cells #[.string (S x.nm),.string (S x.vs),.slice a1 n1 c1,.slice a2 n2 c2,.slice a3 n3 c3,.slice a4 n4 c4,.slice a5 n5 c5,.slice a6 n6 c6,.bool x.ess] 40)
   have i2:=Blk.Is.new wr 40 #[.string (S x.nm),.string (S x.vs),.slice a1 n1 c1,.slice a2 n2 c2,.slice a3 n3 c3,.slice a4 n4 c4,.slice a5 n5 c5,.slice a6 n6 c6,.bool x.ess]
   obtain ⟨bx,hbx⟩:∃ bx,wr.heap.size = bx:=⟨_,rfl⟩
   obtain ⟨V,hV⟩:∃ V,wr.alloc (.cells #[.string (S x.nm),.string (S x.vs),.slice a1 n1 c1,.slice a2 n2 c2,.slice a3 n3 c3,.slice a4 n4 c4,.slice a5 n5 c5,.slice a6 n6 c6,.bool x.ess] 40) = V:=⟨_,rfl⟩
   rw [hV] at hb2 i2
   rw [hbx] at i2
   have b2:=B.out.trans (hb2.mono B.out.size)
   have hh2:=hh.below hb2
   have cm:=Rc.ymay_any (.agg #[.string (S x.nm),.string (S x.vs),.slice a1 n1 c1,.slice a2 n2 c2,.slice a3 n3 c3,.slice a4 n4 c4,.slice a5 n5 c5,.slice a6 n6 c6,.bool x.ess]) x V ⟨_,_,_,_,_,_,rfl,hh2⟩ hlim
   have HHV:=Lib.hid hh2
   have B2:=Lib.hid b2
   have I:=Lib.hid i2
   have z0:=i2.at (i:=0) rfl
   have z1:=i2.at (i:=1) rfl
   have z2:=i2.at (i:=2) rfl
   have z3:=i2.at (i:=3) rfl
   have z4:=i2.at (i:=4) rfl
   have z5:=i2.at (i:=5) rfl
   have z6:=i2.at (i:=6) rfl
   have z7:=i2.at (i:=7) rfl
   have z8:=i2.at (i:=8) rfl
   have hu:=hV
   obtain ⟨mk,hmk⟩:∃ mk,mayK x = mk:=⟨_,rfl⟩
   rw [hmk] at cm
   have HMK:=Lib.hid hmk
   clear hcells hcl2 hil hlim hx hb2 i2 b2 hh2 hV hh B hmk
   subst esa
   by_cases hm:mk = 0
   ·subst hm
    go_wp2_with fail
    refine cm.mono ?_
    rintro e w4 ⟨rfl,k4⟩
    have HH4:=Lib.hid (HHV.out.below k4)
    have I4:=Lib.hid (Rl.is_on I.out k4)
    have B4:=Lib.hid (B2.out.trans (k4.mono B2.out.size))
    have hsl:=fun w=>slice_head (some ⟨kb,off,none⟩) n cap i (by omega) w
    have hsa:=fun w=>at_slice (slice_head (some ⟨kb,off,none⟩) n cap i (by omega) w)
    have hic:(i:Int) ≤ (cap:Int):=by omega
    clear cm k4 HHV I B2 hu x0 x1 x2 x3 x4 x5 x6 x7 x8 z0 z1 z2 z3 z4 z5 z6 z7 z8
    go_wp2_with fail
    clear hsl hsa hic
    go_loopg [25] i (fun gf s25 wx=>∃ k:Nat,s25 = .int .i64 k ∧ Hid (Below w.heap.size w wx) ∧ Hid (Blk.Is wx bx 40 #[.string (S x.nm),.string (S x.vs),.slice a1 n1 c1,.slice a2 n2 c2,.slice a3 n3 c3,.slice a4 n4 c4,.slice a5 n5 c5,.slice a6 n6 c6,.bool x.ess]) ∧ Hid (Has wx x (.slice a1 n1 c1) (.slice a2 n2 c2) (.slice a3 n3 c3) (.slice a4 n4 c4) (.slice a5 n5 c5) (.slice a6 n6 c6)) ∧ Hid (∀ j,j < k → (l.getD j nPk).nm ≠ x.nm ∧ clash x (l.getD j nPk) = false) ∧ k ≤ i ∧ i ≤ k + gf)
    case atStart=>exact ⟨0,rfl,B4,I4,HH4,Lib.hid (fun j hj=>absurd hj (by omega)),by omega,by omega⟩
    case round =>
     clear B4 I4 HH4
     obtain ⟨k,rfl,B,I,HH,HC,hki,hfu2⟩:=hrel
     by_cases hk:k < i
     ·obtain ⟨g2,rfl⟩:∃ g2,gk = g2 + 1:=⟨gk - 1,by omega⟩
      have hk':(k:Int) < (i:Int):=by omega
      have hk0:(0:Int) ≤ k:=by omega
      have hkl:k < l.length:=by rw [HN.out]; omega
      obtain ⟨_,a',cap',e1,_,hcells⟩:=H.out.below B.out
      rw [HN.out] at e1
      simp only [Value.slice.injEq,true_and] at e1
      obtain ⟨rfl,rfl⟩:=e1
      obtain ⟨kb',off',e1,hcl2⟩:=hcells (by omega)
      simp only [Option.some.injEq,Addr.mk.injEq,and_true] at e1
      obtain ⟨rfl,rfl⟩:=e1
      obtain ⟨b1,m1,d1,b2,m2,d2,b3,m3,d3,b4,m4,d4,b5,m5,d5,b6,m6,d6,⟨x0,x1,x2,x3,x4,x5,x6,x7,x8⟩,hh⟩:=pk_read (hcl2 k hkl)
      rw [Nat.mul_comm 9 k] at x0 x1 x2 x3 x4 x5 x6 x7 x8
      have hlim:=HL.out _ (mem_getD (z:=nPk) hkl)
      obtain ⟨y,hy⟩:∃ y,l.getD k nPk = y:=⟨_,rfl⟩
      rw [hy] at x0 x1 x8 hlim hh
      have HY:=Lib.hid hy
      have hb2:=(Below.refl wr.heap.size wr).alloc (Nat.le_refl _) (.cells #[.string (S y.nm),.string (S y.vs),.slice b1 m1 d1,.slice b2 m2 d2,.slice b3 m3 d3,.slice b4 m4 d4,.slice b5 m5 d5,.slice b6 m6 d6,.bool y.ess] 40)
      have i2:=Blk.Is.new wr 40 #[.string (S y.nm),.string (S y.vs),.slice b1 m1 d1,.slice b2 m2 d2,.slice b3 m3 d3,.slice b4 m4 d4,.slice b5 m5 d5,.slice b6 m6 d6,.bool y.ess]
      obtain ⟨by',hby⟩:∃ by',wr.heap.size = by':=⟨_,rfl⟩
      obtain ⟨V2,hV⟩:∃ V,wr.alloc (.cells #[.string (S y.nm),.string (S y.vs),.slice b1 m1 d1,.slice b2 m2 d2,.slice b3 m3 d3,.slice b4 m4 d4,.slice b5 m5 d5,.slice b6 m6 d6,.bool y.ess] 40) = V:=⟨_,rfl⟩
      rw [hV] at hb2 i2
      rw [hby] at i2
      have iv:=Rl.is_on I.out hb2
      have hv2:=HH.out.below hb2
      have cs:=Ix.yclash_any (.agg #[.string (S x.nm),.string (S x.vs),.slice a1 n1 c1,.slice a2 n2 c2,.slice a3 n3 c3,.slice a4 n4 c4,.slice a5 n5 c5,.slice a6 n6 c6,.bool x.ess]) (.agg #[.string (S y.nm),.string (S y.vs),.slice b1 m1 d1,.slice b2 m2 d2,.slice b3 m3 d3,.slice b4 m4 d4,.slice b5 m5 d5,.slice b6 m6 d6,.bool y.ess]) x y V2 ⟨_,_,_,_,_,_,rfl,hv2⟩ ⟨_,_,_,_,_,_,rfl,hh.below hb2⟩ HLX.out hlim
      have B2:=Lib.hid (B.out.trans (hb2.mono B.out.size))
      have I2:=Lib.hid iv
      have HH2:=Lib.hid hv2
      have q0:=iv.at (i:=0) rfl
      have z0:=i2.at (i:=0) rfl
      have q1:=iv.at (i:=1) rfl
      have z1:=i2.at (i:=1) rfl
      have q2:=iv.at (i:=2) rfl
      have z2:=i2.at (i:=2) rfl
      have q3:=iv.at (i:=3) rfl
      have z3:=i2.at (i:=3) rfl
      have q4:=iv.at (i:=4) rfl
      have z4:=i2.at (i:=4) rfl
      have q5:=iv.at (i:=5) rfl
      have z5:=i2.at (i:=5) rfl
      have q6:=iv.at (i:=6) rfl
      have z6:=i2.at (i:=6) rfl
      have q7:=iv.at (i:=7) rfl
      have z7:=i2.at (i:=7) rfl
      have q8:=iv.at (i:=8) rfl
      have z8:=i2.at (i:=8) rfl
      have hq:((S y.nm).toList == (S x.nm).toList) = decide (y.nm = x.nm):=Rl.S_beq _ _
      have hu:=hV
      clear hcells hcl2 hkl hlim hy hb2 i2 hV hh iv hv2 B I HH
      by_cases hnm:y.nm = x.nm
      ·rw [decide_eq_true hnm] at hq
       have hG:G = false:=by
        rw [← HG.out]
        refine heaB_no HIL.out fun ho=>?_
        have:=(ho.2.1 k hk).1
        rw [HY.out,HX.out] at this
        exact this hnm
       subst hG
       clear HG HC HE hnm cs
       go_wp2_with fail
       go_ret
       exact ⟨rfl,B2.out⟩
      ·rw [decide_eq_false hnm] at hq
       cases hcl:clash x y with
       | true =>
        rw [hcl] at cs
        have hG:G = false:=by
         rw [← HG.out]
         refine heaB_no HIL.out fun ho=>?_
         have:=(ho.2.1 k hk).2
         rw [HY.out,HX.out,hcl] at this
         exact absurd this (by simp)
        subst hG
        clear HG HC HE hnm hcl
        go_wp2_with fail
        refine cs.mono ?_
        rintro e w5 ⟨rfl,k5⟩
        have hb:=B2.out.trans (k5.mono B2.out.size)
        clear cs
        go_wp2_with fail
        go_ret
        exact ⟨rfl,hb⟩
       | false =>
        rw [hcl] at cs
        have HC2:Hid (∀ j,j < k + 1 → (l.getD j nPk).nm ≠ x.nm ∧ clash x (l.getD j nPk) = false):=Lib.hid fun j hj=>by
         by_cases e:j = k
         ·rw [e,HY.out]; exact ⟨hnm,hcl⟩
         ·exact HC.out j (by omega)
        clear HC hnm hcl
        go_wp2_with fail
        refine cs.mono ?_
        rintro e w5 ⟨rfl,k5⟩
        have B5:=Lib.hid (B2.out.trans (k5.mono B2.out.size))
        have I5:=Lib.hid (Rl.is_on I2.out k5)
        have HH5:=Lib.hid (HH2.out.below k5)
        clear cs k5
        go_wp2_with fail
        go_roundg g2
        case measure=>omega
        case rel=>exact ⟨k + 1,by go_num,B5,I5,HH5,HC2,by omega,by omega⟩
     ·obtain rfl:i = k:=by omega
      have hge:¬ (i:Int) < (i:Int):=by omega
      have v2:=I.out.at (i:=2) rfl
      have v3:=I.out.at (i:=3) rfl
      have B4:=B
      have HH4:=HH
      clear hfu2 hki hk
      go_wp2_with fail
      clear v2 v3 hge I B HH
      go_loopg [45] 2 (fun gf s45 wx=>∃ t:Nat,s45 = .int .i64 t ∧ Hid (Below w.heap.size w wx) ∧ Hid (Has wx x (.slice a1 n1 c1) (.slice a2 n2 c2) (.slice a3 n3 c3) (.slice a4 n4 c4) (.slice a5 n5 c5) (.slice a6 n6 c6)) ∧ Hid (∀ j,j < t → ∀ c ∈ (preDep x).getD j [],metR l c = true) ∧ t ≤ 2 ∧ 2 ≤ t + gf)
      case atStart=>exact ⟨0,rfl,B4,HH4,Lib.hid (fun j hj=>absurd hj (by omega)),by omega,by omega⟩
      case round =>
       clear B4 HH4
       obtain ⟨t,rfl,B,HH,HT,ht2,hfu3⟩:=hrel
       by_cases ht:t < 2
       ·obtain ⟨g3,rfl⟩:∃ g3,gk = g3 + 1:=⟨gk - 1,by omega⟩
        have ht':(t:Int) < 2:=by omega
        obtain ⟨xa,xm,xc,hv,hcl⟩:∃ xa xm xc,(#[.slice a1 n1 c1,.slice a2 n2 c2]:Array Value)[t]? = some (.slice xa xm xc) ∧ (∀ wz,Has wz x (.slice a1 n1 c1) (.slice a2 n2 c2) (.slice a3 n3 c3) (.slice a4 n4 c4) (.slice a5 n5 c5) (.slice a6 n6 c6) → Clss wz (.slice xa xm xc) ((preDep x).getD t [])):=by
         match t,ht with
         | 0,_=>exact ⟨_,_,_,rfl,fun wz hz=>hz.pre⟩
         | 1,_=>exact ⟨_,_,_,rfl,fun wz hz=>hz.dep⟩
        have hidx:=fun w=>index_pd #[.slice a1 n1 c1,.slice a2 n2 c2] t ht _ hv w
        have hlim:LimC ((preDep x).getD t []):=by
         match t,ht with
         | 0,_=>exact HLX.out.pre
         | 1,_=>exact HLX.out.dep
        obtain ⟨cs,hcs⟩:∃ cs,(preDep x).getD t [] = cs:=⟨_,rfl⟩
        rw [hcs] at hcl hlim
        obtain ⟨_,_,em⟩:=(hcl _ HH.out).shape
        simp only [Value.slice.injEq] at em
        have hm0:=(hcl _ HH.out).1
        rw [← em.2.1] at hm0
        have HM:=Lib.hid em.2.1
        have HCL:=Lib.hid hcl
        have HCS:=Lib.hid hcs
        have HLC:=Lib.hid hlim
        clear hcl hcs hlim em hv
        go_wp2_with fail
        clear hidx
        go_loopg [50] xm (fun gf s50 wx=>∃ r:Nat,s50 = .int .i64 r ∧ Hid (Below w.heap.size w wx) ∧ Hid (Has wx x (.slice a1 n1 c1) (.slice a2 n2 c2) (.slice a3 n3 c3) (.slice a4 n4 c4) (.slice a5 n5 c5) (.slice a6 n6 c6)) ∧ Hid (∀ j,j < r → metR l (cs.getD j []) = true) ∧ r ≤ xm ∧ xm ≤ r + gf)
        case atStart=>exact ⟨0,rfl,B,HH,Lib.hid (fun j hj=>absurd hj (by omega)),by omega,by omega⟩
        case round =>
         clear B HH
         obtain ⟨r,rfl,B,HH,HR,hrm,hfu4⟩:=hrel
         by_cases hr:r < xm
         ·obtain ⟨g4,rfl⟩:∃ g4,gk = g4 + 1:=⟨gk - 1,by omega⟩
          have hr':(r:Int) < (xm:Int):=by omega
          have hr0:(0:Int) ≤ r:=by omega
          have hrl:r < cs.length:=by rw [← HM.out]; exact hr
          obtain ⟨_,a',cap',e1,_,hcells⟩:=HCL.out _ HH.out
          rw [← HM.out] at e1
          simp only [Value.slice.injEq,true_and] at e1
          obtain ⟨rfl,rfl⟩:=e1
          obtain ⟨kc,offc,exa,hat⟩:=hcells (by omega)
          obtain ⟨u,z0,hA⟩:=hat r hrl
          rw [Nat.one_mul] at z0
          have cm:=ymet_any u _ _ l wr hA (H.out.below B.out) HL.out (HLC.out _ (mem_getD (z:=[]) hrl))
          obtain ⟨ua,uc,rfl⟩:=hA.shape
          obtain ⟨um,hum⟩:∃ um,(cs.getD r []).length = um:=⟨_,rfl⟩
          rw [hum] at z0 cm
          have HRL:=Lib.hid hrl
          clear hcells hat hA hum hrl
          cases hme:metR l (cs.getD r []) with
          | false =>
           rw [hme] at cm
           have hG:G = false:=by
            rw [← HG.out]
            refine heaB_no HIL.out fun ho=>?_
            have:=okR_met HX.out ho ht
            rw [HCS.out] at this
            rw [this _ (mem_getD (z:=[]) HRL.out)] at hme
            cases hme
           subst hG
           subst exa
           clear HG HR HT HE hme HCL
           go_wp2_with fail
           refine cm.mono ?_
           rintro e w5 ⟨rfl,k5⟩
           have hb:=B.out.trans (k5.mono B.out.size)
           clear cm
           go_wp2_with fail
           go_ret
           exact ⟨rfl,hb⟩
          | true =>
           rw [hme] at cm
           have HR2:Hid (∀ j,j < r + 1 → metR l (cs.getD j []) = true):=Lib.hid fun j hj=>by
            by_cases e:j = r
            ·rw [e]; exact hme
            ·exact HR.out j (by omega)
           subst exa
           clear HR hme
           go_wp2_with fail
           refine cm.mono ?_
           rintro e w5 ⟨rfl,k5⟩
           have B5:=Lib.hid (B.out.trans (k5.mono B.out.size))
           have HH5:=Lib.hid (HH.out.below k5)
           clear cm k5
           go_wp2_with fail
           go_roundg g4
           case measure=>omega
           case rel=>exact ⟨r + 1,by go_num,B5,HH5,HR2,by omega,by omega⟩
         ·obtain rfl:xm = r:=by omega
          have hge:¬ (xm:Int) < (xm:Int):=by omega
          have HT2:Hid (∀ j,j < t + 1 → ∀ c ∈ (preDep x).getD j [],metR l c = true):=Lib.hid fun j hj=>by
           by_cases e:j = t
           ·subst e
            rw [HCS.out]
            intro c hc
            obtain ⟨q,hq,rfl⟩:=List.mem_iff_getElem.1 hc
            have:=HR.out q (by rw [HM.out]; exact hq)
            rwa [getD_of hq] at this
           ·exact HT.out j (by omega)
          clear HR HT HCL
          go_wp2_with fail
          go_roundg g3
          case measure=>omega
          case rel=>exact ⟨t + 1,by go_num,B,HH,HT2,by omega,by omega⟩
       ·have hge:¬ (t:Int) < 2:=by omega
        obtain rfl:t = 2:=by omega
        have HE2:Hid (∀ j,j < i + 1 → okR l j):=Lib.hid fun j hj=>by
         by_cases e:j = i
         ·subst e
          exact okR_of HX.out HMK.out HC.out HT.out
         ·exact HE.out j (by omega)
        clear HT HC HE HH
        go_wp2_with fail
        go_roundg g'
        case measure=>omega
        case rel=>exact ⟨i + 1,by go_num,B,HE2,by omega,by omega⟩
   ·have hmn:(mk != 0) = true:=by simp [hm]
    have hG:G = false:=by
     rw [← HG.out]
     refine heaB_no HIL.out fun ho=>?_
     have:=ho.1
     rw [HX.out,HMK.out] at this
     exact hm this
    subst hG
    clear HG HE HX HMK hm
    go_wp2_with fail
    refine cm.mono ?_
    rintro e w4 ⟨rfl,k4⟩
    have hb:=B2.out.trans (k4.mono B2.out.size)
    clear cm
    go_wp2_with fail
    go_ret
    exact ⟨rfl,hb⟩
  ·obtain rfl:n = i:=by omega
   have hge:¬ (n:Int) < (n:Int):=by omega
   have hG:G = true:=by rw [← HG.out]; exact heaB_yes fun j hj=>HE.out j (by rw [← HN.out]; exact hj)
   subst hG
   clear HG HE
   go_wp2_with fail
   go_ret
   exact ⟨rfl,B.out⟩
end Sa
end Go.Proofs.YtmhpjjjjgakpiaaGreatDoor

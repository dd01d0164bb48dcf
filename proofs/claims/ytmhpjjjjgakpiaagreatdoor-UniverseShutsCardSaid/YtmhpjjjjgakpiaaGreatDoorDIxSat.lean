/-
Satisfies, Clash: who meets an atom; who may not be there with whom.
-/
import Derived.Test.YtmhpjjjjgakpiaaGreatDoorDIxMap
namespace Go.Proofs.YtmhpjjjjgakpiaaGreatDoor
open Go.RowKit
set_option linter.unusedSimpArgs false
set_option linter.unusedVariables false
namespace Ix
open Ver (S S_size S_li holdsV)
open Rl (At Pv Pvs LimP Vars may aV pV nP mem_getD)
open Rc (Pk PkV)
set_option maxRecDepth 100000 in
set_option maxHeartbeats 4000000 in
theorem provides_any (v:Pv) (a:At) (w:World) (h1:LimPv v) (h2:LimAt a) (hv:Vars w) :
  Calls Tryz.prog 152 #[pV v,aV a] w fun e w'=>e = .returned (.bool (pmeets a v)) ∧ Below w.heap.size w w':=by
 obtain ⟨n,x⟩:=v
 obtain ⟨m,r,y⟩:=a
 obtain ⟨h1a,h1b⟩:=h1
 obtain ⟨h2a,h2b⟩:=h2
 simp only at h1a h1b h2a h2b
 have hb1:=(Below.refl w.heap.size w).alloc (Nat.le_refl _) (.cells #[.string (S n),.string (S x)] 101)
 have i1:=Blk.Is.new w 101 #[.string (S n),.string (S x)]
 have hb2:=hb1.alloc hb1.size (.cells #[.string (S m),.int .i64 r,.string (S y)] 54)
 have i2:=Blk.Is.new (w.alloc (.cells #[.string (S n),.string (S x)] 101)) 54 #[.string (S m),.int .i64 r,.string (S y)]
 have i1':=i1.alloc (.cells #[.string (S m),.int .i64 r,.string (S y)] 54)
 have hsz:(w.alloc (.cells #[.string (S n),.string (S x)] 101)).heap.size = w.heap.size + 1:=by simp
 rw [hsz] at i2
 obtain ⟨W,hW⟩:∃ W,(w.alloc (.cells #[.string (S n),.string (S x)] 101)).alloc (.cells #[.string (S m),.int .i64 r,.string (S y)] 54) = W:=⟨_,rfl⟩
 rw [hW] at hb2 i1' i2
 have c0:=i1'.at (i:=0) rfl
 have c1:=i1'.at (i:=1) rfl
 have d0:=i2.at (i:=0) rfl
 have d1:=i2.at (i:=1) rfl
 have d2:=i2.at (i:=2) rfl
 have cs:=Ver.holds_any r (S x) (S y) W (by rw [S_size]; omega) (by rw [S_size]; omega) (hv.on hb2).maxLen
 rw [S_li,S_li] at cs
 have hq:((S n).toList == (S m).toList) = decide (n = m):=Rl.S_beq _ _
 have hp:pmeets (m,r,y) (n,x) = (decide (n = m) && (decide (r = 0) || holdsV r x y)):=rfl
 rw [hp]
 have HB:=Lib.hid hb2
 clear hb1 i1 hb2 i1' i2 hsz hp hv
 unfold pV aV
 simp only
 generalize S n = A at *
 generalize S m = B at *
 generalize S x = A1 at *
 generalize S y = B1 at *
 generalize holdsV r x y = T at *
 cases hd:decide (n = m) with
 | false =>
  rw [hd] at hq
  rw [Bool.false_and]
  clear cs hd
  go_enter Tryz.func152,Tryz.ntmps152
  go_wp2_with fail
  go_ret
  exact ⟨rfl,HB.out⟩
 | true =>
  rw [hd] at hq
  rw [Bool.true_and]
  clear hd
  by_cases hr:r = 0
  ·have hr':(r == 0) = true:=by rw [hr]; rfl
   rw [decide_eq_true hr]
   clear cs hr
   go_enter Tryz.func152,Tryz.ntmps152
   go_wp2_with fail
   go_ret
   exact ⟨rfl,HB.out⟩
  ·have hr':(r == 0) = false:=by simp [hr]
   rw [decide_eq_false hr,Bool.false_or]
   clear hr
   go_enter Tryz.func152,Tryz.ntmps152
   go_wp2_with fail
   refine cs.mono ?_
   rintro e w1 ⟨rfl,k1⟩
   have hb1:=HB.out.trans (k1.mono HB.out.size)
   clear cs
   go_wp2_with fail
   go_ret
   exact ⟨rfl,hb1⟩
def AtB (w:World) (g:Nat) (a:At):Prop:=Blk.Is w g 54 #[.string (S a.1),.int .i64 a.2.1,.string (S a.2.2)]
theorem AtB.below {w w':World} {g:Nat} {a:At} (h:AtB w g a) (hb:Below w.heap.size w w'):AtB w' g a:=Rl.is_on h hb
set_option maxRecDepth 100000 in
set_option maxHeartbeats 2000000 in
theorem satFn_any (v:Pv) (g:Nat) (a:At) (w:World) (hg:AtB w g a) (h1:LimPv v) (h2:LimAt a) (hv:Vars w) :
  Calls Tryz.prog 151 #[pV v,.pointer (some ⟨g,0,none⟩)] w fun e w'=>e = .returned (.bool (pmeets a v)) ∧ Below w.heap.size w w':=by
 have hb1:=(Below.refl w.heap.size w).alloc (Nat.le_refl _) (.cells #[.string (S v.1),.string (S v.2)] 101)
 have i1:=Blk.Is.new w 101 #[.string (S v.1),.string (S v.2)]
 have i0:=Blk.Is.alloc hg (.cells #[.string (S v.1),.string (S v.2)] 101)
 have ca:=provides_any v a _ h1 h2 (hv.on hb1)
 unfold pV aV at *
 obtain ⟨W,hW⟩:∃ W,w.alloc (.cells #[.string (S v.1),.string (S v.2)] 101) = W:=⟨_,rfl⟩
 rw [hW] at hb1 i1 i0 ca
 have c0:=i0.at (i:=0) rfl
 have c1:=i0.at (i:=1) rfl
 have c2:=i0.at (i:=2) rfl
 have d0:=i1.at (i:=0) rfl
 have d1:=i1.at (i:=1) rfl
 have HB:=Lib.hid hb1
 clear hb1 i1 i0 hg hv h1 h2
 generalize pmeets a v = T at *
 go_enter Tryz.func151,Tryz.ntmps151
 go_wp2_with fail
 refine ca.mono ?_
 rintro e w1 ⟨rfl,k1⟩
 have hb1:=HB.out.trans (k1.mono HB.out.size)
 clear ca
 go_wp2_with fail
 go_ret
 exact ⟨rfl,hb1⟩
set_option maxRecDepth 100000 in
set_option maxHeartbeats 8000000 in
theorem indexProvide_any (v:Value) (l:List Pv) (g:Nat) (a:At) (w:World) (h:Pvs w v l) (hg:AtB w g a) (hL:LimP l) (ha:LimAt a) (hm:Vars w) :
  Calls Tryz.prog 171 #[v,.func (.func 151) #[] #[.pointer (some ⟨g,0,none⟩)]] w fun e w'=>∃ i:Int,e = .returned (.int .i64 i) ∧ (0 ≤ i ↔ l.any (pmeets a) = true) ∧ Below w.heap.size w w':=by
 obtain ⟨sa,cap,rfl⟩:=h.shape
 obtain ⟨G,hG⟩:∃ G,l.any (pmeets a) = G:=⟨_,rfl⟩
 have HG:=Lib.hid hG
 rw [hG]
 have H:=Lib.hid h
 have HPB:=Lib.hid hg
 have HL:=Lib.hid hL
 have HM:=Lib.hid hm
 obtain ⟨n,hn⟩:∃ n,l.length = n:=⟨_,rfl⟩
 have HN:=Lib.hid hn
 rw [hn]
 clear hn hG h hg hL hm
 go_enter Tryz.func171,Tryz.ntmps171
 go_wp2_with fail
 go_loopg [8] n (fun gf s8 wx=>∃ k:Nat,s8 = .int .i64 k ∧ Below w.heap.size w wx ∧ Hid (∀ j,j < k → pmeets a (l.getD j nP) = false) ∧ k ≤ n ∧ n ≤ k + gf)
 case atStart=>exact ⟨0,rfl,Below.refl _ _,fun j hj=>absurd hj (by omega),by omega,by omega⟩
 case round =>
  obtain ⟨k,rfl,hbw,HE,hkn,hfu⟩:=hrel
  by_cases hlt:k < n
  ·obtain ⟨g',rfl⟩:∃ g',gk = g' + 1:=⟨gk - 1,by omega⟩
   have hlt':(k:Int) < (n:Int):=by omega
   have hk0:(0:Int) ≤ k:=by omega
   have hkl:k < l.length:=by rw [HN.out]; exact hlt
   obtain ⟨_,a',cap',e1,_,hcells⟩:=H.out.below hbw
   simp only [Value.slice.injEq,true_and] at e1
   obtain ⟨rfl,rfl⟩:=e1
   obtain ⟨kb,off,rfl,hcl2⟩:=hcells (by omega)
   obtain ⟨x0,x1⟩:=hcl2 k hkl
   rw [Nat.mul_comm 2 k] at x0 x1
   have hmem:=mem_getD (z:=nP) hkl
   have hlim:=HL.out _ hmem
   have ca:=satFn_any (l.getD k nP) g a wr (HPB.out.below hbw) hlim ha (HM.out.on hbw)
   have hyes:=fun h=>Rc.any_at (p:=pmeets a) (z:=nP) hkl h
   have HY:=Lib.hid hyes
   unfold pV at ca
   generalize hx:l.getD k nP = x at *
   have HX:=Lib.hid hx
   have HBW:=Lib.hid hbw
   clear hcl2 hcells hx hyes hmem hlim hbw
   cases hw:pmeets a x with
   | true =>
    rw [hw] at ca
    have hG:G = true:=by rw [← HG.out]; exact HY.out hw
    subst hG
    clear HG HY HX HE hw
    go_wp2_with fail
    refine ca.mono ?_
    rintro e w1 ⟨rfl,k1⟩
    have hb1:=HBW.out.trans (k1.mono HBW.out.size)
    go_wp2_with fail
    go_ret
    exact ⟨k,rfl,by simp [hk0],hb1⟩
   | false =>
    rw [hw] at ca
    have HE2:Hid (∀ j,j < k + 1 → pmeets a (l.getD j nP) = false):=fun j hj=>by
     by_cases e:j = k
     ·rw [e,HX.out,hw]
     ·exact HE.out j (by omega)
    clear HY HX HE hw
    go_wp2_with fail
    refine ca.mono ?_
    rintro e w1 ⟨rfl,k1⟩
    have hb1:=HBW.out.trans (k1.mono HBW.out.size)
    clear ca k1
    go_wp2_with fail
    go_roundg g'
    case measure=>omega
    case rel=>exact ⟨k + 1,by go_num,hb1,HE2.out,by omega,by omega⟩
  ·have hge:¬ (k:Int) < (n:Int):=by omega
   obtain rfl:k = n:=by omega
   have hG:G = false:=by rw [← HG.out]; exact Rc.any_no (z:=nP) fun j hj=>HE.out j (by rw [← HN.out]; exact hj)
   subst hG
   clear HG HE
   have HBW:=Lib.hid hbw
   clear hbw
   go_wp2_with fail
   go_ret
   exact ⟨-1,rfl,by simp,HBW.out⟩
set_option maxRecDepth 100000 in
theorem containsProvide_any (v:Value) (l:List Pv) (g:Nat) (a:At) (w:World) (h:Pvs w v l) (hg:AtB w g a) (hL:LimP l) (ha:LimAt a) (hm:Vars w) :
  Calls Tryz.prog 150 #[v,.func (.func 151) #[] #[.pointer (some ⟨g,0,none⟩)]] w fun e w'=>e = .returned (.bool (l.any (pmeets a))) ∧ Below w.heap.size w w':=by
 have ca:=indexProvide_any v l g a w h hg hL ha hm
 obtain ⟨sa,cap,rfl⟩:=h.shape
 generalize l.any (pmeets a) = G at *
 generalize l.length = n at *
 clear h hg hL hm
 go_enter Tryz.func150,Tryz.ntmps150
 go_wp2_with fail
 refine ca.mono ?_
 rintro e w1 ⟨i,rfl,hi,k1⟩
 clear ca
 cases G with
 | true =>
  have h0:(0:Int) ≤ i:=hi.2 rfl
  clear hi
  go_wp2_with fail
  go_ret
  exact ⟨rfl,k1⟩
 | false =>
  have h0:¬ (0:Int) ≤ i:=fun h=>by simpa using hi.1 h
  clear hi
  go_wp2_with fail
  go_ret
  exact ⟨by simp; omega,k1⟩
set_option maxRecDepth 100000 in
set_option maxHeartbeats 4000000 in
theorem satisfies_any (v:Value) (p:Pk) (a:At) (w:World) (h:PkV w v p) (hL:p.Lim) (ha:LimAt a) (hv:Vars w) :
  Calls Tryz.prog 114 #[v,aV a] w fun e w'=>e = .returned (.bool (sat p a)) ∧ Below w.heap.size w w':=by
 obtain ⟨u1,u2,u3,u4,u5,u6,rfl,hh⟩:=h
 have hb1:=(Below.refl w.heap.size w).alloc (Nat.le_refl _) (.cells #[.string (S p.nm),.string (S p.vs),u1,u2,u3,u4,u5,u6,.bool p.ess] 40)
 have i1:=Blk.Is.new w 40 #[.string (S p.nm),.string (S p.vs),u1,u2,u3,u4,u5,u6,.bool p.ess]
 have hb2:=hb1.alloc hb1.size (.cells #[.string (S a.1),.int .i64 a.2.1,.string (S a.2.2)] 54)
 have i2:=Blk.Is.new (w.alloc (.cells #[.string (S p.nm),.string (S p.vs),u1,u2,u3,u4,u5,u6,.bool p.ess] 40)) 54 #[.string (S a.1),.int .i64 a.2.1,.string (S a.2.2)]
 have i1':=i1.alloc (.cells #[.string (S a.1),.int .i64 a.2.1,.string (S a.2.2)] 54)
 have hsz:(w.alloc (.cells #[.string (S p.nm),.string (S p.vs),u1,u2,u3,u4,u5,u6,.bool p.ess] 40)).heap.size = w.heap.size + 1:=by simp
 rw [hsz] at i2
 obtain ⟨W,hW⟩:∃ W,(w.alloc (.cells #[.string (S p.nm),.string (S p.vs),u1,u2,u3,u4,u5,u6,.bool p.ess] 40)).alloc (.cells #[.string (S a.1),.int .i64 a.2.1,.string (S a.2.2)] 54) = W:=⟨_,rfl⟩
 rw [hW] at hb2 i1' i2
 have hA:AtB W (w.heap.size + 1) a:=i2
 have c0:=i1'.at (i:=0) rfl
 have c1:=i1'.at (i:=1) rfl
 have c7:=i1'.at (i:=7) rfl
 have d0:=i2.at (i:=0) rfl
 have d1:=i2.at (i:=1) rfl
 have d2:=i2.at (i:=2) rfl
 have HV:=Lib.hid (hv.on hb2)
 have cm:=Rl.mayAtom_any a W (by have:=ha.1; omega) (by have:=ha.2; omega) HV.out
 have cs:=fun w hm=>Ver.holds_any a.2.1 (S p.vs) (S a.2.2) w (by rw [S_size]; have:=hL.vs; omega) (by rw [S_size]; have:=ha.2; omega) hm
 rw [S_li,S_li] at cs
 have hq:((S p.nm).toList == (S a.1).toList) = decide (p.nm = a.1):=Rl.S_beq _ _
 have hs:sat p a = (may a && ((decide (p.nm = a.1) && holdsV a.2.1 p.vs a.2.2) || p.prv.any (pmeets a))):=rfl
 rw [hs]
 have HP:=Lib.hid (hh.prv.below hb2)
 have HA:=Lib.hid hA
 have HL:=Lib.hid hL.prv
 have HB:=Lib.hid hb2
 have HLA:=Lib.hid ha
 obtain ⟨sa,scap,he6⟩:=hh.prv.shape
 generalize p.prv.length = sn at he6
 clear hb1 i1 hb2 i1' i2 hsz hs hv hh hL hA
 unfold aV at cm ⊢
 have CP:∀ w':World,Below W.heap.size W w' → Calls Tryz.prog 150 #[u6,.func (.func 151) #[] #[.pointer (some ⟨w.heap.size + 1,0,none⟩)]] w' fun e w''=>e = .returned (.bool (p.prv.any (pmeets a))) ∧ Below w'.heap.size w' w'':=fun w' hb=>containsProvide_any u6 p.prv _ a w' (HP.out.below hb) (HA.out.below hb) HL.out HLA.out (HV.out.on hb)
 have CPH:=Lib.hid CP
 clear CP ha
 generalize p.prv.any (pmeets a) = Q at *
 generalize holdsV a.2.1 p.vs a.2.2 = T at *
 generalize S p.nm = A at *
 generalize S a.1 = B at *
 generalize S p.vs = A1 at *
 generalize S a.2.2 = B1 at *
 generalize a.2.1 = R at *
 generalize p.ess = E at *
 subst he6
 cases hm:may a with
 | false =>
  rw [hm] at cm
  rw [Bool.false_and]
  clear cs hm
  go_enter Tryz.func114,Tryz.ntmps114
  go_wp2_with fail
  refine cm.mono ?_
  rintro e w1 ⟨rfl,k1⟩
  have hb1:=HB.out.trans (k1.mono HB.out.size)
  clear cm
  go_wp2_with fail
  go_ret
  exact ⟨rfl,hb1⟩
 | true =>
  rw [hm] at cm
  rw [Bool.true_and]
  clear hm
  cases hd:decide (p.nm = a.1) with
  | false =>
   rw [hd] at hq
   rw [Bool.false_and,Bool.false_or]
   clear cs hd
   go_enter Tryz.func114,Tryz.ntmps114
   go_wp2_with fail
   refine cm.mono ?_
   rintro e w1 ⟨rfl,k1⟩
   have hb1:=Lib.hid (HB.out.trans (k1.mono HB.out.size))
   have c0':=Rl.cell_on c0 k1
   have c1':=Rl.cell_on c1 k1
   have c7':=Rl.cell_on c7 k1
   have d0':=Rl.cell_on d0 k1
   have d1':=Rl.cell_on d1 k1
   have d2':=Rl.cell_on d2 k1
   have cp:=CPH.out w1 k1
   clear cm c0 c1 c7 d0 d1 d2 k1
   go_wp2_with fail
   refine cp.mono ?_
   rintro e w2 ⟨rfl,k2⟩
   have hb2:=hb1.out.trans (k2.mono hb1.out.size)
   go_wp2_with fail
   go_ret
   exact ⟨rfl,hb2⟩
  | true =>
   rw [hd] at hq
   rw [Bool.true_and]
   clear hd
   cases T with
   | true =>
    rw [Bool.true_or]
    go_enter Tryz.func114,Tryz.ntmps114
    go_wp2_with fail
    refine cm.mono ?_
    rintro e w1 ⟨rfl,k1⟩
    have hb1:=Lib.hid (HB.out.trans (k1.mono HB.out.size))
    have c0':=Rl.cell_on c0 k1
    have c1':=Rl.cell_on c1 k1
    have c7':=Rl.cell_on c7 k1
    have d0':=Rl.cell_on d0 k1
    have d1':=Rl.cell_on d1 k1
    have d2':=Rl.cell_on d2 k1
    have cs':=cs w1 (HV.out.on k1).maxLen
    clear cm c0 c1 c7 d0 d1 d2 k1 cs
    go_wp2_with fail
    refine cs'.mono ?_
    rintro e w2 ⟨rfl,k2⟩
    have hb2:=hb1.out.trans (k2.mono hb1.out.size)
    clear cs'
    go_wp2_with fail
    go_ret
    exact ⟨rfl,hb2⟩
   | false =>
    rw [Bool.false_or]
    go_enter Tryz.func114,Tryz.ntmps114
    go_wp2_with fail
    refine cm.mono ?_
    rintro e w1 ⟨rfl,k1⟩
    have hb1:=Lib.hid (HB.out.trans (k1.mono HB.out.size))
    have c0':=Rl.cell_on c0 k1
    have c1':=Rl.cell_on c1 k1
    have c7':=Rl.cell_on c7 k1
    have d0':=Rl.cell_on d0 k1
    have d1':=Rl.cell_on d1 k1
    have d2':=Rl.cell_on d2 k1
    have cs':=cs w1 (HV.out.on k1).maxLen
    have K1:=Lib.hid k1
    clear cm c0 c1 c7 d0 d1 d2 k1 cs
    go_wp2_with fail
    refine cs'.mono ?_
    rintro e w2 ⟨rfl,k2⟩
    have hb2:=Lib.hid (hb1.out.trans (k2.mono hb1.out.size))
    have c7'':=Rl.cell_on c7' k2
    have cp:=CPH.out w2 (K1.out.trans (k2.mono K1.out.size))
    clear cs' c0' c1' c7' d0' d1' d2' k2
    go_wp2_with fail
    refine cp.mono ?_
    rintro e w3 ⟨rfl,k3⟩
    have hb3:=hb2.out.trans (k3.mono hb2.out.size)
    go_wp2_with fail
    go_ret
    exact ⟨rfl,hb3⟩
end Ix
end Go.Proofs.YtmhpjjjjgakpiaaGreatDoor

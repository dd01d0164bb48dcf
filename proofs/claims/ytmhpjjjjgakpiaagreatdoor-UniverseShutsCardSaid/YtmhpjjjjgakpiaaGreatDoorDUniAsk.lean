/-
ask: the names of all that meets an atom of what a package asks for enter.
-/
import Derived.Test.YtmhpjjjjgakpiaaGreatDoorDUniAt
import Derived.Test.YtmhpjjjjgakpiaaGreatDoorDIxInts
import Derived.Test.YtmhpjjjjgakpiaaGreatDoorDIxIns
import Derived.Test.YtmhpjjjjgakpiaaGreatDoorDTextTexts
namespace Go.Proofs.YtmhpjjjjgakpiaaGreatDoor
open Go.RowKit
set_option linter.unusedSimpArgs false
set_option linter.unusedVariables false
namespace Un
open Ver (Bs S S_size)
open Rl (At Slc Ats Clss Vars LimA nA aV mem_getD)
open Rc (Pk nPk Has In)
open Ix (Idx Few LimS LimAt sat ints Sl SlAt pl_lt)
/-! ### the names that an atom,a clause,clauses reach -/
def hits (xs:List Pk) (a:At):List Bs:=(Ix.mt xs a).map fun i=>(xs.getD i nPk).nm
def hitsC (xs:List Pk) (c:List At):List Bs:=c.flatMap (hits xs)
def hitsL (xs:List Pk) (cs:List (List At)):List Bs:=cs.flatMap (hitsC xs)
def clsOf (p:Pk):List (List At):=p.pre ++ (p.dep ++ p.rcm)
def askNms (xs:List Pk) (p:Pk):List Bs:=hitsL xs (clsOf p)
theorem hits_mem {xs:List Pk} {a:At} {n:Bs}:n ∈ hits xs a ↔ ∃ q ∈ xs,sat q a = true ∧ q.nm = n:=by
 have e:hits xs a = (xs.filter fun p=>sat p a).map Pk.nm:=by
  rw [← mt_map]
  unfold hits
  rw [List.map_map]
  rfl
 rw [e]
 simp only [List.mem_map,List.mem_filter]
 constructor
 ·rintro ⟨q,⟨h1,h2⟩,h3⟩
  exact ⟨q,h1,h2,h3⟩
 ·rintro ⟨q,h1,h2,h3⟩
  exact ⟨q,⟨h1,h2⟩,h3⟩
theorem ask_mem {xs:List Pk} {p:Pk} {n:Bs}:n ∈ askNms xs p ↔ ∃ a ∈ asks p,∃ q ∈ xs,sat q a = true ∧ q.nm = n:=by
 unfold askNms hitsL hitsC asks
 simp only [List.mem_flatMap,List.mem_flatten,hits_mem]
 constructor
 ·rintro ⟨c,hc,a,ha,h⟩
  exact ⟨a,⟨c,hc,ha⟩,h⟩
 ·rintro ⟨a,⟨c,hc,ha⟩,h⟩
  exact ⟨c,hc,a,ha,h⟩
theorem hitsL_snoc (xs:List Pk) (cs:List (List At)) (c:List At):hitsL xs (cs ++ [c]) = hitsL xs cs ++ hitsC xs c:=by
 unfold hitsL
 rw [List.flatMap_append]
 simp
theorem hitsC_snoc (xs:List Pk) (c:List At) (a:At):hitsC xs (c ++ [a]) = hitsC xs c ++ hits xs a:=by
 unfold hitsC
 rw [List.flatMap_append]
 simp
def Pair (Q:Sl → List At → Prop) (d:List Sl) (l:List (List At)):Prop:=d.length = l.length ∧ ∀ i x,d[i]? = some x → Q x (l.getD i [])
theorem Pair.app {Q:Sl → List At → Prop} {d d':List Sl} {l l':List (List At)} (h:Pair Q d l) (h':Pair Q d' l'):Pair Q (d ++ d') (l ++ l'):=by
 refine ⟨by rw [List.length_append,List.length_append,h.1,h'.1],fun i x hx=>?_⟩
 rw [List.getD_eq_getElem?_getD]
 by_cases hi:i < d.length
 ·rw [List.getElem?_append_left hi] at hx
  rw [List.getElem?_append_left (by rw [← h.1]; exact hi),← List.getD_eq_getElem?_getD]
  exact h.2 i x hx
 ·rw [List.getElem?_append_right (by omega)] at hx
  rw [List.getElem?_append_right (by rw [← h.1]; omega),← h.1,← List.getD_eq_getElem?_getD]
  exact h'.2 _ x hx
theorem one_text {u:World} {g:Nat} {nm:Bs} (h:Blk.Is u g 9 #[.string (S nm)]) (c:Nat) (hc:1 ≤ c):In g (g + 1) u (fun z=>Txt.Texts z (.slice (some ⟨g,0,none⟩) 1 c) ([nm].map S)):=fun z hz=>by
 have hi:=hz.is h (by omega)
 refine ⟨by simp,_,_,rfl,hc,fun _=>⟨g,0,rfl,fun i h1=>?_⟩⟩
 obtain rfl:i = 0:=by simpa using h1
 exact hi.at (i:=0) rfl
theorem range_own {w:World} {b:Nat} {T:TypeId} {cs:List Value} (h:Blk.Is w b T cs.toArray):w.rangeAt b 0 cs:=fun j u hj=>by
 rw [Nat.zero_add]
 exact h.at (by rw [← hj]; simp)
theorem WL.low {w:World} {M wb ob pb:Nat} {v:Value} {NX W:List Bs} {B:Nat} (h:WL w M wb ob pb v NX W) (h1:B ≤ wb) (h2:B ≤ ob) (h3:B ≤ M):∀ k,Own3 wb ob v k → B ≤ k:=fun k hk=>by
 rcases hk with rfl | rfl | hk
 ·exact h1
 ·exact h2
 ·exact Nat.le_trans h3 (Rl.own_lt h.row hk).1
theorem WL.lt {w:World} {M wb ob pb:Nat} {v:Value} {NX W:List Bs} (h:WL w M wb ob pb v NX W):∀ k,Own3 wb ob v k → k < w.heap.size:=fun k hk=>by
 rcases hk with rfl | rfl | hk
 ·exact h.blk.lt
 ·exact h.set.lt
 ·exact (Rl.own_lt h.row hk).2
set_option maxRecDepth 100000 in
set_option maxHeartbeats 32000000 in
theorem ask_any (wb ob pb M:Nat) (v:Value) (NX W:List Bs) (xs:List Pk) (p:Pk) (s1:Option Addr) (m1 t1:Nat) (s2:Option Addr) (m2 t2:Nat) (s3:Option Addr) (m3 t3:Nat) (s4:Option Addr) (m4 t4:Nat) (s5:Option Addr) (m5 t5:Nat) (s6:Option Addr) (m6 t6:Nat) (w0 w:World) (b m:Nat)
  (h:WL w M wb ob pb v NX W) (hI:Idx w0 pb xs) (hb0:Below w0.heap.size w0 w) (hlow:w0.heap.size ≤ wb ∧ w0.heap.size ≤ ob ∧ w0.heap.size ≤ M)
  (hp:In b m w (fun u=>Has u p (.slice s1 m1 t1) (.slice s2 m2 t2) (.slice s3 m3 t3) (.slice s4 m4 t4) (.slice s5 m5 t5) (.slice s6 m6 t6))) (hm:m ≤ w.heap.size) (hf:Apart b m wb ob v)
  (hL:∀ x ∈ xs,x.Lim) (hF:∀ x ∈ xs,Few x) (hn:xs.length ≤ 60000) (hv:Vars w0) (hpl:p.Lim) (hsz:(clsOf p).length ≤ 60000) :
  Calls Tryz.prog 48 #[.pointer (some ⟨wb,0,none⟩),.agg #[.string (S p.nm),.string (S p.vs),.slice s1 m1 t1,.slice s2 m2 t2,.slice s3 m3 t3,.slice s4 m4 t4,.slice s5 m5 t5,.slice s6 m6 t6,.bool p.ess]] w fun e w'=>e = .returned (.tuple #[]) ∧ ∃ v',WL w' M wb ob pb v' NX (ent NX W (askNms xs p)) ∧ Blk.Chg (Own3 wb ob v) w w' ∧ ∀ j,v'.ownBlock = some j → v.ownBlock = some j ∨ w.heap.size ≤ j:=by
 have hlow3:=h.low hlow.1 hlow.2.1 hlow.2.2
 have hlt3:=h.lt
 obtain ⟨hp1,hp2,hp3⟩:=in_has hp
 obtain ⟨d1,e1,f1,g1⟩:=in_clss hp1
 obtain ⟨d2,e2,f2,g2⟩:=in_clss hp2
 obtain ⟨d3,e3,f3,g3⟩:=in_clss hp3
 have hpair:Pair (fun x l=>In b m w (fun u=>Ats u x.1 l)) (d1 ++ (d2 ++ d3)) (clsOf p):=Pair.app ⟨e1,g1⟩ (Pair.app ⟨e2,g2⟩ ⟨e3,g3⟩)
 have hlimc:∀ c ∈ clsOf p,LimA c:=fun c hc=>by
  rcases List.mem_append.1 hc with hc | hc
  ·exact hpl.pre c hc
  ·rcases List.mem_append.1 hc with hc | hc
   ·exact hpl.dep c hc
   ·exact hpl.rcm c hc
 have hb1:=(Below.refl w.heap.size w).alloc (Nat.le_refl _) (.cells #[.string (S p.nm),.string (S p.vs),.slice s1 m1 t1,.slice s2 m2 t2,.slice s3 m3 t3,.slice s4 m4 t4,.slice s5 m5 t5,.slice s6 m6 t6,.bool p.ess] 40)
 have i1:=Blk.Is.new w 40 #[.string (S p.nm),.string (S p.vs),.slice s1 m1 t1,.slice s2 m2 t2,.slice s3 m3 t3,.slice s4 m4 t4,.slice s5 m5 t5,.slice s6 m6 t6,.bool p.ess]
 obtain ⟨Wb,hWb⟩:∃ Wb,w.alloc (.cells #[.string (S p.nm),.string (S p.vs),.slice s1 m1 t1,.slice s2 m2 t2,.slice s3 m3 t3,.slice s4 m4 t4,.slice s5 m5 t5,.slice s6 m6 t6,.bool p.ess] 40) = Wb:=⟨_,rfl⟩
 rw [hWb] at hb1 i1
 have z2:=i1.at (i:=2) rfl
 have z3:=i1.at (i:=3) rfl
 have z4:=i1.at (i:=4) rfl
 have hbc:=(Below.refl Wb.heap.size Wb).alloc (Nat.le_refl _) (.cells #[.slice s1 m1 t1,.slice s2 m2 t2,.slice s3 m3 t3] 36)
 have ic:=Blk.Is.new Wb 36 #[.slice s1 m1 t1,.slice s2 m2 t2,.slice s3 m3 t3]
 obtain ⟨Wc,hWc⟩:∃ Wc,Wb.alloc (.cells #[.slice s1 m1 t1,.slice s2 m2 t2,.slice s3 m3 t3] 36) = Wc:=⟨_,rfl⟩
 rw [hWc] at hbc ic
 have hwc:Below w.heap.size w Wc:=hb1.trans (hbc.mono hb1.size)
 have hcw:=Blk.Chg.ofBelow' (S:=fun k=>k < b ∨ m ≤ k) hwc
 obtain ⟨DS,hDS⟩:∃ DS:List (Value × List Sl),DS = [(.slice s1 m1 t1,d1),(.slice s2 m2 t2,d2),(.slice s3 m3 t3,d3)]:=⟨_,rfl⟩
 have hall:allSl DS = d1 ++ (d2 ++ d3):=by rw [hDS]; simp [allSl]
 rw [← hall] at hpair
 have cc:=concat_any Wb.heap.size 3 DS Wc (fun k hk=>by
  rw [hDS] at hk ⊢
  have hk3:k < 3:=hk
  match k,hk3 with
  | 0,_=>exact ic.at (i:=0) rfl
  | 1,_=>exact ic.at (i:=1) rfl
  | 2,_=>exact ic.at (i:=2) rfl) (fun x hx=>by
  rw [hDS] at hx
  simp only [List.mem_cons,List.not_mem_nil,or_false] at hx
  rcases hx with rfl | rfl | rfl
  ·exact f1 _ hcw
  ·exact f2 _ hcw
  ·exact f3 _ hcw) (by rw [hpair.1]; exact hsz) (by rw [hDS]; simp)
 have hd3:DS.length = 3:=by rw [hDS]; rfl
 rw [hd3] at cc
 obtain ⟨D,hD⟩:∃ D,allSl DS = D:=⟨_,rfl⟩
 rw [hD] at cc hpair
 obtain ⟨N,hN⟩:∃ N,D.length = N:=⟨_,rfl⟩
 rw [hN] at cc
 have hN60:N ≤ 60000:=by rw [← hN,hpair.1]; exact hsz
 obtain ⟨cs,hcs⟩:∃ cs,clsOf p = cs:=⟨_,rfl⟩
 have hgoal:askNms xs p = hitsL xs cs:=by unfold askNms; rw [hcs]
 rw [hgoal]
 rw [hcs] at hpair hlimc
 have HW:=Lib.hid (h.below hwc)
 have HI:=Lib.hid hI
 have HBW:=Lib.hid hwc
 have HB0:=Lib.hid (hb0.trans (hwc.mono hb0.size))
 have HLOW:=Lib.hid hlow3
 have HLT:=Lib.hid hlt3
 have HLM:=Lib.hid hlow.2.2
 have HPR:=Lib.hid hpair
 have HF:=Lib.hid hf
 have HM:=Lib.hid hm
 have HL:=Lib.hid hL
 have HFE:=Lib.hid hF
 have HXN:=Lib.hid hn
 have HV0:=Lib.hid hv
 have HLC:=Lib.hid hlimc
 have HDN:=Lib.hid hN
 have HB00:=Lib.hid (show w0.heap.size ≤ w.heap.size from hb0.size)
 have HWc:=Lib.hid hWc
 have hu:=hWb
 rw [← HWc.out] at cc
 clear h hI hb0 hlow hp hm hf hL hF hn hv hpl hsz hlow3 hlt3 hp1 hp2 hp3 e1 f1 g1 e2 f2 g2 e3 f3 g3 hpair hlimc hb1 i1 hWb hbc ic hWc hwc hcw hDS hall hd3 hD hN hcs hgoal
 go_enter Tryz.func48,Tryz.ntmps48
 go_wp2_with fail
 refine cc.mono ?_
 rintro e w2 ⟨vc,rfl,ho,k2⟩
 rw [HWc.out] at ho k2
 obtain ⟨ra,rc,rfl,_⟩:=Rl.own_shape ho
 have hw2:=HBW.out.trans (k2.mono HBW.out.size)
 have HO:=Lib.hid (Rl.own_mono ho HBW.out.size)
 have HW2:=Lib.hid (HW.out.below k2)
 have HS2:=Lib.hid hw2
 have HB2:Hid (Below w0.heap.size w0 w2):=HB0.out.trans (k2.mono HB0.out.size)
 have HAT:Hid (∀ i x,D[i]? = some x → In b m w2 (fun u=>Ats u x.1 (cs.getD i []))):=fun i x hx=>(HPR.out.2 i x hx).on (Blk.Chg.ofBelow' hw2)
 have HCN:Hid (cs.length = N):=by show cs.length = N; rw [← HDN.out,HPR.out.1]
 have HRB:Hid (∀ k,(Value.slice ra N rc).ownBlock = some k → ¬ Own3 wb ob v k):=fun k hk ho3=>by
  have h1:=(Rl.own_lt ho hk).1
  have h2:=HLT.out k ho3
  have h3:=HBW.out.size
  omega
 clear cc ho k2 hw2 z2 z3 z4 hu
 go_wp2_with fail
 go_loopg [21] N (fun gf s21 wx=>∃ (k:Nat) (vx:Value),s21 = .int .i64 k ∧ Hid (WL wx M wb ob pb vx NX (ent NX W (hitsL xs (cs.take k)))) ∧ Hid (Blk.Chg (Own3 wb ob v) w2 wx) ∧ Hid (∀ j,vx.ownBlock = some j → v.ownBlock = some j ∨ w2.heap.size ≤ j) ∧ Hid (Below w0.heap.size w0 wx) ∧ k ≤ N ∧ N ≤ k + gf)
 case atStart=>exact ⟨0,v,rfl,HW2,Lib.hid (Blk.Chg.refl _ _),Lib.hid (fun j hj=>.inl hj),HB2,by omega,by omega⟩
 case round =>
  rename World=>wk
  obtain ⟨k,vx,rfl,HX,HC,HV,HZ,hkn,hfu⟩:=hrel
  by_cases hlt:k < N
  ·obtain ⟨g',rfl⟩:∃ g',gk = g' + 1:=⟨gk - 1,by omega⟩
   have hlt':(k:Int) < (N:Int):=by omega
   have hk0:(0:Int) ≤ k:=by omega
   have hkl:k < cs.length:=by rw [HCN.out]; exact hlt
   have hkd:k < D.length:=by rw [HDN.out]; exact hlt
   obtain ⟨x,hx⟩:∃ x,D[k]? = some x:=⟨D[k],List.getElem?_eq_getElem hkd⟩
   have hrow:=HC.out.owns HO.out HRB.out
   obtain ⟨rb,c2,e2,_⟩:=Rl.own_slice hrow (by omega)
   simp only [Value.slice.injEq,true_and] at e2
   obtain ⟨rfl,rfl⟩:=e2
   have x0:=Rl.own_cell hrow (i:=k) (u:=x.1) (by unfold cells1; rw [List.getElem?_map,hx]; rfl)
   have hats:=(HAT.out k x hx).on (HC.out.mono fun j _ hj=>HF.out j hj)
   have hap:∀ j,Own3 wb ob vx j → j < b ∨ m ≤ j:=fun j hj=>by
    rcases hj with hj | hj | hj
    ·exact HF.out j (.inl hj)
    ·exact HF.out j (.inr (.inl hj))
    ·rcases HV.out j hj with h1 | h1
     ·exact HF.out j (.inr (.inr h1))
     ·have:=HM.out
      have:=HS2.out.size
      exact .inr (by omega)
   have hlc:=HLC.out _ (mem_getD (z:=([]:List At)) hkl)
   have htk:=take_snoc (z:=([]:List At)) hkl
   obtain ⟨c,hc⟩:∃ c,cs.getD k [] = c:=⟨_,rfl⟩
   rw [hc] at hats hlc htk
   obtain ⟨hc0,ca,cc,hxe,_,_⟩:=hats.here
   rw [hxe] at x0 hats
   obtain ⟨n,hcn⟩:∃ n,c.length = n:=⟨_,rfl⟩
   rw [hcn] at x0 hats hc0
   obtain ⟨WK,hWK⟩:∃ WK,ent NX W (hitsL xs (cs.take k)) = WK:=⟨_,rfl⟩
   have hnext:ent NX W (hitsL xs (cs.take (k + 1))) = ent NX WK (hitsC xs c):=by rw [htk,hitsL_snoc,ent_app,hWK]
   rw [hWK] at HX
   have HATS:=Lib.hid hats
   have HLA:=Lib.hid hlc
   have HCL:=Lib.hid hcn
   have HNX:=Lib.hid hnext
   have HAP:=Lib.hid hap
   clear hrow hats hlc htk hc hxe hcn hWK hnext hkl hkd hx hap
   go_wp2_with fail
   clear x0
   go_loopg [27] n (fun gf s27 wx=>∃ (j:Nat) (vy:Value),s27 = .int .i64 j ∧ Hid (WL wx M wb ob pb vy NX (ent NX WK (hitsC xs (c.take j)))) ∧ Hid (Blk.Chg (Own3 wb ob vx) wk wx) ∧ Hid (∀ q,vy.ownBlock = some q → vx.ownBlock = some q ∨ wk.heap.size ≤ q) ∧ Hid (Below w0.heap.size w0 wx) ∧ j ≤ n ∧ n ≤ j + gf)
   case atStart=>exact ⟨0,vx,rfl,HX,Lib.hid (Blk.Chg.refl _ _),Lib.hid (fun j hj=>.inl hj),HZ,by omega,by omega⟩
   case round =>
    rename World=>wj
    obtain ⟨j,vy,rfl,HY,HCJ,HVJ,HZJ,hjn,hfj⟩:=hrel
    by_cases hlj:j < n
    ·obtain ⟨g2,rfl⟩:∃ g2,gk = g2 + 1:=⟨gk - 1,by omega⟩
     have hlj':(j:Int) < (n:Int):=by omega
     have hj0:(0:Int) ≤ j:=by omega
     have hjl:j < c.length:=by rw [HCL.out]; exact hlj
     have hats:=(HATS.out.on (HCJ.out.mono fun q _ hq=>HAP.out q hq)).here
     obtain ⟨_,a',cap',e1,_,hcells⟩:=hats
     rw [HCL.out] at e1
     simp only [Value.slice.injEq,true_and] at e1
     obtain ⟨rfl,rfl⟩:=e1
     obtain ⟨kb,off,rfl,hat⟩:=hcells (by omega)
     obtain ⟨x0,x1,x2⟩:=hat j hjl
     rw [Nat.mul_comm 3 j] at x0 x1 x2
     have hlim:=HLA.out _ (mem_getD (z:=nA) hjl)
     have htk:=take_snoc (z:=nA) hjl
     obtain ⟨a,ha⟩:∃ a,c.getD j nA = a:=⟨_,rfl⟩
     rw [ha] at x0 x1 x2 hlim htk
     have hb2:=(Below.refl wj.heap.size wj).alloc (Nat.le_refl _) (.cells #[.string (S a.1),.int .i64 a.2.1,.string (S a.2.2)] 54)
     have i2:=Blk.Is.new wj 54 #[.string (S a.1),.int .i64 a.2.1,.string (S a.2.2)]
     obtain ⟨V0,hV0⟩:∃ V0,wj.alloc (.cells #[.string (S a.1),.int .i64 a.2.1,.string (S a.2.2)] 54) = V0:=⟨_,rfl⟩
     rw [hV0] at hb2 i2
     have hz0:Below w0.heap.size w0 V0:=HZJ.out.trans (hb2.mono HZJ.out.size)
     have cm:=Ix.meets_any pb xs a V0 (Idx.below HI.out hz0) HL.out HXN.out hlim (HV0.out.on hz0)
     have q0:=(Rl.is_on HY.out.blk hb2).at (i:=0) rfl
     have y0:=i2.at (i:=0) rfl
     have y1:=i2.at (i:=1) rfl
     have y2:=i2.at (i:=2) rfl
     obtain ⟨l,hl⟩:∃ l,Ix.mt xs a = l:=⟨_,rfl⟩
     have hll:∀ i ∈ l,i < xs.length:=fun i hi=>by rw [← hl] at hi; exact pl_lt hi
     have hhl:hits xs a = l.map fun i=>(xs.getD i nPk).nm:=by rw [← hl]; rfl
     rw [hl] at cm
     obtain ⟨L,hL2⟩:∃ L,l.length = L:=⟨_,rfl⟩
     rw [hL2] at cm
     have hL60:L ≤ 60000:=by rw [← hL2,← hl]; exact Nat.le_trans (Ix.mt_len xs a) HXN.out
     obtain ⟨WJ,hWJ⟩:∃ WJ,ent NX WK (hitsC xs (c.take j)) = WJ:=⟨_,rfl⟩
     have hnext:ent NX WK (hitsC xs (c.take (j + 1))) = ent NX WJ (l.map fun i=>(xs.getD i nPk).nm):=by rw [htk,hitsC_snoc,ent_app,hWJ,hhl]
     rw [hWJ] at HY
     have HLL:=Lib.hid hll
     have HLN:=Lib.hid hL2
     have HNJ:=Lib.hid hnext
     have BJ0:=Lib.hid hb2
     have HZ0:=Lib.hid hz0
     have HAL:=Lib.hid (show LimAt a from hlim)
     have HML:=Lib.hid hl
     have IA:=Lib.hid i2
     have hu:=hV0
     clear cm hcells hat hlim htk ha hb2 i2 hV0 hz0 hl hll hhl hL2 hWJ hnext hjl
     have Q0:Hid (∀ u,Below V0.heap.size V0 u → u.cell? ⟨wb,0,none⟩ = some (.pointer (some ⟨pb,0,none⟩))):=fun u hu=>Rl.cell_on q0 hu
     have KA:Hid (∀ u,Below V0.heap.size V0 u → u.rangeAt wj.heap.size 0 [.string (S a.1),.int .i64 a.2.1,.string (S a.2.2)]):=fun u hu=>range_own (Rl.is_on IA.out hu)
     have z3:(Tryz.prog.info? 54).map (·.size) = some 3:=by kernel_rfl
     have Z3:=Lib.hid z3
     have CM:Hid (∀ u,Below V0.heap.size V0 u → Calls Tryz.prog 79 #[.pointer (some ⟨pb,0,none⟩),aV a] u fun e w'=>∃ v,e = .returned v ∧ w'.ownsRow u.heap.size 3 1 v L (ints l) ∧ Below u.heap.size u w'):=fun u hu=>by
      have hz:=HZ0.out.trans (hu.mono HZ0.out.size)
      have:=Ix.meets_any pb xs a u (Idx.below HI.out hz) HL.out HXN.out HAL.out (HV0.out.on hz)
      rw [HML.out,HLN.out] at this
      exact this
     clear q0 y0 y1 y2 z3
     go_upto_region 7 with fail
     clear hu x0 x1 x2
     refine wp_region_held (S:=fun u=>Below V0.heap.size V0 u) (by kernel_rfl) ?_
     have hS0:Below V0.heap.size V0 V0.drew:=(Below.refl _ _).drew
     change wpAnyH _ _ _ _ _ 8 _ _ V0.drew
     generalize V0.drew = u0 at *
     refine wpAnyH_take (i:=0) (v:=.pointer (some ⟨wb,0,none⟩)) rfl (by kernel_rfl) (by kernel_rfl) (by kernel_rfl) (fun _ _ _ h=>h) (.inl ⟨rfl,fun w _=>rfl⟩) hS0 ?_
     simp only [Act.put,List.getElem_toArray,List.getElem_cons_zero,List.getElem_cons_succ,List.setIfInBounds_toArray,List.set_cons_zero,List.set_cons_succ]
     refine wpAnyH_take (i:=1) (v:=.pointer (some ⟨wb,0,none⟩)) rfl (by kernel_rfl) (by kernel_rfl) (by kernel_rfl) (fun _ _ _ h=>h) (.inl ⟨rfl,fun w _=>rfl⟩) hS0 ?_
     simp only [Act.put,List.getElem_toArray,List.getElem_cons_zero,List.getElem_cons_succ,List.setIfInBounds_toArray,List.set_cons_zero,List.set_cons_succ]
     refine wpAnyH_take (i:=2) (v:=.pointer (some ⟨wb,0,none⟩)) rfl (by kernel_rfl) (by kernel_rfl) (by kernel_rfl) (fun _ _ _ h=>h) (.inl ⟨rfl,fun w _=>rfl⟩) hS0 ?_
     simp only [Act.put,List.getElem_toArray,List.getElem_cons_zero,List.getElem_cons_succ,List.setIfInBounds_toArray,List.set_cons_zero,List.set_cons_succ]
     refine wpAnyH_take (i:=3) (v:=.pointer (some ⟨pb,0,none⟩)) rfl (by kernel_rfl) (by kernel_rfl) (by kernel_rfl) (fun _ _ _ h=>h) (Held.load1 rfl 55 (.tmp 33) rfl wb 0 rfl _ _ Q0.out Tryz.underlying55 rfl) hS0 ?_
     simp only [Act.put,List.getElem_toArray,List.getElem_cons_zero,List.getElem_cons_succ,List.setIfInBounds_toArray,List.set_cons_zero,List.set_cons_succ]
     refine wpAnyH_take (i:=4) (v:=.agg [.string (S a.1),.int .i64 a.2.1,.string (S a.2.2)].toArray) rfl (by kernel_rfl) (by kernel_rfl) (by kernel_rfl) (fun _ _ _ h=>h) (yieldsIf_load_mid rfl 54 (.tmp 7) rfl wj.heap.size 0 rfl _ _ KA.out Tryz.underlying54 rfl Z3.out) hS0 ?_
     simp only [Act.put,List.getElem_toArray,List.getElem_cons_zero,List.getElem_cons_succ,List.setIfInBounds_toArray,List.set_cons_zero,List.set_cons_succ]
     refine wpAnyH_take (i:=7) (v:=.int .i64 0) rfl (by kernel_rfl) (by kernel_rfl) (by kernel_rfl) (fun _ _ _ h=>h) (.inl ⟨rfl,fun w _=>rfl⟩) hS0 ?_
     simp only [Act.put,List.getElem_toArray,List.getElem_cons_zero,List.getElem_cons_succ,List.setIfInBounds_toArray,List.set_cons_zero,List.set_cons_succ]
     have cx:=CM.out u0 hS0
     refine wpAnyH_all (rs:=[5]) (by kernel_rfl) (by simp) ?_
     intro i hi
     obtain rfl:=List.mem_singleton.1 hi
     refine Reg.wpOp_list rfl ?_
     go_wp2_with fail
     refine cx.mono ?_
     rintro e u1 ⟨v3,rfl,ho3,k1⟩
     go_wp2_with fail
     change _ ∧ _
     have hS1:Below V0.heap.size V0 u1:=hS0.trans (k1.mono hS0.size)
     refine ⟨hS1,?_⟩
     clear cx
     obtain ⟨ia,ic,rfl,_⟩:=Rl.own_shape ho3
     refine wpAnyH_all (rs:=[6]) (by kernel_rfl) (by simp) ?_
     intro i hi
     obtain rfl:=List.mem_singleton.1 hi
     refine Reg.wpOp_list rfl ?_
     go_wp2_with fail
     change _ ∧ _
     refine ⟨hS1,?_⟩
     refine wpAnyH_done (by kernel_rfl) ?_ _
     have hk3:=hS1
     have ho3:=Rl.own_mono ho3 hS0.size
     generalize u1 = w3 at *
     clear hS0 hS1 k1
     have hbj3:Below wj.heap.size wj w3:=BJ0.out.trans (hk3.mono BJ0.out.size)
     have HO3:=Lib.hid ho3
     have HY3:=Lib.hid (HY.out.below hbj3)
     have HZ3:Hid (Below w0.heap.size w0 w3):=HZ0.out.trans (hk3.mono HZ0.out.size)
     have HJ3:=Lib.hid hbj3
     have HI3:Hid (∀ q,(Value.slice ia L ic).ownBlock = some q → ¬ Own3 wb ob vy q):=fun q hq hq3=>by
      have h1:=(Rl.own_lt ho3 hq).1
      have h2:=HY.out.lt q hq3
      have h3:=BJ0.out.size
      omega
     clear ho3 hbj3
     go_wp2_with fail
     go_loopg [38] L (fun gf s38 wx=>∃ (q:Nat) (vz:Value),s38 = .int .i64 q ∧ Hid (WL wx M wb ob pb vz NX (ent NX WJ ((l.take q).map fun i=>(xs.getD i nPk).nm))) ∧ Hid (Blk.Chg (Own3 wb ob vy) w3 wx) ∧ Hid (∀ z,vz.ownBlock = some z → vy.ownBlock = some z ∨ w3.heap.size ≤ z) ∧ Hid (Below w0.heap.size w0 wx) ∧ q ≤ L ∧ L ≤ q + gf)
     case atStart=>exact ⟨0,vy,rfl,HY3,Lib.hid (Blk.Chg.refl _ _),Lib.hid (fun j hj=>.inl hj),HZ3,by omega,by omega⟩
     case round =>
      rename World=>wq
      obtain ⟨r,vz,rfl,HQ,HCQ,HVQ,HZQ,hrn,hfr⟩:=hrel
      by_cases hlr:r < L
      ·obtain ⟨g3,rfl⟩:∃ g3,gk = g3 + 1:=⟨gk - 1,by omega⟩
       have hlr':(r:Int) < (L:Int):=by omega
       have hr0:(0:Int) ≤ r:=by omega
       have hrl:r < l.length:=by rw [HLN.out]; exact hlr
       have hrow:=HCQ.out.owns HO3.out HI3.out
       obtain ⟨ib,c2,e2,_⟩:=Rl.own_slice hrow (by omega)
       simp only [Value.slice.injEq,true_and] at e2
       obtain ⟨rfl,rfl⟩:=e2
       obtain ⟨i,hget⟩:∃ i,l[r]? = some i:=⟨l[r],List.getElem?_eq_getElem hrl⟩
       have hil:i < xs.length:=HLL.out i (List.mem_of_getElem? hget)
       have y0:=Rl.own_cell hrow (i:=r) (u:=.int .i64 (i:Int)) (by unfold ints; rw [List.getElem?_map,hget]; rfl)
       have q0:=HQ.out.blk.at (i:=0) rfl
       have ci:=at_in pb xs i wq (Idx.below HI.out HZQ.out) HFE.out hil
       have hqlim:=(HL.out _ (mem_getD (z:=nPk) hil)).nm
       have htk:(l.take (r + 1)).map (fun i=>(xs.getD i nPk).nm) = (l.take r).map (fun i=>(xs.getD i nPk).nm) ++ [(xs.getD i nPk).nm]:=by
        rw [List.take_add_one,hget,List.map_append]; rfl
       obtain ⟨q,hq⟩:∃ q,xs.getD i nPk = q:=⟨_,rfl⟩
       rw [hq] at ci hqlim htk
       obtain ⟨WQ,hWQ⟩:∃ WQ,ent NX WJ ((l.take r).map fun i=>(xs.getD i nPk).nm) = WQ:=⟨_,rfl⟩
       have hnext:ent NX WJ ((l.take (r + 1)).map fun i=>(xs.getD i nPk).nm) = ent NX WQ [q.nm]:=by rw [htk,ent_app,hWQ]
       rw [hWQ] at HQ
       have HNQ:=Lib.hid hnext
       have HQL:=Lib.hid hqlim
       clear hrow hget hil htk hq hWQ hnext hqlim hrl
       go_wp2_with fail
       refine ci.mono ?_
       rintro e u1 ⟨a1,b1,c1,a2,b2,c2,a3,b3,c3,a4,b4,c4,a5,b5,c5,a6,b6,c6,rfl,_,k1⟩
       have hba:=(Below.refl u1.heap.size u1).alloc (Nat.le_refl _) (.cells #[.string (S q.nm),.string (S q.vs),.slice a1 b1 c1,.slice a2 b2 c2,.slice a3 b3 c3,.slice a4 b4 c4,.slice a5 b5 c5,.slice a6 b6 c6,.bool q.ess] 40)
       have ia2:=Blk.Is.new u1 40 #[.string (S q.nm),.string (S q.vs),.slice a1 b1 c1,.slice a2 b2 c2,.slice a3 b3 c3,.slice a4 b4 c4,.slice a5 b5 c5,.slice a6 b6 c6,.bool q.ess]
       obtain ⟨V1,hV1⟩:∃ V1,u1.alloc (.cells #[.string (S q.nm),.string (S q.vs),.slice a1 b1 c1,.slice a2 b2 c2,.slice a3 b3 c3,.slice a4 b4 c4,.slice a5 b5 c5,.slice a6 b6 c6,.bool q.ess] 40) = V1:=⟨_,rfl⟩
       rw [hV1] at hba ia2
       have z0:=ia2.at (i:=0) rfl
       have hbb:=(Below.refl V1.heap.size V1).alloc (Nat.le_refl _) (.cells #[.string (S q.nm)] 9)
       have ib2:=Blk.Is.new V1 9 #[.string (S q.nm)]
       obtain ⟨V2,hV2⟩:∃ V2,V1.alloc (.cells #[.string (S q.nm)] 9) = V2:=⟨_,rfl⟩
       rw [hV2] at hbb ib2
       have hq1:Below wq.heap.size wq V1:=k1.trans (hba.mono k1.size)
       have hq2:Below wq.heap.size wq V2:=hq1.trans (hbb.mono hq1.size)
       have hzz:Below w0.heap.size w0 V2:=HZQ.out.trans (hq2.mono HZQ.out.size)
       have hsz2:V2.heap.size = V1.heap.size + 1:=by rw [← hV2]; simp
       have ce:=enter_any wb ob pb M vz NX WQ [q.nm] (.slice (some ⟨V1.heap.size,0,none⟩) 1 1) V2 V1.heap.size (V1.heap.size + 1) (HQ.out.below hq2) (one_text ib2 1 (Nat.le_refl _)) (by omega)
        (fun z hz=>.inl ((HQ.out.below hq1).lt z hz)) (fun n hn=>by rw [List.mem_singleton.1 hn]; exact HQL.out)
       have HQ2:=Lib.hid hq2
       have HZZ:=Lib.hid hzz
       have HV2:=Lib.hid hV2
       have HQ0:=HQ
       rw [← hV2] at ce
       have hu:=hV1
       clear ci k1 hba ia2 hV1 hbb ib2 hV2 hq1 hq2 hzz hsz2
       go_wp2_with fail
       clear hu z0 y0 q0
       refine ce.mono ?_
       rintro e w5 ⟨rfl,v5,t1,t2,t3⟩
       rw [HV2.out] at t2 t3
       have hlowz:∀ z,Own3 wb ob vz z → w0.heap.size ≤ z:=HQ0.out.low (HLOW.out _ (.inl rfl)) (HLOW.out _ (.inr (.inl rfl))) HLM.out
       have hz5:Below w0.heap.size w0 w5:=HZZ.out.trans (t2.below hlowz HZZ.out.size)
       have c5:Blk.Chg (Own3 wb ob vy) w3 w5:=chg_on (HCQ.out.trans (Blk.Chg.ofBelow' HQ2.out)) HVQ.out t2
       have hv5:∀ z,v5.ownBlock = some z → vy.ownBlock = some z ∨ w3.heap.size ≤ z:=fun z hz=>by
        rcases t3 z hz with h1 | h1
        ·exact HVQ.out z h1
        ·have h2:=HCQ.out.size
         have h3:=HQ2.out.size
         exact .inr (by omega)
       have T1:=Lib.hid t1
       have C5:=Lib.hid c5
       have HV5:=Lib.hid hv5
       have HZ5:=Lib.hid hz5
       clear ce t1 t2 t3 hlowz hz5 c5 hv5 HQ HQ0 HCQ HVQ HZQ HZZ
       go_wp2_with fail
       go_roundg g3
       case measure=>omega
       case rel=>exact ⟨r + 1,v5,by go_num,by rw [HNQ.out]; exact T1,C5,HV5,HZ5,by omega,by omega⟩
      ·have hge:¬ (L:Int) < (L:Int):=by omega
       obtain rfl:L = r:=by omega
       have hfull:ent NX WJ ((l.take L).map fun i=>(xs.getD i nPk).nm) = ent NX WK (hitsC xs (c.take (j + 1))):=by rw [List.take_of_length_le (Nat.le_of_eq HLN.out),HNJ.out]
       rw [hfull] at HQ
       have c9:Blk.Chg (Own3 wb ob vx) wk wq:=chg_on (HCJ.out.trans (Blk.Chg.ofBelow' HJ3.out)) HVJ.out HCQ.out
       have hv9:∀ z,vz.ownBlock = some z → vx.ownBlock = some z ∨ wk.heap.size ≤ z:=fun z hz=>by
        rcases HVQ.out z hz with h1 | h1
        ·exact HVJ.out z h1
        ·have h2:=HCJ.out.size
         have h3:=HJ3.out.size
         exact .inr (by omega)
       have C9:=Lib.hid c9
       have HV9:=Lib.hid hv9
       clear hfull c9 hv9 HCQ HVQ
       go_wp2_with fail
       go_roundg g2
       case measure=>omega
       case rel=>exact ⟨j + 1,vz,by go_num,HQ,C9,HV9,HZQ,by omega,by omega⟩
    ·have hge:¬ (n:Int) < (n:Int):=by omega
     obtain rfl:n = j:=by omega
     have hfull:ent NX WK (hitsC xs (c.take n)) = ent NX W (hitsL xs (cs.take (k + 1))):=by rw [List.take_of_length_le (Nat.le_of_eq HCL.out),HNX.out]
     rw [hfull] at HY
     have c9:Blk.Chg (Own3 wb ob v) w2 wj:=chg_on HC.out HV.out HCJ.out
     have hv9:∀ z,vy.ownBlock = some z → v.ownBlock = some z ∨ w2.heap.size ≤ z:=fun z hz=>by
      rcases HVJ.out z hz with h1 | h1
      ·exact HV.out z h1
      ·have h2:=HC.out.size
       exact .inr (by omega)
     have C9:=Lib.hid c9
     have HV9:=Lib.hid hv9
     clear hfull c9 hv9 HCJ HVJ
     go_wp2_with fail
     go_roundg g'
     case measure=>omega
     case rel=>exact ⟨k + 1,vy,by go_num,HY,C9,HV9,HZJ,by omega,by omega⟩
  ·have hge:¬ (N:Int) < (N:Int):=by omega
   obtain rfl:N = k:=by omega
   have hfull:hitsL xs (cs.take N) = hitsL xs cs:=by rw [List.take_of_length_le (Nat.le_of_eq HCN.out)]
   rw [hfull] at HX
   have c9:Blk.Chg (Own3 wb ob v) w wk:=(Blk.Chg.ofBelow' HS2.out).trans HC.out
   have hv9:∀ z,vx.ownBlock = some z → v.ownBlock = some z ∨ w.heap.size ≤ z:=fun z hz=>by
    rcases HV.out z hz with h1 | h1
    ·exact .inl h1
    ·have h2:=HS2.out.size
     exact .inr (by omega)
   have C9:=Lib.hid c9
   have HV9:=Lib.hid hv9
   clear hfull c9 hv9 HC HV
   go_wp2_with fail
   go_end0
   exact ⟨rfl,vx,HX.out,C9.out,HV9.out⟩
end Un
end Go.Proofs.YtmhpjjjjgakpiaaGreatDoor

/-
MayAll, MayEntries: packages, entries: may they be?
-/
import Derived.Test.YtmhpjjjjgakpiaaGreatDoorDTextTexts
import Derived.Test.YtmhpjjjjgakpiaaGreatDoorDRecMay
import Derived.Test.YtmhpjjjjgakpiaaGreatDoorDVerRefParse
import Derived.BigQuiet
namespace Go.Proofs.YtmhpjjjjgakpiaaGreatDoor
open Go.RowKit
set_option linter.unusedSimpArgs false
set_option linter.unusedVariables false
namespace Rc
open Ver (Bs S S_size S_li sameV)
open Rl (Slc mem_getD may)
theorem orI_at:∀ {l:List Int} {i:Nat} {M:Int},(∀ j,j < i → l.getD j 0 = 0) → l[i]? = some M → M ≠ 0 → orI l = M
 | [],i,M,_,h,_=>by simp at h
 | x :: r,0,M,_,h,hM=>by
  simp only [List.getElem?_cons_zero,Option.some.injEq] at h
  subst h
  unfold orI
  rw [if_pos hM]
 | x :: r,i + 1,M,hz,h,hM=>by
  have hx:x = 0:=by simpa using hz 0 (by omega)
  unfold orI
  rw [if_neg (by simpa using hx)]
  exact orI_at (i:=i) (fun j hj=>by simpa using hz (j + 1) (by omega)) (by simpa using h) hM
theorem eachK_at {α:Type} {z:α} (f:α → Pk) {l:List α} {i:Nat} {M:Int} (hi:i < l.length) (h0:∀ j,j < i → mayK (f (l.getD j z)) = 0) (h:mayK (f (l.getD i z)) = M) (hM:M ≠ 0):eachK (l.map f) = M:=by
 unfold eachK
 rw [List.map_map]
 refine orI_at (i:=i) (fun j hj=>?_) ?_ hM
 ·have hjl:j < l.length:=by omega
  have:=h0 j hj
  rw [List.getD_eq_getElem?_getD,List.getElem?_eq_getElem hjl] at this
  simp only [Option.getD_some] at this
  simp [List.getD_eq_getElem?_getD,hjl,this]
 ·rw [List.getD_eq_getElem?_getD,List.getElem?_eq_getElem hi] at h
  simp only [Option.getD_some] at h
  simp [hi,h]
theorem eachK_all {α:Type} {z:α} (f:α → Pk) {l:List α} (h0:∀ j,j < l.length → mayK (f (l.getD j z)) = 0):eachK (l.map f) = 0:=by
 unfold eachK
 rw [List.map_map]
 refine orI_all fun x hx=>?_
 obtain ⟨y,hy,rfl⟩:=List.mem_map.1 hx
 obtain ⟨i,hi,rfl⟩:=List.mem_iff_getElem.1 hy
 have:=h0 i hi
 rw [List.getD_eq_getElem?_getD,List.getElem?_eq_getElem hi] at this
 exact this
theorem map_idP (l:List Pk):l.map (fun p=>p) = l:=List.map_id' l
theorem slc_take {α:Type} {sz:Nat} {z:α} {P:World → Nat → Nat → α → Prop} {w:World} {a:Option Addr} {n cap:Nat} {l:List α} (h:Slc sz z P w (.slice a n cap) l) {i:Nat} (hi:i ≤ n):Slc sz z P w (.slice a i cap) (l.take i):=by
 obtain ⟨h0,a',c',e,hc,hr⟩:=h
 simp only [Value.slice.injEq] at e
 obtain ⟨rfl,rfl,rfl⟩:=e
 have hl:(l.take i).length = i:=by rw [List.length_take]; omega
 refine ⟨by omega,a,cap,by rw [hl],by omega,fun hp=>?_⟩
 obtain ⟨k,off,rfl,hat⟩:=hr (by omega)
 refine ⟨k,off,rfl,fun j hj=>?_⟩
 have hjl:j < l.length:=by omega
 have:=hat j hjl
 have e2:(l.take i).getD j z = l.getD j z:=by
  rw [List.getD_eq_getElem?_getD,List.getD_eq_getElem?_getD,List.getElem?_take,if_pos (by omega)]
 rw [e2]
 exact this
theorem twice_yes {l:List Pk} {i:Nat} (hi:i < l.length) (h:(l.take i).any (again (l.getD i nPk)) = true):twice l = true:=List.any_eq_true.2 ⟨i,List.mem_range.2 hi,h⟩
theorem twice_no {l:List Pk} (h:∀ j,j < l.length → (l.take j).any (again (l.getD j nPk)) = false):twice l = false:=by
 cases hq:twice l with
 | false=>rfl
 | true =>
  obtain ⟨i,hi,hp⟩:=List.any_eq_true.1 hq
  rw [h i (List.mem_range.1 hi)] at hp
  cases hp
theorem falls_yes {l:List En} {i:Nat} (hi:i < l.length) (h0:0 < i) (h:geB (l.getD (i - 1) nEn).pk.nm (l.getD i nEn).pk.nm = true):falls l = true:=List.any_eq_true.2 ⟨i,List.mem_range.2 hi,by rw [h,decide_eq_true h0]; rfl⟩
theorem falls_no {l:List En} (h:∀ j,j < l.length → 0 < j → geB (l.getD (j - 1) nEn).pk.nm (l.getD j nEn).pk.nm = false):falls l = false:=by
 cases hq:falls l with
 | false=>rfl
 | true =>
  obtain ⟨i,hi,hp⟩:=List.any_eq_true.1 hq
  rw [Bool.and_eq_true,decide_eq_true_eq] at hp
  rw [h i (List.mem_range.1 hi) hp.1] at hp
  exact absurd hp.2 (by simp)
def PkB (w:World) (g:Nat) (x:Pk):Prop:=∃ a1 n1 c1 a2 n2 c2 a3 n3 c3 a4 n4 c4 a5 n5 c5 a6 n6 c6,Blk.Is w g 40 #[.string (S x.nm),.string (S x.vs),.slice a1 n1 c1,.slice a2 n2 c2,.slice a3 n3 c3,.slice a4 n4 c4,.slice a5 n5 c5,.slice a6 n6 c6,.bool x.ess] ∧ Has w x (.slice a1 n1 c1) (.slice a2 n2 c2) (.slice a3 n3 c3) (.slice a4 n4 c4) (.slice a5 n5 c5) (.slice a6 n6 c6)
theorem PkB.below {w w':World} {g:Nat} {x:Pk} (h:PkB w g x) (hb:Below w.heap.size w w'):PkB w' g x:=by
 obtain ⟨a1,n1,c1,a2,n2,c2,a3,n3,c3,a4,n4,c4,a5,n5,c5,a6,n6,c6,h1,h2⟩:=h
 exact ⟨a1,n1,c1,a2,n2,c2,a3,n3,c3,a4,n4,c4,a5,n5,c5,a6,n6,c6,Rl.is_on h1 hb,h2.below hb⟩
set_option maxRecDepth 100000 in
set_option maxHeartbeats 2000000 in
theorem isAgain_any (v1 v2:Value) (p q:Pk) (w:World) (h1:PkV w v1 p) (h2:PkV w v2 q) (l1:p.vs.length ≤ 140737488351232) (l2:q.vs.length ≤ 140737488351232) (hm:Ver.MaxLen w) :
  Calls Tryz.prog 62 #[v1,v2] w fun e w'=>e = .returned (.bool (again p q)) ∧ Below w.heap.size w w':=by
 obtain ⟨u1,u2,u3,u4,u5,u6,rfl,_⟩:=h1
 obtain ⟨y1,y2,y3,y4,y5,y6,rfl,_⟩:=h2
 have hb1:=(Below.refl w.heap.size w).alloc (Nat.le_refl _) (.cells #[.string (S p.nm),.string (S p.vs),u1,u2,u3,u4,u5,u6,.bool p.ess] 40)
 have i1:=Blk.Is.new w 40 #[.string (S p.nm),.string (S p.vs),u1,u2,u3,u4,u5,u6,.bool p.ess]
 have hb2:=hb1.alloc hb1.size (.cells #[.string (S q.nm),.string (S q.vs),y1,y2,y3,y4,y5,y6,.bool q.ess] 40)
 have i2:=Blk.Is.new (w.alloc (.cells #[.string (S p.nm),.string (S p.vs),u1,u2,u3,u4,u5,u6,.bool p.ess] 40)) 40 #[.string (S q.nm),.string (S q.vs),y1,y2,y3,y4,y5,y6,.bool q.ess]
 have i1':=i1.alloc (.cells #[.string (S q.nm),.string (S q.vs),y1,y2,y3,y4,y5,y6,.bool q.ess] 40)
 have hsz:(w.alloc (.cells #[.string (S p.nm),.string (S p.vs),u1,u2,u3,u4,u5,u6,.bool p.ess] 40)).heap.size = w.heap.size + 1:=by simp
 rw [hsz] at i2
 obtain ⟨W,hW⟩:∃ W,(w.alloc (.cells #[.string (S p.nm),.string (S p.vs),u1,u2,u3,u4,u5,u6,.bool p.ess] 40)).alloc (.cells #[.string (S q.nm),.string (S q.vs),y1,y2,y3,y4,y5,y6,.bool q.ess] 40) = W:=⟨_,rfl⟩
 rw [hW] at hb2 i1' i2
 have c0:=i1'.at (i:=0) rfl
 have c1:=i1'.at (i:=1) rfl
 have d0:=i2.at (i:=0) rfl
 have d1:=i2.at (i:=1) rfl
 have cs:=Ver.same_any (S p.vs) (S q.vs) W (by rw [S_size]; omega) (by rw [S_size]; omega) (hm.on hb2)
 rw [S_li,S_li] at cs
 have hq:((S p.nm).toList == (S q.nm).toList) = decide (p.nm = q.nm):=Rl.S_beq _ _
 have hag:again p q = (decide (p.nm = q.nm) && sameV p.vs q.vs):=rfl
 rw [hag]
 have HB:=Lib.hid hb2
 clear hb1 i1 hb2 i1' i2 hsz hag hm
 generalize S p.nm = A at *
 generalize S q.nm = B at *
 generalize S p.vs = A1 at *
 generalize S q.vs = B1 at *
 generalize p.ess = E at *
 generalize q.ess = F at *
 generalize sameV p.vs q.vs = T at *
 cases hd:decide (p.nm = q.nm) with
 | false =>
  rw [hd] at hq
  rw [Bool.false_and]
  clear cs hd
  go_enter Tryz.func62,Tryz.ntmps62
  go_wp2_with fail
  go_ret
  exact ⟨rfl,HB.out⟩
 | true =>
  rw [hd] at hq
  rw [Bool.true_and]
  clear hd
  go_enter Tryz.func62,Tryz.ntmps62
  go_wp2_with fail
  refine cs.mono ?_
  rintro e w1 ⟨rfl,k1⟩
  have hb1:=HB.out.trans (k1.mono HB.out.size)
  clear cs
  go_wp2_with fail
  go_ret
  exact ⟨rfl,hb1⟩
set_option maxRecDepth 100000 in
set_option maxHeartbeats 2000000 in
theorem mayAllF_any (v:Value) (q:Pk) (g:Nat) (x:Pk) (w:World) (h:PkV w v q) (hg:PkB w g x) (l1:x.vs.length ≤ 140737488351232) (l2:q.vs.length ≤ 140737488351232) (hm:Ver.MaxLen w) :
  Calls Tryz.prog 61 #[v,.pointer (some ⟨g,0,none⟩)] w fun e w'=>e = .returned (.bool (again x q)) ∧ Below w.heap.size w w':=by
 obtain ⟨u1,u2,u3,u4,u5,u6,rfl,h1⟩:=h
 obtain ⟨a1,n1,c1,a2,n2,c2,a3,n3,c3,a4,n4,c4,a5,n5,c5,a6,n6,c6,i0,h2⟩:=hg
 have hb1:=(Below.refl w.heap.size w).alloc (Nat.le_refl _) (.cells #[.string (S q.nm),.string (S q.vs),u1,u2,u3,u4,u5,u6,.bool q.ess] 40)
 have i1:=Blk.Is.new w 40 #[.string (S q.nm),.string (S q.vs),u1,u2,u3,u4,u5,u6,.bool q.ess]
 have i0':=i0.alloc (.cells #[.string (S q.nm),.string (S q.vs),u1,u2,u3,u4,u5,u6,.bool q.ess] 40)
 have ca:=isAgain_any _ _ x q _ ⟨_,_,_,_,_,_,rfl,h2.below hb1⟩ ⟨_,_,_,_,_,_,rfl,h1.below hb1⟩ l1 l2 (hm.on hb1)
 obtain ⟨a7,n7,c7,e7⟩:∃ a n c,u1 = .slice a n c:=by obtain ⟨a,c,e⟩:=h1.pre.shape; exact ⟨_,_,_,e⟩
 obtain ⟨a8,n8,c8,e8⟩:∃ a n c,u2 = .slice a n c:=by obtain ⟨a,c,e⟩:=h1.dep.shape; exact ⟨_,_,_,e⟩
 obtain ⟨a9,n9,c9,e9⟩:∃ a n c,u3 = .slice a n c:=by obtain ⟨a,c,e⟩:=h1.rcm.shape; exact ⟨_,_,_,e⟩
 obtain ⟨a10,n10,c10,e10⟩:∃ a n c,u4 = .slice a n c:=by obtain ⟨a,c,e⟩:=h1.con.shape; exact ⟨_,_,_,e⟩
 obtain ⟨a11,n11,c11,e11⟩:∃ a n c,u5 = .slice a n c:=by obtain ⟨a,c,e⟩:=h1.brk.shape; exact ⟨_,_,_,e⟩
 obtain ⟨a12,n12,c12,e12⟩:∃ a n c,u6 = .slice a n c:=by obtain ⟨a,c,e⟩:=h1.prv.shape; exact ⟨_,_,_,e⟩
 subst e7 e8 e9 e10 e11 e12
 obtain ⟨W,hW⟩:∃ W,w.alloc (.cells #[.string (S q.nm),.string (S q.vs),.slice a7 n7 c7,.slice a8 n8 c8,.slice a9 n9 c9,.slice a10 n10 c10,.slice a11 n11 c11,.slice a12 n12 c12,.bool q.ess] 40) = W:=⟨_,rfl⟩
 rw [hW] at hb1 i1 i0' ca
 have c0x:=i0'.at (i:=0) rfl
 have c1x:=i0'.at (i:=1) rfl
 have c2x:=i0'.at (i:=2) rfl
 have c3x:=i0'.at (i:=3) rfl
 have c4x:=i0'.at (i:=4) rfl
 have c5x:=i0'.at (i:=5) rfl
 have c6x:=i0'.at (i:=6) rfl
 have c7x:=i0'.at (i:=7) rfl
 have c8x:=i0'.at (i:=8) rfl
 have d0x:=i1.at (i:=0) rfl
 have d1x:=i1.at (i:=1) rfl
 have d2x:=i1.at (i:=2) rfl
 have d3x:=i1.at (i:=3) rfl
 have d4x:=i1.at (i:=4) rfl
 have d5x:=i1.at (i:=5) rfl
 have d6x:=i1.at (i:=6) rfl
 have d7x:=i1.at (i:=7) rfl
 have d8x:=i1.at (i:=8) rfl
 have HB:=Lib.hid hb1
 clear hb1 i1 i0' i0 hm h1 h2
 generalize again x q = T at *
 go_enter Tryz.func61,Tryz.ntmps61
 go_wp2_with fail
 refine ca.mono ?_
 rintro e w1 ⟨rfl,k1⟩
 have hb1:=HB.out.trans (k1.mono HB.out.size)
 clear ca
 go_wp2_with fail
 go_ret
 exact ⟨rfl,hb1⟩
set_option maxRecDepth 100000 in
set_option maxHeartbeats 8000000 in
theorem indexPk_any (v:Value) (l:List Pk) (g:Nat) (y:Pk) (w:World) (h:Pks w v l) (hg:PkB w g y) (hL:∀ x ∈ l,x.vs.length ≤ 140737488351232) (hy:y.vs.length ≤ 140737488351232) (hm:Ver.MaxLen w) :
  Calls Tryz.prog 92 #[v,.func (.func 61) #[] #[.pointer (some ⟨g,0,none⟩)]] w fun e w'=>∃ i:Int,e = .returned (.int .i64 i) ∧ (0 ≤ i ↔ l.any (again y) = true) ∧ Below w.heap.size w w':=by
 obtain ⟨sa,cap,rfl⟩:=h.shape
 obtain ⟨G,hG⟩:∃ G,l.any (again y) = G:=⟨_,rfl⟩
 have HG:=Lib.hid hG
 rw [hG]
 have H:=Lib.hid h
 have HPB:=Lib.hid hg
 have HL:=Lib.hid hL
 have HM:=Lib.hid hm
 obtain ⟨n,hn⟩:∃ n,l.length = n:=⟨_,rfl⟩
 have HN:=Lib.hid hn
 rw [hn]
 clear hn hG h hg hL hm
 go_enter Tryz.func92,Tryz.ntmps92
 go_wp2_with fail
 go_loopg [8] n (fun gf s8 wx=>∃ k:Nat,s8 = .int .i64 k ∧ Below w.heap.size w wx ∧ Hid (∀ j,j < k → again y (l.getD j nPk) = false) ∧ k ≤ n ∧ n ≤ k + gf)
 case atStart=>exact ⟨0,rfl,Below.refl _ _,fun j hj=>absurd hj (by omega),by omega,by omega⟩
 case round =>
  obtain ⟨k,rfl,hbw,HE,hkn,hfu⟩:=hrel
  by_cases hlt:k < n
  ·obtain ⟨g',rfl⟩:∃ g',gk = g' + 1:=⟨gk - 1,by omega⟩
   have hlt':(k:Int) < (n:Int):=by omega
   have hk0:(0:Int) ≤ k:=by omega
   have hkl:k < l.length:=by rw [HN.out]; exact hlt
   obtain ⟨_,a',cap',e1,_,hcells⟩:=H.out.below hbw
   simp only [Value.slice.injEq,true_and] at e1
   obtain ⟨rfl,rfl⟩:=e1
   obtain ⟨kb,off,rfl,hcl2⟩:=hcells (by omega)
   obtain ⟨a1,n1,c1,a2,n2,c2,a3,n3,c3,a4,n4,c4,a5,n5,c5,a6,n6,c6,⟨x0,x1,x2,x3,x4,x5,x6,x7,x8⟩,hh⟩:=pk_read (hcl2 k hkl)
   rw [Nat.mul_comm 9 k] at x0 x1 x2 x3 x4 x5 x6 x7 x8
   have hmem:=mem_getD (z:=nPk) hkl
   have hlim:=HL.out _ hmem
   have ca:=mayAllF_any _ _ g y wr ⟨_,_,_,_,_,_,rfl,hh⟩ (HPB.out.below hbw) hy hlim (HM.out.on hbw)
   have hyes:=fun h=>any_at (p:=again y) (z:=nPk) hkl h
   have HY:=Lib.hid hyes
   generalize hx:l.getD k nPk = x at *
   have HX:=Lib.hid hx
   have HBW:=Lib.hid hbw
   clear hcl2 hcells hh hx hyes hmem hlim hbw
   cases hw:again y x with
   | true =>
    rw [hw] at ca
    have hG:G = true:=by rw [← HG.out]; exact HY.out hw
    subst hG
    clear HG HY HX HE hw
    go_wp2_with fail
    refine ca.mono ?_
    rintro e w1 ⟨rfl,k1⟩
    have hb1:=HBW.out.trans (k1.mono HBW.out.size)
    go_wp2_with fail
    go_ret
    exact ⟨k,rfl,by simp [hk0],hb1⟩
   | false =>
    rw [hw] at ca
    have HE2:Hid (∀ j,j < k + 1 → again y (l.getD j nPk) = false):=fun j hj=>by
     by_cases e:j = k
     ·rw [e,HX.out,hw]
     ·exact HE.out j (by omega)
    clear HY HX HE hw
    go_wp2_with fail
    refine ca.mono ?_
    rintro e w1 ⟨rfl,k1⟩
    have hb1:=HBW.out.trans (k1.mono HBW.out.size)
    clear ca k1
    go_wp2_with fail
    go_roundg g'
    case measure=>omega
    case rel=>exact ⟨k + 1,by go_num,hb1,HE2.out,by omega,by omega⟩
  ·have hge:¬ (k:Int) < (n:Int):=by omega
   obtain rfl:k = n:=by omega
   have hG:G = false:=by rw [← HG.out]; exact any_no (z:=nPk) fun j hj=>HE.out j (by rw [← HN.out]; exact hj)
   subst hG
   clear HG HE
   have HBW:=Lib.hid hbw
   clear hbw
   go_wp2_with fail
   go_ret
   exact ⟨-1,rfl,by simp,HBW.out⟩
set_option maxRecDepth 100000 in
theorem containsPk_any (v:Value) (l:List Pk) (g:Nat) (y:Pk) (w:World) (h:Pks w v l) (hg:PkB w g y) (hL:∀ x ∈ l,x.vs.length ≤ 140737488351232) (hy:y.vs.length ≤ 140737488351232) (hm:Ver.MaxLen w) :
  Calls Tryz.prog 60 #[v,.func (.func 61) #[] #[.pointer (some ⟨g,0,none⟩)]] w fun e w'=>e = .returned (.bool (l.any (again y))) ∧ Below w.heap.size w w':=by
 have ca:=indexPk_any v l g y w h hg hL hy hm
 obtain ⟨sa,cap,rfl⟩:=h.shape
 generalize l.any (again y) = G at *
 generalize l.length = n at *
 clear h hg hL hm
 go_enter Tryz.func60,Tryz.ntmps60
 go_wp2_with fail
 refine ca.mono ?_
 rintro e w1 ⟨i,rfl,hi,k1⟩
 clear ca
 cases G with
 | true =>
  have h0:(0:Int) ≤ i:=hi.2 rfl
  clear hi
  go_wp2_with fail
  go_ret
  exact ⟨rfl,k1⟩
 | false =>
  have h0:¬ (0:Int) ≤ i:=fun h=>by simpa using hi.1 h
  clear hi
  go_wp2_with fail
  go_ret
  exact ⟨by simp; omega,k1⟩
set_option maxRecDepth 100000 in
set_option maxHeartbeats 2000000 in
theorem indexStr_any (v:Value) (ls:List Bs) (nm:Bs) (w:World) (h:Txt.Texts w v (ls.map S)) :
  Calls Tryz.prog 124 #[v,.string (S nm)] w fun e w'=>∃ i:Int,e = .returned (.int .i64 i) ∧ (0 ≤ i ↔ nm ∈ ls) ∧ w' = w:=by
 obtain ⟨hmx,sa,cap,rfl,hcap,hread⟩:=h
 rw [List.length_map] at hcap hread hmx ⊢
 obtain ⟨G,hG⟩:∃ G,nm ∈ ls ↔ G:=⟨_,Iff.rfl⟩
 have HG:=Lib.hid hG
 rw [hG]
 have HR:=Lib.hid hread
 obtain ⟨n,hn⟩:∃ n,ls.length = n:=⟨_,rfl⟩
 have HN:=Lib.hid hn
 rw [hn] at hcap hmx ⊢
 clear hn hG hread
 go_enter Tryz.func124,Tryz.ntmps124
 go_wp2_with fail
 go_loopg [8] n (fun gf s8 wx=>∃ k:Nat,s8 = .int .i64 k ∧ wx = w ∧ Hid (∀ j,j < k → ls.getD j [] ≠ nm) ∧ k ≤ n ∧ n ≤ k + gf)
 case atStart=>exact ⟨0,rfl,rfl,fun j hj=>absurd hj (by omega),by omega,by omega⟩
 case round =>
  obtain ⟨k,rfl,rfl,HE,hkn,hfu⟩:=hrel
  by_cases hlt:k < n
  ·obtain ⟨g',rfl⟩:∃ g',gk = g' + 1:=⟨gk - 1,by omega⟩
   have hlt':(k:Int) < (n:Int):=by omega
   have hk0:(0:Int) ≤ k:=by omega
   have hkl:k < ls.length:=by rw [HN.out]; exact hlt
   obtain ⟨kb,off,rfl,hat⟩:=HR.out (by omega)
   have x0:=hat k hkl
   have e0:(ls.map S).getD k ByteArray.empty = S (ls.getD k []):=by simp [List.getD_eq_getElem?_getD,hkl]
   rw [e0] at x0
   have hq:((S nm).toList == (S (ls.getD k [])).toList) = decide (nm = ls.getD k []):=Rl.S_beq _ _
   have hmem:=mem_getD (z:=([]:Bs)) hkl
   generalize hx:ls.getD k [] = x at *
   have HX:=Lib.hid hx
   have HMEM:=Lib.hid hmem
   clear hat e0 hx hmem
   by_cases hw:nm = x
   ·rw [decide_eq_true hw] at hq
    have hG:G:=HG.out.1 (by rw [hw]; exact HMEM.out)
    have HGG:=Lib.hid hG
    clear HG HX HE hw HMEM hG
    go_wp2_with fail
    go_ret
    exact ⟨k,rfl,by simp [hk0,HGG.out],rfl⟩
   ·rw [decide_eq_false hw] at hq
    have HE2:Hid (∀ j,j < k + 1 → ls.getD j [] ≠ nm):=fun j hj=>by
     by_cases e:j = k
     ·rw [e,HX.out]; exact fun h=>hw h.symm
     ·exact HE.out j (by omega)
    clear HX HE hw HMEM
    go_wp2_with fail
    go_roundg g'
    case measure=>omega
    case rel=>exact ⟨k + 1,by go_num,rfl,HE2.out,by omega,by omega⟩
  ·have hge:¬ (k:Int) < (n:Int):=by omega
   obtain rfl:k = n:=by omega
   have hG:¬ G:=fun hg=>by
    obtain ⟨i,hi,e⟩:=List.mem_iff_getElem.1 (HG.out.2 hg)
    have:=HE.out i (by rw [← HN.out]; exact hi)
    rw [List.getD_eq_getElem?_getD,List.getElem?_eq_getElem hi] at this
    exact this e
   have HGG:=Lib.hid hG
   clear HG HE hG
   go_wp2_with fail
   go_ret
   exact ⟨-1,rfl,by simp [HGG.out],rfl⟩
set_option maxRecDepth 100000 in
theorem containsStr_any (v:Value) (ls:List Bs) (nm:Bs) (w:World) (h:Txt.Texts w v (ls.map S)) :
  Calls Tryz.prog 93 #[v,.string (S nm)] w fun e w'=>e = .returned (.bool (decide (nm ∈ ls))) ∧ w' = w:=by
 have ca:=indexStr_any v ls nm w h
 obtain ⟨_,sa,cap,rfl,_,_⟩:=h
 generalize (ls.map S).length = n at *
 by_cases hG:nm ∈ ls
 ·rw [decide_eq_true hG]
  go_enter Tryz.func93,Tryz.ntmps93
  go_wp2_with fail
  refine ca.mono ?_
  rintro e w1 ⟨i,rfl,hi,rfl⟩
  have h0:(0:Int) ≤ i:=hi.2 hG
  clear hi ca hG
  go_wp2_with fail
  go_ret
  exact ⟨rfl,rfl⟩
 ·rw [decide_eq_false hG]
  go_enter Tryz.func93,Tryz.ntmps93
  go_wp2_with fail
  refine ca.mono ?_
  rintro e w1 ⟨i,rfl,hi,rfl⟩
  have h0:¬ (0:Int) ≤ i:=fun h=>hG (hi.1 h)
  clear hi ca hG
  go_wp2_with fail
  go_ret
  exact ⟨by simp; omega,rfl⟩
end Rc
end Go.Proofs.YtmhpjjjjgakpiaaGreatDoor

/-
configured: packages as entries that are all configured; Healthy.
-/
import Derived.Test.YtgpcilepkmckeaaGreatDoorCStaEnt
import Derived.Test.YtgpcilepkmckeaaGreatDoorCStaWhole
import Derived.Test.YtgpcilepkmckeaaGreatDoorCStaWrong
namespace Go.Proofs.YtgpcilepkmckeaaGreatDoor
open Go.RowKit
set_option linter.unusedSimpArgs false
set_option linter.unusedVariables false
namespace Sa
open Ver (Bs li li_len S S_self S_size S_li)
open Rl (At Pv Ats Pvs Clss Slc LimA LimP LimC Vars aV nA mem_getD)
open Rc (Pk nPk PkV PkC Has En nEn Ens EnC CAt Pks pk_read append_big infoEn)
theorem take_snoc {α:Type} {l:List α} {z:α} {k:Nat} (hk:k < l.length):l.take (k + 1) = l.take k ++ [l.getD k z]:=by
 rw [List.getD_eq_getElem?_getD,List.getElem?_eq_getElem hk,Option.getD_some,List.take_append_getElem hk]
def eeOf (x:Pk) (a1:Option Addr) (n1 c1:Nat) (a2:Option Addr) (n2 c2:Nat) (a3:Option Addr) (n3 c3:Nat) (a4:Option Addr) (n4 c4:Nat) (a5:Option Addr) (n5 c5:Nat) (a6:Option Addr) (n6 c6:Nat) (b h:Bool):Ee :=
 ⟨⟨x,b,h⟩,.slice a1 n1 c1,.slice a2 n2 c2,.slice a3 n3 c3,.slice a4 n4 c4,.slice a5 n5 c5,.slice a6 n6 c6,fun u hu=>by
  simp only [List.mem_cons,List.not_mem_nil,or_false] at hu
  rcases hu with rfl | rfl | rfl | rfl | rfl | rfl <;> exact ⟨_,_,_,rfl⟩⟩
set_option maxRecDepth 100000 in
set_option maxHeartbeats 8000000 in
theorem configured_any (v:Value) (l:List Pk) (w:World) (h:Pks w v l) (hl:l.length ≤ 60000) :
  Calls Tryz.prog 23 #[v] w fun e w'=>∃ v',e = .returned v' ∧ ∃ ds:List Ee,w'.ownsRow w.heap.size 45 11 v' ds.length (ds.flatMap Ee.enc) ∧ ds.map Ee.en = conf l ∧ (∀ x ∈ ds,x.Is w) ∧ Below w.heap.size w w':=by
 obtain ⟨sa,cap,rfl⟩:=h.shape
 have H:=Lib.hid h
 obtain ⟨n,hn⟩:∃ n,l.length = n:=⟨_,rfl⟩
 have HN:=Lib.hid hn
 rw [hn] at hl
 rw [hn]
 clear hn h
 go_enter Tryz.func23,Tryz.ntmps23
 go_wp2_with fail
 go_loopg [3,8] n (fun gf s3 s8 wx=>∃ (k:Nat) (na:Option Addr) (nc:Nat) (ds:List Ee),s3 = .slice na k nc ∧ s8 = .int .i64 k ∧ Hid (wx.ownsRow w.heap.size 45 11 (.slice na k nc) k (ds.flatMap Ee.enc)) ∧ Hid (ds.length = k ∧ ds.map Ee.en = conf (l.take k) ∧ ∀ x ∈ ds,x.Is w) ∧ Hid (Below w.heap.size w wx) ∧ k ≤ n ∧ n ≤ k + gf)
 case atStart=>exact ⟨0,none,0,[],rfl,rfl,Lib.hid (World.ownsRow_nil _ _ _ _),Lib.hid ⟨rfl,rfl,fun x hx=>by cases hx⟩,Lib.hid (Below.refl _ _),by omega,by omega⟩
 case round =>
  obtain ⟨k,na,nc,ds,rfl,rfl,HO,HD,HB,hkn,hfu⟩:=hrel
  by_cases hlt:k < n
  ·obtain ⟨g',rfl⟩:∃ g',gk = g' + 1:=⟨gk - 1,by omega⟩
   have hlt':(k:Int) < (n:Int):=by omega
   have hk0:(0:Int) ≤ k:=by omega
   have hkl:k < l.length:=by rw [HN.out]; exact hlt
   obtain ⟨_,a',cap',e1,_,hcells⟩:=H.out
   rw [HN.out] at e1
   simp only [Value.slice.injEq,true_and] at e1
   obtain ⟨rfl,rfl⟩:=e1
   obtain ⟨kb,off,rfl,hcl2⟩:=hcells (by omega)
   obtain ⟨a1,n1,c1,a2,n2,c2,a3,n3,c3,a4,n4,c4,a5,n5,c5,a6,n6,c6,⟨x0,x1,x2,x3,x4,x5,x6,x7,x8⟩,hh⟩:=pk_read (hcl2 k hkl)
   rw [Nat.mul_comm 9 k] at x0 x1 x2 x3 x4 x5 x6 x7 x8
   replace x0:=Rl.cell_on x0 HB.out
   replace x1:=Rl.cell_on x1 HB.out
   replace x2:=Rl.cell_on x2 HB.out
   replace x3:=Rl.cell_on x3 HB.out
   replace x4:=Rl.cell_on x4 HB.out
   replace x5:=Rl.cell_on x5 HB.out
   replace x6:=Rl.cell_on x6 HB.out
   replace x7:=Rl.cell_on x7 HB.out
   replace x8:=Rl.cell_on x8 HB.out
   have htk:=take_snoc (z:=nPk) hkl
   obtain ⟨x,hx⟩:∃ x,l.getD k nPk = x:=⟨_,rfl⟩
   rw [hx] at x0 x1 x8 hh htk
   have HTK:=Lib.hid htk
   have HH:=Lib.hid hh
   have hb2:=(Below.refl wr.heap.size wr).alloc (Nat.le_refl _) (.cells #[.string (S x.nm),.string (S x.vs),.slice a1 n1 c1,.slice a2 n2 c2,.slice a3 n3 c3,.slice a4 n4 c4,.slice a5 n5 c5,.slice a6 n6 c6,.bool x.ess] 40)
   have i2:=Blk.Is.new wr 40 #[.string (S x.nm),.string (S x.vs),.slice a1 n1 c1,.slice a2 n2 c2,.slice a3 n3 c3,.slice a4 n4 c4,.slice a5 n5 c5,.slice a6 n6 c6,.bool x.ess]
   obtain ⟨bx,hbx⟩:∃ bx,wr.heap.size = bx:=⟨_,rfl⟩
   obtain ⟨V,hV⟩:∃ V,wr.alloc (.cells #[.string (S x.nm),.string (S x.vs),.slice a1 n1 c1,.slice a2 n2 c2,.slice a3 n3 c3,.slice a4 n4 c4,.slice a5 n5 c5,.slice a6 n6 c6,.bool x.ess] 40) = V:=⟨_,rfl⟩
   rw [hV] at hb2 i2
   rw [hbx] at i2
   have o2:=Own.owns_below HO.out hb2
   have b2:=HB.out.trans (hb2.mono HB.out.size)
   have z0:=i2.at (i:=0) rfl
   have z1:=i2.at (i:=1) rfl
   have z2:=i2.at (i:=2) rfl
   have z3:=i2.at (i:=3) rfl
   have z4:=i2.at (i:=4) rfl
   have z5:=i2.at (i:=5) rfl
   have z6:=i2.at (i:=6) rfl
   have z7:=i2.at (i:=7) rfl
   have z8:=i2.at (i:=8) rfl
   have hbA:=(Below.refl V.heap.size V).alloc (Nat.le_refl _) (.cells #[.string (S x.nm),.string (S x.vs),.slice a1 n1 c1,.slice a2 n2 c2,.slice a3 n3 c3,.slice a4 n4 c4,.slice a5 n5 c5,.slice a6 n6 c6,.bool x.ess,.bool true,.bool false] 45)
   have iA:=Blk.Is.new V 45 #[.string (S x.nm),.string (S x.vs),.slice a1 n1 c1,.slice a2 n2 c2,.slice a3 n3 c3,.slice a4 n4 c4,.slice a5 n5 c5,.slice a6 n6 c6,.bool x.ess,.bool true,.bool false]
   obtain ⟨WA,hWA⟩:∃ WA,V.alloc (.cells #[.string (S x.nm),.string (S x.vs),.slice a1 n1 c1,.slice a2 n2 c2,.slice a3 n3 c3,.slice a4 n4 c4,.slice a5 n5 c5,.slice a6 n6 c6,.bool x.ess,.bool true,.bool false] 45) = WA:=⟨_,rfl⟩
   rw [hWA] at hbA iA
   have OA:=Lib.hid (Own.owns_below o2 hbA)
   have BA:=Lib.hid (b2.trans (hbA.mono b2.size))
   have HCA:=Lib.hid iA
   have HWA:=Lib.hid hWA
   have ZA:=Lib.hid BA.out.size
   have K1:Hid ((k + 1) * 192 ≤ 140737488355328):=Lib.hid (by omega)
   have K2:Hid (k + 1 ≤ 4611686018427387904):=Lib.hid (by omega)
   have hu:=hV
   clear hcells hcl2 hkl htk hx hb2 i2 hV hh HO HB o2 b2 hbA iA hWA
   go_wp2_with (at_builtin; rw [HWA.out]; refine append_big Tryz.underlying26 infoEn rfl rfl (.tmp 12) (.tmp 15) rfl w.heap.size (.slice na k nc) k rfl ⟨_,OA.out⟩ V.heap.size 1 rfl [.string (S x.nm),.string (S x.vs),.slice a1 n1 c1,.slice a2 n2 c2,.slice a3 n3 c3,.slice a4 n4 c4,.slice a5 n5 c5,.slice a6 n6 c6,.bool x.ess,.bool true,.bool false] rfl (fun j u hj=>HCA.out.at (by rw [← Array.getElem?_toList]; exact hj)) (fun u hu=>by simp only [List.mem_cons,List.not_mem_nil,or_false] at hu; rcases hu with rfl | rfl | rfl | rfl | rfl | rfl | rfl | rfl | rfl | rfl | rfl <;> rfl) K1.out K2.out ZA.out ?_; intro v9 w9 h9 g9 _; have h9:=h9 _ OA.out; have b9:=Own.below_grown BA.out OA.out g9 ZA.out; obtain ⟨a9,r9,rfl,_⟩:=Rl.own_shape h9; have O9:=Lib.hid h9; have B9:=Lib.hid b9; clear h9 g9 b9)
   go_roundg g'
   case measure=>omega
   case rel =>
    refine ⟨k + 1,a9,r9,ds ++ [eeOf x a1 n1 c1 a2 n2 c2 a3 n3 c3 a4 n4 c4 a5 n5 c5 a6 n6 c6 true false],rfl,by go_num,Lib.hid ?_,Lib.hid ⟨by rw [List.length_append,HD.out.1]; rfl,?_,fun y hy=>?_⟩,B9,by omega,by omega⟩
    ·rw [List.flatMap_append]
     exact O9.out
    ·rw [List.map_append,HD.out.2.1,HTK.out]
     unfold conf
     rw [List.map_append]; rfl
    ·rcases List.mem_append.1 hy with hy | hy
     ·exact HD.out.2.2 y hy
     ·rw [List.mem_singleton.1 hy]
      exact HH.out
  ·obtain rfl:n = k:=by omega
   have hge:¬ (n:Int) < (n:Int):=by omega
   have hcf:ds.map Ee.en = conf l:=by rw [HD.out.2.1,List.take_of_length_le (Nat.le_of_eq HN.out)]
   have HCF:=Lib.hid hcf
   clear hcf
   go_wp2_with fail
   go_ret
   exact ⟨_,rfl,ds,by rw [HD.out.1]; exact HO.out,HCF.out,HD.out.2.2,HB.out⟩
structure FewP (l:List Pk):Prop where
 len:l.length ≤ 26
 pre:∀ x ∈ l,x.pre.length ≤ 20
 dep:∀ x ∈ l,x.dep.length ≤ 20
 con:∀ x ∈ l,x.con.length + x.brk.length ≤ 50
theorem FewP.all {l:List Pk} (h:FewP l) {s:List En} (hs:s.map En.pk = l):Few s:=by
 subst hs
 exact ⟨by have:=h.len; rwa [List.length_map] at this,fun x hx=>h.pre _ (List.mem_map.2 ⟨x,hx,rfl⟩),fun x hx=>h.dep _ (List.mem_map.2 ⟨x,hx,rfl⟩),fun x hx=>h.con _ (List.mem_map.2 ⟨x,hx,rfl⟩)⟩
theorem lim_all {l:List Pk} (h:∀ x ∈ l,x.Lim) {s:List En} (hs:s.map En.pk = l):LimS s:=by
 subst hs
 exact fun x hx=>h _ (List.mem_map.2 ⟨x,hx,rfl⟩)
def heaB (l:List Pk):Bool:=whB l && decide (Sa.wr (conf l) = [])
theorem heaB_iff {l:List Pk}:heaB l = true ↔ Hea l:=by
 unfold heaB Hea
 rw [Bool.and_eq_true,decide_eq_true_eq,whB_iff,AllC.wr_nil (conf_all l)]
set_option maxRecDepth 100000 in
set_option maxHeartbeats 4000000 in
theorem healthy_any (v:Value) (l:List Pk) (w:World) (h:Pks w v l) (hL:∀ x ∈ l,x.Lim) (hF:FewP l) (hv:Vars w) :
  Calls Tryz.prog 7 #[v] w fun e w'=>e = .returned (.bool (heaB l)) ∧ Below w.heap.size w w':=by
 have hl:l.length ≤ 60000:=by have:=hF.len; omega
 have ci:=isWhole_any v l w h hL hv hl
 obtain ⟨sa,cap,rfl⟩:=h.shape
 have H:=Lib.hid h
 have HL:=Lib.hid hL
 have HV:=Lib.hid hv
 have HF:=Lib.hid hF
 have HLL:=Lib.hid hl
 have hhe:heaB l = (whB l && decide (Sa.wr (conf l) = [])):=rfl
 have hcp:(conf l).map En.pk = l:=(conf_all l).1
 have HCP:=Lib.hid hcp
 rw [hhe]
 obtain ⟨G,hG⟩:∃ G,decide (Sa.wr (conf l) = []) = G:=⟨_,rfl⟩
 rw [hG]
 have HG:=Lib.hid hG
 obtain ⟨b1,hb1⟩:∃ b,whB l = b:=⟨_,rfl⟩
 rw [hb1] at ci
 rw [hb1]
 obtain ⟨n,hn⟩:∃ n,l.length = n:=⟨_,rfl⟩
 rw [hn] at ci H
 rw [hn]
 clear h hL hv hF hhe hb1 hcp hl hn hG
 go_enter Tryz.func7,Tryz.ntmps7
 cases b1 with
 | false =>
  rw [Bool.false_and]
  go_wp2_with fail
  refine ci.mono ?_
  rintro e w1 ⟨rfl,k1⟩
  clear ci
  go_wp2_with fail
  go_ret
  exact ⟨rfl,k1⟩
 | true =>
  rw [Bool.true_and]
  go_wp2_with fail
  refine ci.mono ?_
  rintro e w1 ⟨rfl,k1⟩
  have K1:=Lib.hid k1
  have cc:=configured_any _ l w1 (H.out.below k1) HLL.out
  clear ci k1
  go_wp2_with fail
  refine cc.mono ?_
  rintro e w2 ⟨v2,rfl,ds,o2,hd,hI,k2⟩
  have b2:=K1.out.trans (k2.mono K1.out.size)
  have hdl:ds.length = l.length:=by
   have:(ds.map Ee.en).length = (conf l).length:=by rw [hd]
   unfold conf at this
   simpa using this
  have hens:=own_ees o2 rfl (fun x hx=>(hI x hx).below k2) (by rw [hdl]; have:=HLL.out; omega)
  rw [hd] at hens
  have cw:=wrong_any _ _ w2 hens (lim_all HL.out HCP.out) (HV.out.on b2) (HF.out.all HCP.out)
  obtain ⟨a2,r2,rfl,_⟩:=Rl.own_shape o2
  have B2:=Lib.hid b2
  clear cc o2 hd hI k2 b2 hens hdl
  go_wp2_with fail
  refine cw.mono ?_
  rintro e w3 ⟨v3,rfl,o3,k3⟩
  have hb:=B2.out.trans (k3.mono B2.out.size)
  obtain ⟨a3,r3,rfl,_⟩:=Rl.own_shape o3
  have hq:(((Sa.wr (conf l)).length:Int) == 0) = decide (Sa.wr (conf l) = []):=by
   cases hw:Sa.wr (conf l) with
   | nil=>rfl
   | cons x r =>
    rw [decide_eq_false (by simp),beq_eq_false_iff_ne]
    simp only [List.length_cons]
    omega
  rw [HG.out] at hq
  obtain ⟨N,hN⟩:∃ N,(Sa.wr (conf l)).length = N:=⟨_,rfl⟩
  rw [hN] at hq
  rw [hN]
  clear cw o3 k3 hN
  go_wp2_with fail
  go_ret
  exact ⟨rfl,hb⟩
end Sa
end Go.Proofs.YtgpcilepkmckeaaGreatDoor

/-
The reference's SamePackages, SameEntries, where the lists are the same. The law UniverseOf. What the rows of package relation list of variables: the variable signs of package version; the variable of the library that Cut names.
-/
import Derived.Test.YtmhpjjjjgakpiaaGreatDoorBRecSame
import Derived.Deep.RegionHeld3
import Derived.Deep.MidRow
import Derived.Test.YtmhpjjjjgakpiaaGreatDoorBTextTexts
import Derived.Test.YtmhpjjjjgakpiaaGreatDoorBUniAwake
import Derived.Test.YtmhpjjjjgakpiaaGreatDoorBUniLight
import Derived.Test.YtmhpjjjjgakpiaaGreatDoorBUniYAll
import Derived.Test.YtmhpjjjjgakpiaaGreatDoorBUniReach
import Derived.Test.YtmhpjjjjgakpiaaGreatDoorRows
import Derived.Test.YtmhpjjjjgakpiaaGreatDoorBVerRefParse
import Derived.Shelf.Vars
import Derived.HandedShaped
import Derived.LaidLaws
import Derived.LaidMore
import Derived.Lib.LaidU8
namespace Go.Proofs.YtmhpjjjjgakpiaaGreatDoor
open Go.RowKit
set_option linter.unusedSimpArgs false
set_option linter.unusedVariables false
namespace Rc
open Ver (S)
set_option maxRecDepth 100000 in
set_option maxHeartbeats 16000000 in
theorem samePks_yes (v1 v2:Value) (l:List Pk) (w:World) (h1:Pks w v1 l) (h2:Pks w v2 l) :
  Calls Tryz.prog 12 #[v1,v2] w fun e w'=>e = .returned (.bool true) ∧ Below w.heap.size w w':=by
 obtain ⟨aa,ca,rfl⟩:=h1.shape
 obtain ⟨ab,cb,rfl⟩:=h2.shape
 have HA:=Lib.hid h1
 have HB:=Lib.hid h2
 obtain ⟨n,hn⟩:∃ n,l.length = n:=⟨_,rfl⟩
 have HL:=Lib.hid hn
 rw [hn]
 have hne:((n:Int) != (n:Int)) = false:=by simp
 clear hn h1 h2
 go_enter Tryz.func12,Tryz.ntmps12
 go_wp2_with fail
 go_loopg [13] n (fun gf s13 wx=>∃ k:Nat,s13 = .int .i64 k ∧ Below w.heap.size w wx ∧ k ≤ n ∧ n ≤ k + gf)
 case atStart=>exact ⟨0,rfl,Below.refl _ _,by omega,by omega⟩
 case round =>
  obtain ⟨k,rfl,hbw,hkn,hfu⟩:=hrel
  by_cases hlt:k < n
  ·obtain ⟨g',rfl⟩:∃ g',gk = g' + 1:=⟨gk - 1,by omega⟩
   have hlt':(k:Int) < (n:Int):=by omega
   have hk0:(0:Int) ≤ k:=by omega
   have hka:k < l.length:=by rw [HL.out]; exact hlt
   obtain ⟨_,a',cap',e1,_,hca⟩:=HA.out.below hbw
   simp only [Value.slice.injEq,true_and] at e1
   obtain ⟨rfl,rfl⟩:=e1
   obtain ⟨_,b',capb',e2,_,hcb⟩:=HB.out.below hbw
   simp only [Value.slice.injEq,true_and] at e2
   obtain ⟨rfl,rfl⟩:=e2
   obtain ⟨ka,oa,rfl,hca2⟩:=hca (by omega)
   obtain ⟨kb,ob,rfl,hcb2⟩:=hcb (by omega)
   obtain ⟨a1,n1,c1,a2,n2,c2,a3,n3,c3,a4,n4,c4,a5,n5,c5,a6,n6,c6,⟨x0,x1,x2,x3,x4,x5,x6,x7,x8⟩,ha⟩:=pk_read (hca2 k hka)
   obtain ⟨p1,r1,d1,p2,r2,d2,p3,r3,d3,p4,r4,d4,p5,r5,d5,p6,r6,d6,⟨y0,y1,y2,y3,y4,y5,y6,y7,y8⟩,hb⟩:=pk_read (hcb2 k hka)
   rw [Nat.mul_comm 9 k] at x0 x1 x2 x3 x4 x5 x6 x7 x8 y0 y1 y2 y3 y4 y5 y6 y7 y8
   generalize hx:l.getD k nPk = x at *
   have hE:eqP x x = true:=(eqP_iff _ _).2 rfl
   have HBW:=Lib.hid hbw
   have hcx:=fun u (hu:Below wr.heap.size wr u)=>ysame_any _ _ x x u ⟨_,_,_,_,_,_,rfl,ha.below hu⟩ ⟨_,_,_,_,_,_,rfl,hb.below hu⟩
   rw [hE] at hcx
   have HC:=Lib.hid hcx
   clear hca hcb hca2 hcb2 hx hbw hE hcx ha hb
   generalize S x.nm = A0 at *
   generalize S x.vs = A1 at *
   generalize x.ess = E at *
   have lx0:=fun u (hu:Below wr.heap.size wr u)=>Rl.cell_on x0 hu
   have ly0:=fun u (hu:Below wr.heap.size wr u)=>Rl.cell_on y0 hu
   have lx1:=fun u (hu:Below wr.heap.size wr u)=>Rl.cell_on x1 hu
   have ly1:=fun u (hu:Below wr.heap.size wr u)=>Rl.cell_on y1 hu
   have lx2:=fun u (hu:Below wr.heap.size wr u)=>Rl.cell_on x2 hu
   have ly2:=fun u (hu:Below wr.heap.size wr u)=>Rl.cell_on y2 hu
   have lx3:=fun u (hu:Below wr.heap.size wr u)=>Rl.cell_on x3 hu
   have ly3:=fun u (hu:Below wr.heap.size wr u)=>Rl.cell_on y3 hu
   have lx4:=fun u (hu:Below wr.heap.size wr u)=>Rl.cell_on x4 hu
   have ly4:=fun u (hu:Below wr.heap.size wr u)=>Rl.cell_on y4 hu
   have lx5:=fun u (hu:Below wr.heap.size wr u)=>Rl.cell_on x5 hu
   have ly5:=fun u (hu:Below wr.heap.size wr u)=>Rl.cell_on y5 hu
   have lx6:=fun u (hu:Below wr.heap.size wr u)=>Rl.cell_on x6 hu
   have ly6:=fun u (hu:Below wr.heap.size wr u)=>Rl.cell_on y6 hu
   have lx7:=fun u (hu:Below wr.heap.size wr u)=>Rl.cell_on x7 hu
   have ly7:=fun u (hu:Below wr.heap.size wr u)=>Rl.cell_on y7 hu
   have lx8:=fun u (hu:Below wr.heap.size wr u)=>Rl.cell_on x8 hu
   have ly8:=fun u (hu:Below wr.heap.size wr u)=>Rl.cell_on y8 hu
   clear x0 x1 x2 x3 x4 x5 x6 x7 x8 y0 y1 y2 y3 y4 y5 y6 y7 y8
   go_wp2_with fail
   go_region_held3 (fun u=>Below wr.heap.size wr u)
    (first | exact (Below.refl _ _).drew | assumption | (refine Below.trans ?_ (Below.mono hb5 ?_); assumption; exact Below.size (by assumption)))
    (first
     | (go_at_call 15; refine (HC.out _ (by assumption)).mono ?_; rintro e w5 ⟨rfl,hb5⟩))
   rename_i hHeld
   have hB5:Below wr.heap.size wr w5:=by assumption
   clear hHeld
   have HB5:=Lib.hid (HBW.out.trans (hB5.mono HBW.out.size))
   clear hB5 lx0 ly0 lx1 ly1 lx2 ly2 lx3 ly3 lx4 ly4 lx5 ly5 lx6 ly6 lx7 ly7 lx8 ly8 HC HBW
   go_wp2_with fail
   go_roundg g'
   case measure=>omega
   case rel=>exact ⟨k + 1,by go_num,HB5.out,by omega,by omega⟩
  ·have hge:¬ (k:Int) < (n:Int):=by omega
   obtain rfl:k = n:=by omega
   have HBW:=Lib.hid hbw
   clear hbw
   go_wp2_with fail
   go_ret
   exact ⟨rfl,HBW.out⟩
end Rc
end Go.Proofs.YtmhpjjjjgakpiaaGreatDoor
namespace Go.Proofs.YtmhpjjjjgakpiaaGreatDoor
open Go.RowKit
set_option linter.unusedSimpArgs false
set_option linter.unusedVariables false
namespace Un
open Ver (Bs S S_size)
open Rl (At Vars mem_getD)
open Rc (Pk nPk En nEn Pks Ens mayAll)
open Ix (Sorts LimS insAll)
theorem rch_swap {xs:List Pk} {a b:List Bs} {n:Bs}:Rch xs (a ++ b) n ↔ Rch xs (b ++ a) n :=
 ⟨Rch.mono fun _ h=>(List.mem_append.1 h).elim (fun h=>List.mem_append_right _ h) (fun h=>List.mem_append_left _ h),Rch.mono fun _ h=>(List.mem_append.1 h).elim (fun h=>List.mem_append_right _ h) (fun h=>List.mem_append_left _ h)⟩
theorem reaches_swap {xs:List Pk} {a b W:List Bs} (h:Reaches xs (a ++ b) W):Reaches xs (b ++ a) W:=fun n=>by rw [h n]; exact rch_swap
theorem ents_le {r:List Pk} {s:List En} (h0:allE r s = 0):s.length ≤ 10:=by
 unfold allE at h0
 by_cases h1:mayAll r ≠ 0
 ·rw [if_pos h1] at h0; exact absurd h0 h1
 ·rw [if_neg h1] at h0
  by_cases h2:Rc.mayEn s ≠ 0
  ·rw [if_pos h2] at h0; exact absurd h0 h2
  ·have:=mayEn_of (Classical.not_not.1 h2)
   exact this.len
set_option maxRecDepth 100000 in
set_option maxHeartbeats 32000000 in
theorem of_walk (v0 v1:Value) (v2:Value) (ns:List Bs) (r:List Pk) (s:List En) (w:World) (h0:Pks w v0 r) (h1:Ens w v1 s) (h2:Txt.Texts w v2 (ns.map S)) (hL2:∀ n ∈ ns,LimS n) (hL0:∀ x ∈ r,x.Lim) (hL1:∀ x ∈ s,x.pk.Lim) (hbig:s.length * 184 ≤ 140737488355328) (hv:Vars w) :
  Calls Tryz.prog 4 #[v0,v1,v2] w fun e w'=>e = .returned (.bool true) ∧ Below w.heap.size w w':=by
 have cl:=light_any v0 r w h0
 obtain ⟨sa0,cap0,rfl⟩:=h0.shape
 obtain ⟨sa1,cap1,rfl⟩:=h1.shape
 have H0:=Lib.hid h0
 have H1:=Lib.hid h1
 have HL0:=Lib.hid hL0
 have HL1:=Lib.hid hL1
 have HBIG:=Lib.hid hbig
 have HV:=Lib.hid hv
 obtain ⟨hx2,a2,c2,rfl,hc2,_⟩:=id h2
 have H2:=Lib.hid h2
 have HL2:=Lib.hid hL2
 obtain ⟨pn,hpn⟩:∃ pn,ns.length = pn:=⟨_,rfl⟩
 have HPN:=Lib.hid hpn
 rw [List.length_map,hpn] at hc2 hx2 H2 ⊢
 clear h2 hL2 hpn
 obtain ⟨n,hn⟩:∃ n,r.length = n:=⟨_,rfl⟩
 obtain ⟨m,hm⟩:∃ m,s.length = m:=⟨_,rfl⟩
 have HN:=Lib.hid hn
 have HMN:=Lib.hid hm
 rw [hn] at cl H0 ⊢
 rw [hm] at H1 ⊢
 obtain ⟨b1,hb1⟩:∃ b1,lightB r = b1:=⟨_,rfl⟩
 rw [hb1] at cl
 have HB1:=Lib.hid hb1
 clear hn hm h0 h1 hL0 hL1 hbig hv hb1
 go_enter Tryz.func4,Tryz.ntmps4
 go_wp2_with fail
 refine cl.mono ?_
 rintro e w1 ⟨rfl,k1⟩
 have K1:=Lib.hid k1
 clear cl k1
 cases b1 with
 | false =>
  have ca:=awake_any w1 (HV.out.on K1.out)
  go_wp2_with fail
  refine ca.mono ?_
  rintro e w9 ⟨rfl,k9⟩
  have hb:=K1.out.trans (k9.mono K1.out.size)
  clear ca
  go_wp2_with fail
  go_ret
  exact ⟨rfl,hb⟩
 | true =>
  have cb:=bare_any _ s w1 (H1.out.below K1.out) HBIG.out
  go_wp2_with fail
  refine cb.mono ?_
  rintro e w2 ⟨v2,rfl,hp2,k2⟩
  have cl2:=light_any _ _ w2 hp2
  have K2:=Lib.hid (K1.out.trans (k2.mono K1.out.size))
  obtain ⟨b2,hb2⟩:∃ b2,lightB (s.map En.pk) = b2:=⟨_,rfl⟩
  rw [hb2] at cl2
  have HB2:=Lib.hid hb2
  clear cb hp2 k2 hb2
  go_wp2_with fail
  refine cl2.mono ?_
  rintro e w3 ⟨rfl,k3⟩
  have K3:=Lib.hid (K2.out.trans (k3.mono K2.out.size))
  clear cl2 k3
  cases b2 with
  | false =>
   have ca:=awake_any w3 (HV.out.on K3.out)
   go_wp2_with fail
   refine ca.mono ?_
   rintro e w9 ⟨rfl,k9⟩
   have hb:=K3.out.trans (k9.mono K3.out.size)
   clear ca
   go_wp2_with fail
   go_ret
   exact ⟨rfl,hb⟩
  | true =>
   by_cases hbig:20 < pn
   ·have hbig':(20:Int) < (pn:Int):=by omega
    have ca:=awake_any w3 (HV.out.on K3.out)
    go_wp2_with fail
    refine ca.mono ?_
    rintro e w9 ⟨rfl,k9⟩
    have hb:=K3.out.trans (k9.mono K3.out.size)
    clear ca
    go_wp2_with fail
    go_ret
    exact ⟨rfl,hb⟩
   ·have hbig':¬ (20:Int) < (pn:Int):=by omega
    have c1:=of_reach _ _ _ r s ns w3 (H0.out.below K3.out) (H1.out.below K3.out) (H2.out.below K3.out) HL0.out HL1.out HL2.out (HV.out.on K3.out)
    go_wp2_with fail
    refine c1.mono ?_
    rintro e w4 ⟨hc1,k4⟩
    have K4:=Lib.hid (K3.out.trans (k4.mono K3.out.size))
    have c2:=yall_any _ _ r s w4 (H0.out.below K4.out) (H1.out.below K4.out) HL0.out HL1.out
    clear c1 k4
    rcases hc1 with ⟨hE,rfl⟩ | ⟨hE,xs,WF,va,rfl,hg,hW,hpk⟩
    ·have HE:=Lib.hid hE
     clear hE
     go_wp2_with fail
     refine c2.mono ?_
     rintro e w5 ⟨hc2,k5⟩
     have K5:=Lib.hid (K4.out.trans (k5.mono K4.out.size))
     clear c2 k5
     rcases hc2 with ⟨_,rfl⟩ | ⟨hE,_⟩
     ·have hE:=HE.out
      generalize allE r s = E at *
      have hEE:(E == E) = true:=by simp
      have hE0:(E == 0) = false:=by simpa using hE
      have ca:=awake_any w5 (HV.out.on K5.out)
      go_wp2_with fail
      refine ca.mono ?_
      rintro e w9 ⟨rfl,k9⟩
      have hb:=K5.out.trans (k9.mono K5.out.size)
      clear ca
      go_wp2_with fail
      go_ret
      exact ⟨rfl,hb⟩
     ·exact absurd hE HE.out
    ·have HPK:=Lib.hid hpk
     have hxs:xs = insAll (joinL r s) []:=Ix.sorts_one hg.may (List.Perm.refl _) hg.so (Ix.sorts_ins fun p hp=>(hg.may.each p hp).ver)
     have HXS:=Lib.hid hxs
     have HE:=Lib.hid hE
     have HG:=Lib.hid hg
     have HW:=Lib.hid hW
     clear hxs hg hpk hE hW
     go_wp2_with fail
     refine c2.mono ?_
     rintro e w5 ⟨hc2,k5⟩
     have K5:=Lib.hid (K4.out.trans (k5.mono K4.out.size))
     rcases hc2 with ⟨hE,_⟩ | ⟨_,vb,rfl,hpb⟩
     ·exact absurd HE.out hE
     ·rw [← HXS.out] at hpb
      have hLx:∀ x ∈ xs,x.Lim:=fun x hx=>join_lim HL0.out HL1.out x (HG.out.so.1.mem_iff.1 hx)
      have hs10:s.length ≤ 10:=ents_le HE.out
      have hW2:Reaches xs (ns ++ s.map fun x=>x.pk.nm) WF:=reaches_swap HW.out
      have cr:=yreached_any vb _ _ xs s ns w5 hpb (H1.out.below K5.out) (H2.out.below K5.out) hLx HG.out.each HG.out.len hs10 (by rw [HPN.out]; omega) WF hW2
      have HPK5:=Lib.hid (HPK.out.below k5)
      clear c2 k5 hpb hLx hs10 hW2
      go_wp2_with fail
      refine cr.mono ?_
      rintro e w6 ⟨vc,rfl,hpc,k6⟩
      have K6:=Lib.hid (K5.out.trans (k6.mono K5.out.size))
      have cs:=Rc.samePks_yes _ vc (inW WF xs) w6 (HPK5.out.below k6) hpc
      clear cr k6 hpc
      go_wp2_with fail
      refine cs.mono ?_
      rintro e w7 ⟨rfl,k7⟩
      have K7:=Lib.hid (K6.out.trans (k7.mono K6.out.size))
      clear cs k7
      have ca:=awake_any w7 (HV.out.on K7.out)
      go_wp2_with fail
      refine ca.mono ?_
      rintro e w9 ⟨rfl,k9⟩
      have hb:=K7.out.trans (k9.mono K7.out.size)
      clear ca
      go_wp2_with fail
      go_ret
      exact ⟨rfl,hb⟩
end Un
end Go.Proofs.YtmhpjjjjgakpiaaGreatDoor
namespace Go.Proofs.YtmhpjjjjgakpiaaGreatDoor
open Go Go.Lib Go.RowKit
set_option maxRecDepth 100000
set_option linter.unusedSimpArgs false
namespace Rl
open Ver (MaxLen Signs)
def listed : List (String × DataW Unit) := [("chandler/version.signs", Rows.laid_chandler_version_signs)]
theorem maxLen_of {w:World} (h:w.ShapedOpen Tryz.prog):MaxLen w :=
 cell_of_shapedOpen_int (P:=Tryz.prog) (g:=1) (t:=3) (zero:=#[.int .i64 0]) (k:=.i64) h (by decide +kernel) (by kernel_rfl) rfl (by kernel_rfl) (by kernel_rfl) Tryz.underlying3
theorem signs_of_laid {W:World} (h:laidMetH Tryz.prog listed W):Signs W:=by
 intro i hi
 rw [MakeChecks.laidMetH_plain _ _ _ (by kernel_rfl)] at h
 obtain ⟨g,t,cs,fuel,p,hg,hty,hvar,hd⟩:=Lib.laidMet.reads h (.head _)
 have hgn : Tryz.prog.globalNamed "chandler/version.signs" = some 0 := by kernel_rfl
 have htn:(Tryz.prog.globals[0]?).map (·.type) = some 178:=by kernel_rfl
 obtain rfl:=Option.some.inj (hgn.symm.trans hg)
 obtain rfl:=Option.some.inj (htn.symm.trans hty)
 have hu:Tryz.prog.underlying 178 = some (.array 6 9):=by kernel_rfl
 have hc:Tryz.prog.cellsOf 9 = 1:=by kernel_rfl
 obtain ⟨fuel',d,q,hdi,he⟩:=Lib.array_elem hu hd i hi
 obtain ⟨s,hs1,hs2,_⟩:=DataW.trod_string (by kernel_rfl:Tryz.prog.underlying 9 = some .string) he
 rw [hc,Nat.mul_one] at hs1
 have hcell:cs.toList[i]? = some (.string s):=by
  have:=congrArg (·[0]?) hs1
  simpa [List.getElem?_take,List.getElem?_drop] using this
 rw [World.var?_cell hg hvar i,← Array.getElem?_toList,hcell]
 simp only [Prod.mk.injEq] at hs2
 obtain ⟨rfl,_⟩:=hs2
 have hS:∀ l:List UInt8,s.data.toList = l → s = ⟨l.toArray⟩:=fun l e=>by
  apply ByteArray.ext
  rw [← e]
 have hcase:i = 0 ∨ i = 1 ∨ i = 2 ∨ i = 3 ∨ i = 4 ∨ i = 5:=by omega
 rcases hcase with rfl | rfl | rfl | rfl | rfl | rfl
 all_goals
  simp only [Rows.laid_chandler_version_signs,List.getElem?_cons_zero,List.getElem?_cons_succ,Option.some.injEq,DataW.lit.injEq,Lit.string.injEq] at hdi
  rw [hS _ hdi.symm]
  rfl
theorem vars_of {W:World} (hL:laidMetH Tryz.prog listed W) (hSh:W.ShapedOpen Tryz.prog):Vars W:=⟨maxLen_of hSh,signs_of_laid hL⟩
end Rl
end Go.Proofs.YtmhpjjjjgakpiaaGreatDoor

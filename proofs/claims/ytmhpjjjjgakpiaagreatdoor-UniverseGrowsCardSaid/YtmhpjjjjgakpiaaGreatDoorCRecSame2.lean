/-
The mathematics of the reference's Reached: rounds that mark packages and collect names. The reference's Reached. The reference's SamePackages, SameEntries, where the lists are the same.
-/
import Derived.Test.YtmhpjjjjgakpiaaGreatDoorCUniAsk
import Derived.Test.YtmhpjjjjgakpiaaGreatDoorCUniLight
import Derived.Test.YtmhpjjjjgakpiaaGreatDoorCRecBare
import Derived.Test.YtmhpjjjjgakpiaaGreatDoorCUniWork
import Derived.Test.YtmhpjjjjgakpiaaGreatDoorCUniAwake
import Derived.Test.YtmhpjjjjgakpiaaGreatDoorCIxDef
import Derived.Laws.MakeOwn
import Derived.Laws.OwnMore
import Derived.Test.YtmhpjjjjgakpiaaGreatDoorCRecSame
import Derived.Deep.RegionHeld3
import Derived.Deep.MidRow
import Derived.Test.YtmhpjjjjgakpiaaGreatDoorCTextTexts
namespace Go.Proofs.YtmhpjjjjgakpiaaGreatDoor
open Go.RowKit
set_option linter.unusedSimpArgs false
set_option linter.unusedVariables false
namespace Un
open Ver (Bs)
open Rl (At nA)
open Rc (Pk nPk)
open Ix (sat)
def nmA (all:List Pk) (j:Nat):Bs:=(all.getD j nPk).nm
end Un
end Go.Proofs.YtmhpjjjjgakpiaaGreatDoor
namespace Go.Proofs.YtmhpjjjjgakpiaaGreatDoor
open Go.RowKit
set_option linter.unusedSimpArgs false
set_option linter.unusedVariables false
namespace Un
open Ver (Bs S S_size)
open Rl (At Slc Ats Clss LimA nA aV mem_getD)
open Rc (Pk nPk En nEn Pks Ens PkV PkC Has In Acc append_big infoPk in_low)
open Ix (LimAt sat MayP)
def mk (all:List Pk) (f:Nat → Bool) (W:List Bs) (i:Nat):Nat → Bool:=fun j=>f j || (decide (j < i) && decide (nmA all j ∈ W))
theorem texts_slc {w:World} {v:Value} {l:List Bs} (h:Txt.Texts w v (l.map S)) (hl:l.length ≤ 60000):Slc 1 [] (fun w k o (s:Bs)=>w.cell? ⟨k,o,none⟩ = some (.string (S s))) w v l:=by
 obtain ⟨_,a,cap,rfl,hc,hr⟩:=h
 rw [List.length_map] at hc hr ⊢
 refine ⟨by omega,a,cap,rfl,hc,fun h0=>?_⟩
 obtain ⟨b,off,e,hh⟩:=hr h0
 refine ⟨b,off,e,fun i hi=>?_⟩
 have:=hh i hi
 show w.cell? ⟨b,off + 1 * i,none⟩ = _
 rw [Nat.one_mul,this]
 simp [List.getD_eq_getElem?_getD,hi]
theorem tx_flat (l:List Bs):(l.flatMap fun s:Bs=>[Value.string (S s)]) = tx l:=by
 unfold tx
 induction l with
 | nil=>rfl
 | cons x r ih=>rw [List.flatMap_cons,ih]; rfl
theorem texts_src {w:World} {v:Value} {l:List Bs} (h:Txt.Texts w v (l.map S)) (hl:l.length ≤ 60000):Src Tryz.prog 1 32 v l.length (tx l) w:=by
 rw [← tx_flat]
 exact Va.slc_src (sz:=1) (by omega) (fun s:Bs=>[Value.string (S s)]) (fun _=>rfl) (fun w k o s hs j u hj=>by cases j with | zero=>(simp at hj; subst hj; exact hs) | succ j=>simp at hj) (fun s u hu=>by simp at hu; rw [hu]; rfl) Tryz.underlying32 (texts_slc h hl)
end Un
end Go.Proofs.YtmhpjjjjgakpiaaGreatDoor
namespace Go.Proofs.YtmhpjjjjgakpiaaGreatDoor
open Go.RowKit
set_option linter.unusedSimpArgs false
set_option linter.unusedVariables false
namespace Rc
open Ver (S)
set_option maxRecDepth 100000 in
set_option maxHeartbeats 16000000 in
theorem samePks_yes (v1 v2:Value) (l:List Pk) (w:World) (h1:Pks w v1 l) (h2:Pks w v2 l) :
  Calls Tryz.prog 12 #[v1,v2] w fun e w'=>e = .returned (.bool true) ∧ Below w.heap.size w w':=by
 obtain ⟨aa,ca,rfl⟩:=h1.shape
 obtain ⟨ab,cb,rfl⟩:=h2.shape
 have HA:=Lib.hid h1
 have HB:=Lib.hid h2
 obtain ⟨n,hn⟩:∃ n,l.length = n:=⟨_,rfl⟩
 have HL:=Lib.hid hn
 rw [hn]
 have hne:((n:Int) != (n:Int)) = false:=by simp
 clear hn h1 h2
 go_enter Tryz.func12,Tryz.ntmps12
 go_wp2_with fail
 go_loopg [13] n (fun gf s13 wx=>∃ k:Nat,s13 = .int .i64 k ∧ Below w.heap.size w wx ∧ k ≤ n ∧ n ≤ k + gf)
 case atStart=>exact ⟨0,rfl,Below.refl _ _,by omega,by omega⟩
 case round =>
  obtain ⟨k,rfl,hbw,hkn,hfu⟩:=hrel
  by_cases hlt:k < n
  ·obtain ⟨g',rfl⟩:∃ g',gk = g' + 1:=⟨gk - 1,by omega⟩
   have hlt':(k:Int) < (n:Int):=by omega
   have hk0:(0:Int) ≤ k:=by omega
   have hka:k < l.length:=by rw [HL.out]; exact hlt
   obtain ⟨_,a',cap',e1,_,hca⟩:=HA.out.below hbw
   simp only [Value.slice.injEq,true_and] at e1
   obtain ⟨rfl,rfl⟩:=e1
   obtain ⟨_,b',capb',e2,_,hcb⟩:=HB.out.below hbw
   simp only [Value.slice.injEq,true_and] at e2
   obtain ⟨rfl,rfl⟩:=e2
   obtain ⟨ka,oa,rfl,hca2⟩:=hca (by omega)
   obtain ⟨kb,ob,rfl,hcb2⟩:=hcb (by omega)
   obtain ⟨a1,n1,c1,a2,n2,c2,a3,n3,c3,a4,n4,c4,a5,n5,c5,a6,n6,c6,⟨x0,x1,x2,x3,x4,x5,x6,x7,x8⟩,ha⟩:=pk_read (hca2 k hka)
   obtain ⟨p1,r1,d1,p2,r2,d2,p3,r3,d3,p4,r4,d4,p5,r5,d5,p6,r6,d6,⟨y0,y1,y2,y3,y4,y5,y6,y7,y8⟩,hb⟩:=pk_read (hcb2 k hka)
   rw [Nat.mul_comm 9 k] at x0 x1 x2 x3 x4 x5 x6 x7 x8 y0 y1 y2 y3 y4 y5 y6 y7 y8
   generalize hx:l.getD k nPk = x at *
   have hE:eqP x x = true:=(eqP_iff _ _).2 rfl
   have HBW:=Lib.hid hbw
   have hcx:=fun u (hu:Below wr.heap.size wr u)=>ysame_any _ _ x x u ⟨_,_,_,_,_,_,rfl,ha.below hu⟩ ⟨_,_,_,_,_,_,rfl,hb.below hu⟩
   rw [hE] at hcx
   have HC:=Lib.hid hcx
   clear hca hcb hca2 hcb2 hx hbw hE hcx ha hb
   generalize S x.nm = A0 at *
   generalize S x.vs = A1 at *
   generalize x.ess = E at *
   have lx0:=fun u (hu:Below wr.heap.size wr u)=>Rl.cell_on x0 hu
   have ly0:=fun u (hu:Below wr.heap.size wr u)=>Rl.cell_on y0 hu
   have lx1:=fun u (hu:Below wr.heap.size wr u)=>Rl.cell_on x1 hu
   have ly1:=fun u (hu:Below wr.heap.size wr u)=>Rl.cell_on y1 hu
   have lx2:=fun u (hu:Below wr.heap.size wr u)=>Rl.cell_on x2 hu
   have ly2:=fun u (hu:Below wr.heap.size wr u)=>Rl.cell_on y2 hu
   have lx3:=fun u (hu:Below wr.heap.size wr u)=>Rl.cell_on x3 hu
   have ly3:=fun u (hu:Below wr.heap.size wr u)=>Rl.cell_on y3 hu
   have lx4:=fun u (hu:Below wr.heap.size wr u)=>Rl.cell_on x4 hu
   have ly4:=fun u (hu:Below wr.heap.size wr u)=>Rl.cell_on y4 hu
   have lx5:=fun u (hu:Below wr.heap.size wr u)=>Rl.cell_on x5 hu
   have ly5:=fun u (hu:Below wr.heap.size wr u)=>Rl.cell_on y5 hu
   have lx6:=fun u (hu:Below wr.heap.size wr u)=>Rl.cell_on x6 hu
   have ly6:=fun u (hu:Below wr.heap.size wr u)=>Rl.cell_on y6 hu
   have lx7:=fun u (hu:Below wr.heap.size wr u)=>Rl.cell_on x7 hu
   have ly7:=fun u (hu:Below wr.heap.size wr u)=>Rl.cell_on y7 hu
   have lx8:=fun u (hu:Below wr.heap.size wr u)=>Rl.cell_on x8 hu
   have ly8:=fun u (hu:Below wr.heap.size wr u)=>Rl.cell_on y8 hu
   clear x0 x1 x2 x3 x4 x5 x6 x7 x8 y0 y1 y2 y3 y4 y5 y6 y7 y8
   go_wp2_with fail
   go_region_held3 (fun u=>Below wr.heap.size wr u)
    (first | exact (Below.refl _ _).drew | assumption | (refine Below.trans ?_ (Below.mono hb5 ?_); assumption; exact Below.size (by assumption)))
    (first
     | (go_at_call 15; refine (HC.out _ (by assumption)).mono ?_; rintro e w5 ⟨rfl,hb5⟩))
   rename_i hHeld
   have hB5:Below wr.heap.size wr w5:=by assumption
   clear hHeld
   have HB5:=Lib.hid (HBW.out.trans (hB5.mono HBW.out.size))
   clear hB5 lx0 ly0 lx1 ly1 lx2 ly2 lx3 ly3 lx4 ly4 lx5 ly5 lx6 ly6 lx7 ly7 lx8 ly8 HC HBW
   go_wp2_with fail
   go_roundg g'
   case measure=>omega
   case rel=>exact ⟨k + 1,by go_num,HB5.out,by omega,by omega⟩
  ·have hge:¬ (k:Int) < (n:Int):=by omega
   obtain rfl:k = n:=by omega
   have HBW:=Lib.hid hbw
   clear hbw
   go_wp2_with fail
   go_ret
   exact ⟨rfl,HBW.out⟩
end Rc
end Go.Proofs.YtmhpjjjjgakpiaaGreatDoor

/-
Parse: its contract. Fold and Get.
-/
import Derived.Test.YthmpepnikmdjpaaGreatDoorCStzGood
import Derived.Test.YthmpepnikmdjpaaGreatDoorCRow
namespace Go.Proofs.YthmpepnikmdjpaaGreatDoor
open Go.RowKit
set_option linter.unusedSimpArgs false
set_option linter.unusedVariables false
namespace Stz
open Txt (b b_eq b_lt wht trimL trimRight trimLeft)
def bytes (ls:List ByteArray):List Bs:=ls.map fun t=>t.data.toList
def PR (s:ByteArray) (l:List Sz) (er n:Nat):Prop:=∃ ls e0 n0,Txt.LR s ls e0 n0 ∧ ((e0 ≠ 0 ∧ l = [] ∧ er = e0 ∧ n = n0) ∨ (e0 = 0 ∧ parse (bytes ls) = (l,er,n)))
theorem PR.uniq {s:ByteArray} {l l':List Sz} {e e' n n':Nat} (h:PR s l e n) (h':PR s l' e' n'):l = l' ∧ e = e' ∧ n = n':=by
 obtain ⟨ls,e0,n0,h1,h2⟩:=h
 obtain ⟨ls',e0',n0',h1',h2'⟩:=h'
 obtain ⟨rfl,rfl,rfl⟩:=h1.uniq h1'
 rcases h2 with ⟨k1,rfl,rfl,rfl⟩ | ⟨k1,k2⟩
 ·rcases h2' with ⟨_,rfl,rfl,rfl⟩ | ⟨j1,_⟩
  ·exact ⟨rfl,rfl,rfl⟩
  ·exact absurd j1 k1
 ·rcases h2' with ⟨j1,_⟩ | ⟨_,j2⟩
  ·exact absurd k1 j1
  ·rw [k2] at j2
   simp only [Prod.mk.injEq] at j2
   exact j2
theorem run_snoc {ls:List Bs} {k:Nat} (h:k < ls.length) (z:Zip):run start 1 (ls.take k) = .ok z → run start 1 (ls.take (k + 1)) = (match take z (ls.getD k []) ((k:Int) + 1) with | .error e=>.error (e,k + 1) | .ok z'=>.ok z'):=by
 intro hz
 have e:ls.take (k + 1) = ls.take k ++ [ls.getD k []]:=by
  rw [List.take_succ_eq_append_getElem h]
  simp [List.getD,List.getElem?_eq_getElem h]
 have hl:(ls.take k).length = k:=by rw [List.length_take]; omega
 rw [e,run_app,hz]
 simp only [hl]
 rw [run_cons]
 rw [show ((1 + k:Nat):Int) = (k:Int) + 1 by omega]
 cases take z (ls.getD k []) ((k:Int) + 1) with
 | error c=>simp only; rw [Nat.add_comm]
 | ok z'=>rfl
theorem take_ne {z:Zip} {x:Bs} {n:Int}:take z x n ≠ .error 0:=by
 unfold take
 split
 ·intro h; cases h
 split
 ·intro h; cases h
 split
 ·unfold goOn
  split <;> (intro h; cases h)
 ·unfold field
  split
  ·intro h; cases h
  ·split
   ·unfold begin
    split
    ·split <;> (intro h; cases h)
    ·split
     ·intro h; cases h
     ·split <;> (intro h; cases h)
   ·intro h; cases h
theorem run_bad {ls:List Bs} {k:Nat} (h:k < ls.length) {z:Zip} {c:Nat} (hz:run start 1 (ls.take k) = .ok z) (ht:take z (ls.getD k []) ((k:Int) + 1) = .error c):run start 1 ls = .error (c,k + 1):=by
 have h1:=run_snoc h z hz
 rw [ht] at h1
 have e:ls = ls.take (k + 1) ++ ls.drop (k + 1):=(List.take_append_drop _ _).symm
 rw [e,run_app,h1]
/-! ### how great -/
theorem fit_mono {m m':Nat} {z:Zip} (h:Fit m z) (hm:m ≤ m'):Fit m' z:=by
 obtain ⟨h1,h2,h3⟩:=h
 refine ⟨h1,fun s hs=>⟨(h2 s hs).1,fun g hg=>⟨((h2 s hs).2 g hg).1,Nat.le_trans ((h2 s hs).2 g hg).2 hm⟩⟩,fun k fs f e=>?_⟩
 obtain ⟨k1,k2,k3⟩:=h3 k fs f e
 exact ⟨k1,k2,fun g hg=>⟨(k3 g hg).1,Nat.le_trans (k3 g hg).2 hm⟩⟩
theorem fit_start:Fit 0 start:=⟨by simp [start],(fun s hs=>by cases hs),(fun k fs f e=>by cases e)⟩
theorem fit_close {m:Nat} {z:Zip} (h:Fit m z):Fit m z.close:=by
 obtain ⟨d,q⟩:=z
 obtain ⟨h1,h2,h3⟩:=h
 cases q with
 | none=>exact ⟨h1,h2,h3⟩
 | some p =>
  obtain ⟨k,fs,f⟩:=p
  obtain ⟨k1,k2,k3⟩:=h3 k fs f rfl
  simp only at k1
  refine ⟨by show (d ++ [(k,fs ++ [f])]).length ≤ 200; simp; omega,fun s hs=>?_,fun _ _ _ e=>by cases e⟩
  rcases List.mem_append.1 (show s ∈ d ++ [(k,fs ++ [f])] from hs) with hs | hs
  ·exact h2 s hs
  ·rw [List.mem_singleton.1 hs]
   exact ⟨by simp; omega,k3⟩
theorem fit_take {m:Nat} {z z':Zip} {x:Bs} {n:Int} (h:Fit m z) (hx:x.length ≤ 1000000) (ht:take z x n = .ok z'):Fit (m + 1) z':=by
 unfold take at ht
 split at ht
 ·cases ht; exact fit_mono h (by omega)
 split at ht
 ·cases ht; exact fit_mono (fit_close h) (by omega)
 split at ht
 ·obtain ⟨d,q⟩:=z
  cases q with
  | none=>cases ht
  | some p =>
   obtain ⟨k,fs,nm,ls⟩:=p
   cases ht
   obtain ⟨h1,h2,h3⟩:=fit_mono (m':=m + 1) h (by omega)
   obtain ⟨k1,k2,k3⟩:=h.2.2 k fs (nm,ls) rfl
   refine ⟨h1,h2,fun k' fs' f' e=>?_⟩
   simp only [Option.some.injEq,Prod.mk.injEq] at e
   obtain ⟨rfl,rfl,rfl⟩:=e
   refine ⟨k1,k2,fun g hg=>?_⟩
   rcases List.mem_append.1 hg with hg | hg
   ·have:=k3 g (List.mem_append.2 (.inl hg)); exact ⟨this.1,by omega⟩
   ·rw [List.mem_singleton.1 hg]
    have:=k3 (nm,ls) (by simp)
    exact ⟨this.1,by simpa using this.2⟩
 ·unfold field at ht
  cases hc:cutL x with
  | none=>rw [hc] at ht; cases ht
  | some p =>
   obtain ⟨nm,r⟩:=p
   rw [hc] at ht
   have hlen:=congrArg List.length (cut_eq hc).1
   rw [List.length_append,List.length_cons] at hlen
   simp only at ht
   split at ht
   ·unfold begin at ht
    obtain ⟨d,q⟩:=z
    cases q with
    | none =>
     simp only at ht
     split at ht
     ·cases ht
     ·next hd =>
      cases ht
      obtain ⟨h1,h2,h3⟩:=fit_mono (m':=m + 1) h (by omega)
      simp only at h1
      refine ⟨h1,h2,fun k' fs' f' e=>?_⟩
      simp only [Option.some.injEq,Prod.mk.injEq] at e
      obtain ⟨rfl,rfl,rfl⟩:=e
      refine ⟨by simp only; omega,by simp,fun g hg=>?_⟩
      simp at hg
      subst hg
      exact ⟨by simp only; omega,by simp⟩
    | some p =>
     obtain ⟨k,fs,f⟩:=p
     simp only at ht
     split at ht
     ·cases ht
     ·next hd =>
      split at ht
      ·cases ht
      ·cases ht
       obtain ⟨h1,h2,h3⟩:=fit_mono (m':=m + 1) h (by omega)
       obtain ⟨k1,k2,k3⟩:=h3 k fs f rfl
       refine ⟨h1,h2,fun k' fs' f' e=>?_⟩
       simp only [Option.some.injEq,Prod.mk.injEq] at e
       obtain ⟨rfl,rfl,rfl⟩:=e
       refine ⟨k1,by simp; omega,fun g hg=>?_⟩
       rcases List.mem_append.1 hg with hg | hg
       ·exact k3 g hg
       ·rw [List.mem_singleton.1 hg]
        exact ⟨by simp only; omega,by simp⟩
   ·cases ht
theorem fit_bnd {m:Nat} {z:Zip} (h:Fit m z) (hc:z.cur = none) (hm:200 ≤ m):Bnd m z.done:=⟨by have:=h.1; omega,fun s hs=>⟨by have:=(h.2.1 s hs).1; omega,fun f hf=>((h.2.1 s hs).2 f hf).2⟩⟩
def Small (l:List Sz):Prop:=l.length ≤ 200 ∧ ∀ s ∈ l,s.2.length ≤ 40 ∧ ∀ g ∈ s.2,g.1.length ≤ 1000000 ∧ g.2.length ≤ 70000
set_option maxRecDepth 100000 in
set_option maxHeartbeats 4000000 in
theorem parse_any (a:Option Addr) (len cap:Nat) (zs:List Int) (w:World) (hr:Row w a len zs) (hT:Lib.Utf8Tabs 3 4 w) (hm:Txt.MaxLen w) :
  Calls Tryz.prog 130 #[.slice a len cap] w fun e w'=>∃ v l er n,e = .returned (.tuple #[v,.agg #[.int .i64 (er:Nat),.int .i64 (n:Nat)]]) ∧ PR (strOfNums zs) l er n ∧ Small l ∧ Stzs w' v l ∧ Below w.heap.size w w':=by
 have htl:=Txt.tabs_lt hT
 have hml:=hm.lt
 have HT:=Lib.hid hT
 have HM:=Lib.hid hm
 have HR:=Lib.hid hr
 have cl:=fun w1 (hb:Below w.heap.size w w1)=>Txt.lines_all a len cap zs w1 (by
  exact hr.below hb) (Txt.tabs_below hT hb htl) (hm.below hb hml)
 have CL:=Lib.hid cl
 clear cl hT hm hr
 have hb0:Below w.heap.size w (w.alloc (.cells #[.int .i64 0,.int .i64 0] 45)):=(Below.refl _ _).alloc (Nat.le_refl _) _
 have HB0:=Lib.hid hb0
 clear hb0
 go_enter Tryz.func130,Tryz.ntmps130
 go_wp2_with fail
 refine (CL.out _ HB0.out).mono ?_
 rintro e w1 ⟨v,ls,er,n,rfl,hlr,hll,htx,b1⟩
 have hw1:w.heap.size + 1 ≤ w1.heap.size:=by have:=b1.size; simpa using this
 have hb1:Below w.heap.size w w1:=HB0.out.trans (b1.mono (by simp))
 have ia1:Blk.Is w1 w.heap.size 45 #[.int .i64 0,.int .i64 0]:=(Blk.Chg.ofBelow' (S:=fun _=>False) b1).is (Blk.Is.new w 45 #[.int .i64 0,.int .i64 0]) (by simp)
 have HLR:=Lib.hid hlr
 have HLL:=Lib.hid hll
 have HTX:=Lib.hid htx
 have HB1:=Lib.hid hb1
 have HIA:=Lib.hid ia1
 clear b1 hlr htx hb1
 by_cases he:er = 0
 ·subst he
  have hne:((0:Int) != 0) = false:=by simp
  obtain ⟨w2,hw2⟩:∃ w2,w1.alloc (.cells #[.int .i64 0,.int .i64 n] 45) = w2:=⟨_,rfl⟩
  obtain ⟨w3,hw3⟩:∃ w3,w2.alloc (.cells #[.slice none 0 0,.bool false] 209) = w3:=⟨_,rfl⟩
  have i2:Blk.Is w2 w1.heap.size 45 #[.int .i64 0,.int .i64 n]:=by rw [← hw2]; exact Blk.Is.new w1 45 #[.int .i64 0,.int .i64 n]
  have hb12:Below w1.heap.size w1 w2:=by rw [← hw2]; exact (Below.refl _ _).alloc (Nat.le_refl _) _
  have hb23:Below w2.heap.size w2 w3:=by rw [← hw3]; exact (Below.refl _ _).alloc (Nat.le_refl _) _
  have hb13:Below w1.heap.size w1 w3:=hb12.trans (hb23.mono hb12.size)
  have c20:w2.cell? ⟨w1.heap.size,0,none⟩ = some (.int .i64 0):=i2.at rfl
  obtain ⟨p,hp⟩:∃ p,w2.heap.size = p:=⟨_,rfl⟩
  have i3:Blk.Is w3 p 209 #[.slice none 0 0,.bool false]:=by rw [← hw3,← hp]; exact Blk.Is.new w2 209 #[.slice none 0 0,.bool false]
  have hp3:w3.heap.size = p + 1:=by rw [← hw3,← hp]; simp
  have hpw:w.heap.size + 1 ≤ p:=by have:=hb12.size; omega
  have hrd:RdAt w3 p p start:=⟨_,i3,mem_start w3 p (by omega)⟩
  have hb3:Below w.heap.size w w3:=HB1.out.trans (hb13.mono HB1.out.size)
  have hia3:Blk.Is w3 w.heap.size 45 #[.int .i64 0,.int .i64 0]:=(Blk.Chg.ofBelow' (S:=fun _=>False) hb13).is ia1 (by simp)
  have htx3:=HTX.out
  have HB13:=Lib.hid hb13
  have HP1:=Lib.hid (show w1.heap.size ≤ p by have:=hb12.size; omega)
  have hls:∀ i,i < ls.length → Txt.E (ls.getD i ByteArray.empty) = 0:=by
   have hlr:=HLR.out
   unfold Txt.LR at hlr
   split at hlr
   ·exact absurd hlr.2.1 (by decide)
   ·rcases hlr with ⟨_,_,_,h⟩ | ⟨_,h,_⟩
    ·exact h
    ·exact absurd rfl h
  have HRD:=Lib.hid hrd
  have HB3:=Lib.hid hb3
  have HIA3:=Lib.hid hia3
  have HLS:=Lib.hid hls
  have HPW:=Lib.hid hpw
  have HP3:=Lib.hid hp3
  obtain ⟨_,av,capv,rfl,hcv,hread⟩:=htx3
  have HREAD:=Lib.hid hread
  obtain ⟨L,hL⟩:∃ L,ls.length = L:=⟨_,rfl⟩
  have HL:=Lib.hid hL
  rw [hL] at hll hcv
  rw [hL]
  clear i2 hb12 hb23 hb13 i3 hrd hb3 hia3 hls hread hw1 ia1 HTX hL hpw hp3
  go_wp2_with fail
  clear c20 hw2 hw3 hp hne
  go_loopw [21] (fun i u=>∃ (k:Nat) (z:Zip),k ≤ L ∧ i = .int .i64 k ∧ Hid (run start 1 ((bytes ls).take k) = .ok z) ∧ Hid (RdAt u p p z) ∧ Hid (Fit k z) ∧ Hid (Below p w3 u)) (fun i _=>L - (intOf i).toNat)
  case atStart=>exact ⟨0,start,by omega,rfl,rfl,HRD.out,fit_start,Below.refl _ _⟩
  case round =>
   obtain ⟨k,z,hk,rfl,HRUN,HRDK,HFIT,HBK⟩:=hrel
   by_cases hlt:k < L
   ·obtain ⟨gb,off,rfl,hcells⟩:=HREAD.out (by rw [HL.out]; omega)
    have hck:=hcells k (by rw [HL.out]; exact hlt)
    have hbu:Below w1.heap.size w1 wr:=HB13.out.trans (HBK.out.mono HP1.out)
    rw [← hbu.cell (Txt.lt_cell hck)] at hck
    have hbw:Below w.heap.size w wr:=HB3.out.trans (HBK.out.mono (by have:=HPW.out; omega))
    obtain ⟨x,hx⟩:∃ x,ls.getD k ByteArray.empty = x:=⟨_,rfl⟩
    rw [hx] at hck
    have hE:=HLS.out k (by rw [HL.out]; exact hlt)
    rw [hx] at hE
    have hxs:x.size ≤ 1000:=by
     unfold Txt.E at hE
     split at hE
     ·cases hE
     ·omega
    have k0:(0:Int) ≤ k:=by omega
    have k1:(k:Int) < L:=by omega
    have hbx:(bytes ls).getD k [] = x.data.toList:=by
     unfold bytes
     have:k < ls.length:=by rw [HL.out]; exact hlt
     rw [← hx]
     simp [List.getD,this]
    have hkl:k < (bytes ls).length:=by unfold bytes; rw [List.length_map,HL.out]; exact hlt
    have hsn:=run_snoc hkl z HRUN.out
    rw [hbx] at hsn
    have hbd:=fun c=>@run_bad (bytes ls) k hkl z c HRUN.out
    rw [hbx] at hbd
    have ct:=take_any p p z x ((k:Int) + 1) wr (by omega) (HM.out.below hbw hml) (Txt.tabs_below HT.out hbw htl) HRDK.out (Nat.le_refl _) (by have:=HPW.out; omega) (fit_mono HFIT.out (by omega))
    have CT:=Lib.hid ct
    have HSN:=Lib.hid hsn
    have HBD:=Lib.hid hbd
    have HXS:=Lib.hid hxs
    clear hx hE hbx hkl hsn hbd ct hcells hxs hbw hbu
    go_wp2_with fail
    refine CT.out.mono ?_
    rintro e w5 ⟨b5,hh⟩
    have HB5:=Lib.hid (HBK.out.trans b5)
    clear b5
    rcases hh with ⟨c,ht,rfl⟩ | ⟨z',ht,rfl,hrd'⟩
    ·have hrun:=HBD.out c ht
     have hc0:c ≠ 0:=by
      rintro rfl
      exact take_ne ht
     have hcne:((c:Int) != 0) = true:=by simp; omega
     have hia5:Blk.Is w5 w.heap.size 45 #[.int .i64 0,.int .i64 0]:=(HB5.out.block _ (by have:=HPW.out; omega)).trans HIA3.out
     have r50:w5.cell? ⟨w.heap.size,0,none⟩ = some (.int .i64 0):=hia5.at rfl
     have r51:w5.cell? ⟨w.heap.size,1,none⟩ = some (.int .i64 0):=hia5.at rfl
     have f50:=hia5.free 0
     have f51:=hia5.free 1
     have HRUNX:=Lib.hid hrun
     have HIA5:=Lib.hid hia5
     clear ht hrun hia5 hck
     go_wp2_with fail
     have hF:Blk.Is ((w5.setCell ⟨w.heap.size,0,none⟩ (.int .i64 c)).setCell ⟨w.heap.size,1,none⟩ (.int .i64 ((k:Int) + 1))) w.heap.size 45 #[.int .i64 c,.int .i64 ((k:Int) + 1)]:=Txt.two_set HIA5.out _ _
     have hBF:Below w.heap.size w ((w5.setCell ⟨w.heap.size,0,none⟩ (.int .i64 c)).setCell ⟨w.heap.size,1,none⟩ (.int .i64 ((k:Int) + 1))) :=
      (((HB3.out.trans (HB5.out.mono (by have:=HPW.out; omega)))).setCell (p:=⟨w.heap.size,0,none⟩) (Nat.le_refl _) _).setCell (p:=⟨w.heap.size,1,none⟩) (Nat.le_refl _) _
     obtain ⟨V,hV⟩:∃ V,((w5.setCell ⟨w.heap.size,0,none⟩ (.int .i64 c)).setCell ⟨w.heap.size,1,none⟩ (.int .i64 ((k:Int) + 1))) = V:=⟨_,rfl⟩
     rw [hV] at hF hBF ⊢
     have j0:V.cell? ⟨w.heap.size,0,none⟩ = some (.int .i64 c):=hF.at rfl
     have j1:V.cell? ⟨w.heap.size,1,none⟩ = some (.int .i64 ((k:Int) + 1)):=hF.at rfl
     clear r50 r51 f50 f51 hV
     refine bodyPost_ret (by simp [results,Tryz.results130,go_sem,j0,j1]; try rfl) rfl ?_
     refine ⟨_,[],c,k + 1,rfl,⟨ls,0,n,HLR.out,.inr ⟨rfl,?_⟩⟩,⟨by simp,fun s hs=>by cases hs⟩,Stzs.none _,hBF⟩
     unfold parse
     rw [HRUNX.out]
    ·have hrun:=HSN.out
     rw [ht] at hrun
     have HRUN2:=Lib.hid hrun
     have HRD2:=Lib.hid hrd'
     have HFIT2:=Lib.hid (fit_take HFIT.out (by rw [Txt.len_list]; have:=HXS.out; omega) ht)
     clear ht hrun hrd' hck
     go_wp2_with fail
     refine ⟨⟨k + 1,z',by omega,by go_num,HRUN2,HRD2,HFIT2,HB5⟩,?_⟩
     simp [intOf]; omega
   ·obtain rfl:k = L:=by omega
    obtain ⟨sv,hi,hm0⟩:=HRDK.out
    have hmc:=MemZ.close hm0
    have hcn:z.close.cur = none:=by
     obtain ⟨d,q⟩:=z
     cases q <;> rfl
    have hmr:Mem wr p sv z.all none:=by
     have:Mem wr p sv z.close.done (curM z.close):=hmc
     unfold curM at this
     rw [hcn] at this
     exact this
    obtain ⟨asv,csv,nsv,rfl⟩:∃ a c m,sv = .slice a m c:=by
     obtain ⟨_,_,_,_,_,_,hown,_⟩:=hmr
     obtain ⟨a,c,e,_⟩:=own_shape hown
     exact ⟨a,c,_,e⟩
    have c0:wr.cell? ⟨p,0,none⟩ = some (.slice asv nsv csv):=hi.at rfl
    have hia5:Blk.Is wr w.heap.size 45 #[.int .i64 0,.int .i64 0]:=(HBK.out.block _ (by have:=HPW.out; omega)).trans HIA3.out
    have r50:wr.cell? ⟨w.heap.size,0,none⟩ = some (.int .i64 0):=hia5.at rfl
    have r51:wr.cell? ⟨w.heap.size,1,none⟩ = some (.int .i64 0):=hia5.at rfl
    have f50:=hia5.free 0
    have f51:=hia5.free 1
    have hfc:=fit_close HFIT.out
    have HFC:=Lib.hid hfc
    have HCN:=Lib.hid hcn
    have HMR:=Lib.hid hmr
    have HIA5:=Lib.hid hia5
    clear hi hm0 hmc hmr hia5 hfc hcn
    go_wp2_with fail
    have hF:Blk.Is ((wr.setCell ⟨w.heap.size,0,none⟩ (.int .i64 0)).setCell ⟨w.heap.size,1,none⟩ (.int .i64 0)) w.heap.size 45 #[.int .i64 0,.int .i64 0]:=Txt.two_set HIA5.out _ _
    have hBF:Below w.heap.size w ((wr.setCell ⟨w.heap.size,0,none⟩ (.int .i64 0)).setCell ⟨w.heap.size,1,none⟩ (.int .i64 0)) :=
     (((HB3.out.trans (HBK.out.mono (by have:=HPW.out; omega)))).setCell (p:=⟨w.heap.size,0,none⟩) (Nat.le_refl _) _).setCell (p:=⟨w.heap.size,1,none⟩) (Nat.le_refl _) _
    have hMF:Mem ((wr.setCell ⟨w.heap.size,0,none⟩ (.int .i64 0)).setCell ⟨w.heap.size,1,none⟩ (.int .i64 0)) p (.slice asv nsv csv) z.all none :=
     HMR.out.chg (S':=fun k=>k = w.heap.size) (Blk.Chg.setAt (S:=fun k=>k = w.heap.size) (b:=w.heap.size) (Blk.Chg.setAt (S:=fun k=>k = w.heap.size) (b:=w.heap.size) (Blk.Chg.refl _ wr) rfl) rfl) fun e _ C sz v m zs hv hC k hk hk'=>by
      have:=own_lt hv hk
      have:=HPW.out
      omega
    obtain ⟨V,hV⟩:∃ V,((wr.setCell ⟨w.heap.size,0,none⟩ (.int .i64 0)).setCell ⟨w.heap.size,1,none⟩ (.int .i64 0)) = V:=⟨_,rfl⟩
    rw [hV] at hF hBF hMF ⊢
    have j0:V.cell? ⟨w.heap.size,0,none⟩ = some (.int .i64 0):=hF.at rfl
    have j1:V.cell? ⟨w.heap.size,1,none⟩ = some (.int .i64 0):=hF.at rfl
    have HMF:=Lib.hid hMF
    clear r50 r51 f50 f51 hV c0 hMF
    refine bodyPost_ret (by simp [results,Tryz.results130,go_sem,j0,j1]; try rfl) rfl ?_
    have hfm:Fit 70000 z.close:=fit_mono HFC.out (by omega)
    refine ⟨_,z.all,0,0,rfl,⟨ls,0,n,HLR.out,.inr ⟨rfl,?_⟩⟩,⟨hfm.1,hfm.2.1⟩,HMF.out.read (m:=70000) (by decide) (fit_bnd hfm HCN.out (by omega)),hBF⟩
    have hr:=HRUN.out
    rw [List.take_of_length_le (by unfold bytes; rw [List.length_map,HL.out]; exact Nat.le_refl _)] at hr
    unfold parse
    rw [hr]
 ·have hne:((er:Int) != 0) = true:=by simp; omega
  obtain ⟨w2,hw2⟩:∃ w2,w1.alloc (.cells #[.int .i64 er,.int .i64 n] 45) = w2:=⟨_,rfl⟩
  have i2:Blk.Is w2 w1.heap.size 45 #[.int .i64 er,.int .i64 n]:=by rw [← hw2]; exact Blk.Is.new w1 45 #[.int .i64 er,.int .i64 n]
  have ia2:Blk.Is w2 w.heap.size 45 #[.int .i64 0,.int .i64 0]:=by rw [← hw2]; exact ia1.alloc _
  have hb2:Below w.heap.size w w2:=by rw [← hw2]; exact HB1.out.alloc HB1.out.size _
  have c20:w2.cell? ⟨w1.heap.size,0,none⟩ = some (.int .i64 er):=i2.at rfl
  have c21:w2.cell? ⟨w1.heap.size,1,none⟩ = some (.int .i64 n):=i2.at rfl
  have r20:w2.cell? ⟨w.heap.size,0,none⟩ = some (.int .i64 0):=ia2.at rfl
  have r21:w2.cell? ⟨w.heap.size,1,none⟩ = some (.int .i64 0):=ia2.at rfl
  have f20:=ia2.free 0
  have f21:=ia2.free 1
  have HI2:=Lib.hid i2
  have HIA2:=Lib.hid ia2
  have HB2:=Lib.hid hb2
  clear i2 ia2 hb2 ia1 HIA HB1 hw1
  go_wp2_with fail
  go_region
  go_wp2_with fail
  have hF:Blk.Is ((w2.setCell ⟨w.heap.size,0,none⟩ (.int .i64 er)).setCell ⟨w.heap.size,1,none⟩ (.int .i64 n)).drew w.heap.size 45 #[.int .i64 er,.int .i64 n]:=Txt.two_set HIA2.out _ _
  have hBF:Below w.heap.size w ((w2.setCell ⟨w.heap.size,0,none⟩ (.int .i64 er)).setCell ⟨w.heap.size,1,none⟩ (.int .i64 n)).drew :=
   ((HB2.out.setCell (p:=⟨w.heap.size,0,none⟩) (Nat.le_refl _) _).setCell (p:=⟨w.heap.size,1,none⟩) (Nat.le_refl _) _).drew
  obtain ⟨V,hV⟩:∃ V,((w2.setCell ⟨w.heap.size,0,none⟩ (.int .i64 er)).setCell ⟨w.heap.size,1,none⟩ (.int .i64 n)).drew = V:=⟨_,rfl⟩
  rw [hV] at hF hBF ⊢
  have j0:V.cell? ⟨w.heap.size,0,none⟩ = some (.int .i64 er):=hF.at rfl
  have j1:V.cell? ⟨w.heap.size,1,none⟩ = some (.int .i64 n):=hF.at rfl
  clear c20 c21 r20 r21 f20 f21 hV hw2
  refine bodyPost_ret (by simp [results,Tryz.results130,go_sem,j0,j1]; try rfl) rfl ?_
  exact ⟨_,[],er,n,rfl,⟨ls,er,n,HLR.out,.inl ⟨he,rfl,rfl,rfl⟩⟩,⟨by simp,fun s hs=>by cases hs⟩,Stzs.none _,hBF⟩
end Stz
end Go.Proofs.YthmpepnikmdjpaaGreatDoor
namespace Go.Proofs.YthmpepnikmdjpaaGreatDoor
open Go.RowKit
set_option linter.unusedSimpArgs false
set_option linter.unusedVariables false
namespace Stz
open Txt (trimL)
def partsL (ls:List Bs):List Bs:=(ls.map trimL).filter fun x=>!x.isEmpty
def foldL (ls:List Bs):Bs:=Lib.join (partsL ls) [32]
theorem parts_snoc (ls:List Bs) (x:Bs):partsL (ls ++ [x]) = if trimL x = [] then partsL ls else partsL ls ++ [trimL x]:=by
 unfold partsL
 rw [List.map_append,List.filter_append]
 cases h:trimL x with
 | nil=>simp [h]
 | cons c r=>simp [h]
theorem parts_len (ls:List Bs):(partsL ls).length ≤ ls.length:=by
 unfold partsL
 have:=List.length_filter_le (fun x:Bs=>!x.isEmpty) (ls.map trimL)
 simpa using this
theorem take_one {ls:List Bs} {k:Nat} (h:k < ls.length):ls.take (k + 1) = ls.take k ++ [ls.getD k []]:=by
 rw [List.take_succ_eq_append_getElem h]
 simp [List.getD,List.getElem?_eq_getElem h]
theorem map_getD (ls:List Bs) {k:Nat} (h:k < ls.length):(ls.map S).getD k ByteArray.empty = S (ls.getD k []):=by
 simp [List.getD,List.getElem?_eq_getElem h]
theorem neq_empty (t:ByteArray):(!t.toList.isEmpty) = !decide (t.data.toList = []):=by
 rw [Lib.toList_data]
 cases t.data.toList <;> rfl
set_option maxRecDepth 100000 in
set_option maxHeartbeats 4000000 in
theorem join_none (w:World):Calls Tryz.prog 151 #[.slice none 0 0,.string ⟨#[32]⟩] w fun e w'=>e = .returned (.string (S [])) ∧ w' = w:=by
 go_enter Tryz.func151,Tryz.ntmps151
 go_wp2_with fail
 go_ret
 exact ⟨rfl,rfl⟩
theorem join_any (B:Nat) (v:Value) (ps:List Bs) (w:World) (h:w.ownsRow B 9 1 v ps.length ((ps.map S).map Value.string)) (hn:ps.length ≤ 1000000) (hl:(Lib.join ps [32]).length ≤ 140737488355328) :
  Calls Tryz.prog 151 #[v,.string ⟨#[32]⟩] w fun e w'=>e = .returned (.string (S (Lib.join ps [32]))) ∧ Below w.heap.size w w':=by
 by_cases h0:ps.length = 0
 ·obtain rfl:ps = []:=List.length_eq_zero_iff.1 h0
  rcases h.2 with ⟨rfl,_⟩ | ⟨g,cap,cur,rfl,hg,hh,hc,hm,hs,ht⟩
  ·exact (join_none w).mono fun e w' hh=>⟨hh.1,by rw [hh.2]; exact Below.refl _ _⟩
  ·have:=Tryz.strings_Join g 0 cap [] ⟨#[32]⟩ w (fun j x hj=>by cases hj) (Array.getElem?_eq_some_iff.1 hh).1 (by simp) (by simp) (by simp [Lib.join])
   exact this
 ·obtain ⟨g,cap,rfl,hc⟩:=own_slice h (by omega)
  have hcell:∀ (j:Nat) x,(ps.map S)[j]? = some x → w.cell? ⟨g,0 + j,none⟩ = some (.string x):=fun j x hj=>by
   rw [Nat.zero_add]
   exact own_cell h (by rw [List.getElem?_map,hj]; rfl)
  have hlt:=(own_lt h (k:=g) rfl).2
  have hmap:(ps.map S).map (fun t:ByteArray=>t.data.toList) = ps:=by simp [List.map_map,Function.comp_def,S_data]
  have:=Tryz.strings_Join g 0 cap (ps.map S) ⟨#[32]⟩ w hcell hlt (by rw [List.length_map]; omega) (by rw [List.length_map]; exact hc) (by rw [hmap]; exact hl)
  rw [hmap,List.length_map] at this
  exact this
set_option maxRecDepth 100000 in
set_option maxHeartbeats 4000000 in
theorem fold_any (v:Value) (ls:List Bs) (w:World) (h:Txt.Texts w v (ls.map S)) (hn:ls.length ≤ 1000000) (hs:∀ x ∈ ls,x.length ≤ 9223372036854775807) (hl:(foldL ls).length ≤ 140737488355328) (hT:Lib.Utf8Tabs 3 4 w) :
  Calls Tryz.prog 100 #[v] w fun e w'=>e = .returned (.string (S (foldL ls))) ∧ Below w.heap.size w w':=by
 obtain ⟨_,a,cap,rfl,hcap,hread⟩:=h
 have HR:=Lib.hid hread
 have HS:=Lib.hid hs
 have HLL:=Lib.hid hl
 have HTT:=Lib.hid hT
 have htl:=Lib.hid (Txt.tabs_lt hT)
 obtain ⟨N,hN⟩:∃ N,ls.length = N:=⟨_,rfl⟩
 have HN:=Lib.hid hN
 rw [List.length_map] at hcap ⊢
 rw [hN] at hn hcap
 rw [hN]
 clear hread hs hl hT hN
 go_enter Tryz.func100,Tryz.ntmps100
 go_wp2_with fail
 go_loopw [3,9] (fun s3 i u=>∃ k:Nat,k ≤ N ∧ i = .int .i64 k ∧ Hid (u.ownsRow w.heap.size 9 1 s3 (partsL (ls.take k)).length (((partsL (ls.take k)).map S).map Value.string)) ∧ Hid (Below w.heap.size w u)) (fun _ i _=>N - (intOf i).toNat)
 case atStart=>exact ⟨0,by omega,rfl,World.ownsRow_nil w _ _ 1,Below.refl _ _⟩
 case round =>
  obtain ⟨k,hk,rfl,HOWN,HBK⟩:=hrel
  obtain ⟨oa,ocap,eo,_⟩:=own_shape HOWN.out
  obtain ⟨m,hm⟩:∃ m,(partsL (ls.take k)).length = m:=⟨_,rfl⟩
  rw [hm] at eo
  subst eo
  have hml:m ≤ k:=by
   rw [← hm]
   exact Nat.le_trans (parts_len _) (by rw [List.length_take]; omega)
  have HM:=Lib.hid hm
  clear hm
  by_cases hlt:k < N
  ·obtain ⟨g,off,rfl,hat⟩:=HR.out (by rw [List.length_map,HN.out]; omega)
   have hkl:k < ls.length:=by rw [HN.out]; exact hlt
   have hc:=hat k (by rw [List.length_map]; exact hkl)
   rw [map_getD ls hkl] at hc
   obtain ⟨x,hx⟩:∃ x,ls.getD k [] = x:=⟨_,rfl⟩
   have hxl:x.length ≤ 9223372036854775807:=by
    rw [← hx]
    exact HS.out _ (by simp [List.getD,List.getElem?_eq_getElem hkl])
   have htk:=take_one hkl
   rw [hx] at hc htk
   rw [← HBK.out.cell (Txt.lt_cell hc)] at hc
   have k0:(0:Int) ≤ k:=by omega
   have k1:(k:Int) < N:=by omega
   have ct:=Txt.trim_any (S x) wr (by rw [S_size]; exact hxl) (Txt.tabs_below HTT.out HBK.out htl.out)
   rw [S_data] at ct
   have CT:=Lib.hid ct
   have HTK:=Lib.hid htk
   have hps:=parts_snoc (ls.take k) x
   rw [← htk] at hps
   have HPS:=Lib.hid hps
   clear hat hx ct htk hps hkl
   go_wp2_with fail
   refine CT.out.mono ?_
   rintro e w2 ⟨t,rfl,ht,b2⟩
   have HB2:=Lib.hid (HBK.out.trans (b2.mono HBK.out.size))
   have HO2:=Lib.hid (Own.owns_below HOWN.out b2)
   have hne:=neq_empty t
   rw [ht] at hne
   have HT2:=Lib.hid (S_of ht)
   clear ht b2
   by_cases hem:trimL x = []
   ·rw [decide_eq_true hem] at hne
    have hps:=HPS.out
    rw [if_pos hem] at hps
    have hown2:=HO2.out
    rw [← hps] at hown2
    have HOWN2:=Lib.hid hown2
    rw [← hps] at HM
    have hmm:=HM.out
    rw [hmm] at HOWN2
    have HMM:=Lib.hid hmm
    clear hem hps hown2 hmm
    go_wp2_with fail
    refine ⟨⟨k + 1,by omega,by go_num,by rw [HMM.out]; exact HOWN2,HB2⟩,by simp [intOf]; omega⟩
   ·rw [decide_eq_false hem] at hne
    have hps:=HPS.out
    rw [if_neg hem] at hps
    have HPS2:=Lib.hid hps
    obtain ⟨w3,hw3⟩:∃ w3,w2.alloc (.cells #[.string t] 9) = w3:=⟨_,rfl⟩
    have hb3:Below w2.heap.size w2 w3:=by rw [← hw3]; exact (Below.refl _ _).alloc (Nat.le_refl _) _
    have hcell:w3.cell? ⟨w2.heap.size,0,none⟩ = some (.string t):=by rw [← hw3]; exact (Blk.Is.new w2 9 #[.string t]).at rfl
    have ho3:=Own.owns_below HO2.out hb3
    have HO3:=Lib.hid ho3
    have HCELL:=Lib.hid hcell
    have HB3:=Lib.hid (HB2.out.trans (hb3.mono HB2.out.size))
    have HW3:=Lib.hid hw3
    clear hem hps hw3 hb3 hcell ho3
    go_wp2_with (at_builtin; rw [HW3.out]; refine Txt.append_text rfl (.tmp 17) (.tmp 19) rfl w.heap.size (.slice oa m ocap) ((partsL (ls.take k)).map S) rfl (by have:=HO3.out; rw [List.length_map]; rw [HM.out] at this ⊢; exact this) ⟨w2.heap.size,0,none⟩ 1 rfl t HCELL.out (by rw [List.length_map,HM.out]; omega) HB3.out.size ?_; intro v' w4 h4 h5; simp only [List.length_append,List.length_map,List.length_singleton] at h4; rw [HM.out] at h4; obtain ⟨a4,c4,rfl,_⟩:=own_shape h4; have hb4:=Own.below_grown HB3.out (by have:=HO3.out; rw [HM.out] at this; exact this) h5 HB3.out.size; have H4:=Lib.hid h4; have HB4:=Lib.hid hb4; clear h4 h5 hb4)
    refine ⟨⟨k + 1,by omega,by go_num,?_,HB4⟩,by simp [intOf]; omega⟩
    have e1:(partsL (ls.take (k + 1))).length = m + 1:=by rw [HPS2.out,List.length_append,HM.out]; rfl
    have e2:((partsL (ls.take (k + 1))).map S).map Value.string = ((partsL (ls.take k)).map S ++ [t]).map Value.string:=by rw [HPS2.out,HT2.out]; simp
    rw [e1,e2]
    exact H4
  ·obtain rfl:k = N:=by omega
   have hown:=HOWN.out
   rw [List.take_of_length_le (by rw [HN.out]; exact Nat.le_refl _)] at hown
   have hm2:=HM.out
   rw [List.take_of_length_le (by rw [HN.out]; exact Nat.le_refl _)] at hm2
   have cj:=join_any w.heap.size (.slice oa m ocap) (partsL ls) wr hown (by rw [hm2]; omega) HLL.out
   have CJ:=Lib.hid cj
   clear hown hm2 cj
   go_wp2_with fail
   refine CJ.out.mono ?_
   rintro e w9 ⟨rfl,b9⟩
   have HB9:=Lib.hid (HBK.out.trans (b9.mono HBK.out.size))
   clear b9
   go_wp2_with fail
   go_ret
   exact ⟨rfl,HB9.out⟩
def GetR (fs:List Fld) (nm:Bs) (t:Bs) (ok:Bool):Prop :=
 (ok = false ∧ t = [] ∧ ∀ i,i < fs.length → sameB (fs.getD i ([],[])).1 nm = false) ∨
 ∃ i,i < fs.length ∧ ok = true ∧ t = foldL (fs.getD i ([],[])).2 ∧ sameB (fs.getD i ([],[])).1 nm = true ∧ ∀ j,j < i → sameB (fs.getD j ([],[])).1 nm = false
theorem GetR.uniq {fs:List Fld} {nm t t':Bs} {ok ok':Bool} (h:GetR fs nm t ok) (h':GetR fs nm t' ok'):t = t' ∧ ok = ok':=by
 rcases h with ⟨rfl,rfl,h1⟩ | ⟨i,h1,rfl,rfl,h2,h3⟩
 ·rcases h' with ⟨rfl,rfl,_⟩ | ⟨j,k1,_,_,k2,_⟩
  ·exact ⟨rfl,rfl⟩
  ·rw [h1 j k1] at k2; cases k2
 ·rcases h' with ⟨_,_,k1⟩ | ⟨j,k1,rfl,rfl,k2,k3⟩
  ·rw [k1 i h1] at h2; cases h2
  ·have:i = j:=by
    rcases Nat.lt_trichotomy i j with hlt | he | hlt
    ·have:=k3 i hlt; rw [h2] at this; cases this
    ·exact he
    ·have:=h3 j hlt; rw [k2] at this; cases this
   subst this
   exact ⟨rfl,rfl⟩
end Stz
end Go.Proofs.YthmpepnikmdjpaaGreatDoor

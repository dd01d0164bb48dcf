/-
find: the place of the first field of a name. The reader: a further line of a field. Lines, by lists of bytes; the library's Split at a line feed; what is told of a text's lines. Rows of bytes: what a slice of bytes reads as; rows of the call's own; what an append of them leaves.
-/
import Derived.Test.YthmpepnikmdjpaaGreatDoorCStzOps
import Derived.Test.YthmpepnikmdjpaaGreatDoorCValSort
import Derived.IntWalk
import Derived.Test.YthmpepnikmdjpaaGreatDoorCWordsK
import Derived.Lib.Split
import Derived.Test.YthmpepnikmdjpaaGreatDoorCVerDef
import Derived.Test.YthmpepnikmdjpaaGreatDoorProg
import Derived.OpenShut
namespace Go.Proofs.YthmpepnikmdjpaaGreatDoor
open Go.RowKit
set_option linter.unusedSimpArgs false
set_option linter.unusedVariables false
namespace Stz
def Found (fs:List Fld) (nm:Bs) (r:Int):Prop :=
 (r = -1 ∧ ∀ i,i < fs.length → sameB (fs.getD i ([],[])).1 nm = false) ∨ ∃ i:Nat,i < fs.length ∧ r = i ∧ sameB (fs.getD i ([],[])).1 nm = true ∧ ∀ j,j < i → sameB (fs.getD j ([],[])).1 nm = false
theorem sameS_S (a c:Bs):sameS (S a) (S c) = sameB a c:=by unfold sameS; rw [S_data,S_data]
set_option maxRecDepth 100000 in
set_option maxHeartbeats 1000000 in
theorem findFn_any (nm:Bs) (lv:Value) (k:Nat) (t:Bs) (w:World) (hn:nm.length ≤ 9223372036854775807) (hc:w.cell? ⟨k,0,none⟩ = some (.string (S t))) :
  Calls Tryz.prog 291 #[.agg #[.string (S nm),lv],.pointer (some ⟨k,0,none⟩)] w fun e w'=>e = .returned (.bool (sameB nm t)) ∧ Below w.heap.size w w':=by
 have hk:=Txt.lt_cell hc
 have cs:=fun w=>same_any (S nm) (S t) w (by rw [S_size]; exact hn)
 simp only [sameS_S] at cs
 have CS:=Lib.hid cs
 clear cs
 generalize sameB nm t = R at *
 have hb:Below w.heap.size w (w.alloc (.cells #[.string (S nm),lv] 43)):=(Below.refl _ _).alloc (Nat.le_refl _) _
 have HB:=Lib.hid hb
 clear hb
 go_enter Tryz.func291,Tryz.ntmps291
 go_wp2_with fail
 refine (CS.out _).mono ?_
 rintro e w2 ⟨rfl,n,rfl⟩
 go_wp2_with fail
 go_ret
 exact ⟨rfl,HB.out.trans ((Txt.drewN_below _ n).mono HB.out.size)⟩
set_option maxRecDepth 100000 in
set_option maxHeartbeats 2000000 in
theorem find_any (v:Value) (fs:List Fld) (nm:Bs) (w:World) (hF:Flds w v fs) (hn:∀ f ∈ fs,f.1.length ≤ 9223372036854775807) :
  Calls Tryz.prog 261 #[v,.string (S nm)] w fun e w'=>∃ r,e = .returned (.int .i64 r) ∧ Found fs nm r ∧ Below w.heap.size w w':=by
 obtain ⟨h0,a,cap,rfl,hcap,hread⟩:=id hF
 have HF:=Lib.hid hF
 have HN:=Lib.hid hn
 have HR:=Lib.hid hread
 clear hF hn hread
 obtain ⟨N,hN⟩:∃ N,fs.length = N:=⟨_,rfl⟩
 have HNN:=Lib.hid hN
 rw [hN] at h0 hcap
 rw [hN]
 clear hN
 have hb0:Below w.heap.size w (w.alloc (.cells #[.string (S nm)] 9)):=(Below.refl _ _).alloc (Nat.le_refl _) _
 have HB0:=Lib.hid hb0
 clear hb0
 go_enter Tryz.func261,Tryz.ntmps261
 go_wp2_with go_in
 obtain ⟨W0,hW0⟩:∃ W0,w.alloc (.cells #[.string (S nm)] 9) = W0:=⟨_,rfl⟩
 have hbox:W0.cell? ⟨w.heap.size,0,none⟩ = some (.string (S nm)):=by rw [← hW0]; exact (Blk.Is.new w 9 #[.string (S nm)]).at rfl
 have hwz:W0.heap.size = w.heap.size + 1:=by rw [← hW0]; simp
 rw [hW0] at HB0 ⊢
 obtain ⟨z,hz⟩:∃ z,w.heap.size = z:=⟨_,rfl⟩
 have HZ:=Lib.hid hz
 have HWZ:=Lib.hid hwz
 rw [hz] at hbox HB0 ⊢
 clear hz hW0 hwz
 have HBOX:=Lib.hid hbox
 clear hbox
 go_loopw [8] (fun i u=>∃ k:Nat,k ≤ N ∧ i = .int .i64 k ∧ Hid (∀ j,j < k → sameB (fs.getD j ([],[])).1 nm = false) ∧ Hid (Below W0.heap.size W0 u)) (fun i _=>N - (intOf i).toNat)
 case atStart=>exact ⟨0,by omega,rfl,(fun j hj=>absurd hj (by omega)),Below.refl _ _⟩
 case round =>
  obtain ⟨k,hk,rfl,HNO,HBU⟩:=hrel
  have hbox:wr.cell? ⟨z,0,none⟩ = some (.string (S nm)):=by
   rw [HBU.out.cell (p:=⟨z,0,none⟩) (by rw [HWZ.out,HZ.out]; show z < z + 1; omega)]; exact HBOX.out
  have hbw:Below w.heap.size w wr:=by
   have h1:=HB0.out
   rw [← HZ.out] at h1
   exact h1.trans (HBU.out.mono h1.size)
  by_cases hlt:k < N
  ·obtain ⟨g,off,rfl,hat⟩:=HR.out (by rw [HNN.out]; omega)
   obtain ⟨f1,u,f2,_⟩:=hat k (by rw [HNN.out]; exact hlt)
   have hfm:(fs.getD k ([],[])) ∈ fs:=by
    have:k < fs.length:=by rw [HNN.out]; exact hlt
    simp [List.getD,List.getElem?_eq_getElem this]
   have hfl:=HN.out _ hfm
   rw [← hbw.cell (Txt.lt_cell f1)] at f1
   rw [← hbw.cell (Txt.lt_cell f2)] at f2
   have k0:(0:Int) ≤ k:=by omega
   have k1:(k:Int) < N:=by omega
   rw [Nat.mul_comm 2 k] at f1 f2
   obtain ⟨X,hX⟩:∃ X,(fs.getD k ([],[])).1 = X:=⟨_,rfl⟩
   rw [hX] at f1 hfl
   have HX:=Lib.hid hX
   have HBW:=Lib.hid hbw
   clear hat hfm hX hbw
   have cf:=findFn_any X u z nm wr hfl hbox
   clear hbox
   cases hm:sameB X nm
   ·rw [hm] at cf
    have HM:=Lib.hid hm
    clear hm
    go_wp2_with fail
    refine cf.mono ?_
    rintro e w2 ⟨rfl,b2⟩
    have HB2:=Lib.hid (HBU.out.trans (b2.mono HBU.out.size))
    clear b2
    go_wp2_with fail
    refine ⟨⟨k + 1,by omega,by go_num,fun j hj=>?_,HB2⟩,by simp [intOf]; omega⟩
    by_cases e:j = k
    ·subst e; rw [HX.out]; exact HM.out
    ·exact HNO.out j (by omega)
   ·rw [hm] at cf
    have HM:=Lib.hid hm
    clear hm
    go_wp2_with fail
    refine cf.mono ?_
    rintro e w2 ⟨rfl,b2⟩
    have HB2:=Lib.hid (HBW.out.trans (b2.mono HBW.out.size))
    clear b2
    go_wp2_with fail
    go_ret
    exact ⟨_,rfl,.inr ⟨k,by rw [HNN.out]; exact hlt,rfl,by rw [HX.out]; exact HM.out,HNO.out⟩,HB2.out⟩
  ·obtain rfl:k = N:=by omega
   have HBW:=Lib.hid hbw
   clear hbox hbw
   go_wp2_with fail
   go_ret
   exact ⟨_,rfl,.inl ⟨rfl,by rw [HNN.out]; exact HNO.out⟩,HBW.out⟩
end Stz
end Go.Proofs.YthmpepnikmdjpaaGreatDoor
namespace Go.Proofs.YthmpepnikmdjpaaGreatDoor
open Go.RowKit
set_option linter.unusedSimpArgs false
set_option linter.unusedVariables false
namespace Reg
theorem From.done {P:Program} {Q:Exit → Act → World → Prop} {a:Act} {w:World} {l:List Oper} {n:Nat} (hn:decide (l.length ≤ n ∧ Region.ready .any l.toArray (upTo l.length n) = []) = true) (h:Q .normal a w):From P l Q n a w:=by
 obtain ⟨hn,hr⟩:=of_decide_eq_true hn
 unfold From
 rw [show l.length - n = 0 by omega]
 exact ⟨hr,h⟩
end Reg
namespace Stz
open Txt (b b_eq b_lt W wht trimL trimRight trimLeft)
def RdAt (w:World) (p B:Nat) (z:Zip):Prop:=∃ sv,Blk.Is w p 209 #[sv,.bool z.cur.isSome] ∧ MemZ w B sv z
set_option maxRecDepth 100000 in
set_option maxHeartbeats 4000000 in
theorem goOn_no (p B:Nat) (done:List Sz) (s:ByteArray) (w:World) (h:RdAt w p B ⟨done,none⟩) :
  Calls Tryz.prog 227 #[.pointer (some ⟨p,0,none⟩),.string s] w fun e w'=>e = .returned (.int .i64 3) ∧ w' = w:=by
 obtain ⟨sv,hi,_⟩:=h
 have c1:w.cell? ⟨p,1,none⟩ = some (.bool false):=hi.at rfl
 clear hi
 go_enter Tryz.func227,Tryz.ntmps227
 go_wp2_with fail
 go_ret
 exact ⟨rfl,rfl⟩
set_option maxRecDepth 100000 in
set_option maxHeartbeats 4000000 in
theorem goOn_any (p B:Nat) (done:List Sz) (n:Int) (fs:List Fld) (nm:Bs) (ls:List Bs) (s:ByteArray) (w:World) (h:RdAt w p B ⟨done,some (n,fs,(nm,ls))⟩) (hs:s.size ≤ 9223372036854775807) (hl:ls.length ≤ 70000) (hfl:fs.length ≤ 70000) (hdl:done.length ≤ 70000) :
  Calls Tryz.prog 227 #[.pointer (some ⟨p,0,none⟩),.string s] w fun e w'=>e = .returned (.int .i64 0) ∧ RdAt w' p B ⟨done,some (n,fs,(nm,ls ++ [further s.data.toList]))⟩ ∧ Below B w w':=by
 obtain ⟨sv,hi,hm⟩:=h
 have hm':Mem w B sv done (some (n,fs,some (nm,ls))):=hm
 obtain ⟨g,cap,gf,capf,C,u,rfl,d1,d2,hC1,hC2,hown,hput⟩:=hm'.goOn
 have c0:w.cell? ⟨p,0,none⟩ = some (.slice (some ⟨g,0,none⟩) (done.length + 1) cap):=hi.at rfl
 have c1:w.cell? ⟨p,1,none⟩ = some (.bool true):=hi.at rfl
 have H:=Lib.hid hm'
 have HI:=Lib.hid hi
 have HOWN:=Lib.hid hown
 have HPUT:=Lib.hid hput
 obtain ⟨D,hD⟩:∃ D,done.length = D:=⟨_,rfl⟩
 obtain ⟨F,hF⟩:∃ F,fs.length = F:=⟨_,rfl⟩
 have HD:=Lib.hid hD
 have HF:=Lib.hid hF
 rw [hD] at d1 c0 hdl
 rw [hF] at d1 d2 hfl
 rw [Nat.mul_comm 2 D] at d1
 rw [Nat.mul_comm 2 F] at d2
 have k4:(D:Int) < (D:Int) + 1:=by omega
 have k5:(F:Int) < (F:Int) + 1:=by omega
 have k0:(0:Int) ≤ D:=by omega
 have k1:(0:Int) ≤ F:=by omega
 have k2:(D:Int) ≤ 70000:=by omega
 have k3:(F:Int) ≤ 70000:=by omega
 have hw0:IntKind.i64.wrap (D:Int) = (D:Int):=IntWalk.i64_in _ (by omega)
 have hw1:IntKind.i64.wrap (F:Int) = (F:Int):=IntWalk.i64_in _ (by omega)
 have cf:=further_any s
 have CF:=Lib.hid cf
 clear hm hm' hown hput hD hF cf hi
 go_enter Tryz.func227,Tryz.ntmps227
 go_wp2_with fail
 go_quiet (fail)
 go_wp2_with fail
 obtain ⟨v1,hv1⟩:∃ v1,w.drewN nq = v1:=⟨_,rfl⟩
 have hb1:Below w.heap.size w v1:=by rw [← hv1]; exact Txt.drewN_below w nq
 have d2v:∀ x,Below w.heap.size w x → x.cell? ⟨gf,F * 2 + 1,none⟩ = some u:=fun x hx=>by rw [hx.cell (Txt.lt_cell d2)]; exact d2
 have D2:=Lib.hid d2v
 clear d2v
 rw [hv1]
 have HB1:=Lib.hid hb1
 clear hv1 hb1 c0 c1 d1 d2
 have hS:Below w.heap.size w v1.drew:=HB1.out.drew
 have HS:=Lib.hid hS
 clear hS
 refine Reg.wp_region_T 8 (fun x=>Below w.heap.size w x) (by kernel_rfl) ?_
 change Reg.anyT _ _ _ _ 8 _ 12 _ _ _
 refine Reg.T_pure 0 (.pointer (some ⟨gf,F * 2,none⟩)) rfl (by kernel_rfl) (fun _ _ _ h=>h) (.inl ⟨rfl,fun w _=>rfl⟩) HS.out ?_
 simp only [Act.put,List.getElem_toArray,List.getElem_cons_zero,List.getElem_cons_succ,List.setIfInBounds_toArray,List.set_cons_zero,List.set_cons_succ]
 refine Reg.T_pure 1 (.pointer (some ⟨gf,F * 2,none⟩)) rfl (by kernel_rfl) (fun _ _ _ h=>h) (.inl ⟨rfl,fun w _=>rfl⟩) HS.out ?_
 simp only [Act.put,List.getElem_toArray,List.getElem_cons_zero,List.getElem_cons_succ,List.setIfInBounds_toArray,List.set_cons_zero,List.set_cons_succ]
 refine Reg.T_pure 2 (.pointer (some ⟨gf,F * 2,none⟩)) rfl (by kernel_rfl) (fun _ _ _ h=>h) (.inl ⟨rfl,fun w _=>rfl⟩) HS.out ?_
 simp only [Act.put,List.getElem_toArray,List.getElem_cons_zero,List.getElem_cons_succ,List.setIfInBounds_toArray,List.set_cons_zero,List.set_cons_succ]
 refine Reg.T_pure 3 (.pointer (some ⟨gf,F * 2 + 1,none⟩)) rfl (by kernel_rfl) (fun _ _ _ h=>h) (.inl ⟨rfl,fun w _=>rfl⟩) HS.out ?_
 simp only [Act.put,List.getElem_toArray,List.getElem_cons_zero,List.getElem_cons_succ,List.setIfInBounds_toArray,List.set_cons_zero,List.set_cons_succ]
 refine Reg.T_load 4 u rfl (by kernel_rfl) (fun _ _ _ h=>h) (Reg.yields_load_one rfl 41 _ rfl gf (F * 2 + 1) rfl u (fun x hx=>D2.out x hx) Tryz.isAgg41) HS.out ?_
 simp only [Act.put,List.getElem_toArray,List.getElem_cons_zero,List.getElem_cons_succ,List.setIfInBounds_toArray,List.set_cons_zero,List.set_cons_succ]
 refine Reg.T_pure 5 (.string s) rfl (by kernel_rfl) (fun _ _ _ h=>h) (.inl ⟨rfl,fun w _=>rfl⟩) HS.out ?_
 simp only [Act.put,List.getElem_toArray,List.getElem_cons_zero,List.getElem_cons_succ,List.setIfInBounds_toArray,List.set_cons_zero,List.set_cons_succ]
 refine Reg.T_only 6 rfl (by kernel_rfl) ?_
 go_wp2_with fail
 refine (CF.out v1.drew hs).mono ?_
 rintro e w2 ⟨t,rfl,ht,b2⟩
 have hb2:=HS.out.trans (b2.mono HS.out.size)
 have HB2:=Lib.hid hb2
 have HT:=Lib.hid (S_of ht)
 clear ht b2 hb2
 go_wp2_with fail
 change _ ∧ _
 refine ⟨fun _=>HB2.out,?_⟩
 refine Reg.T_only 7 rfl (by kernel_rfl) ?_
 go_wp2_with fail
 change _ ∧ _
 refine ⟨fun _=>HB2.out.alloc HB2.out.size _,?_⟩
 refine Reg.T_only 8 rfl (by kernel_rfl) ?_
 obtain ⟨w3,hw3⟩:∃ w3,w2.alloc (.cells #[.string t] 9) = w3:=⟨_,rfl⟩
 have hcell:w3.cell? ⟨w2.heap.size,0,none⟩ = some (.string t):=by rw [← hw3]; exact (Blk.Is.new w2 9 #[.string t]).at rfl
 have hb3:Below w.heap.size w w3:=by rw [← hw3]; exact HB2.out.alloc HB2.out.size _
 have ho3:=Own.owns_below HOWN.out hb3
 rw [hw3]
 have HB3:=Lib.hid hb3
 have HO3:=Lib.hid ho3
 have HCELL:=Lib.hid hcell
 clear hw3 hcell hb3 ho3
 refine Txt.append_text rfl (.tmp 34) (.tmp 37) rfl C u (ls.map S) rfl (by rw [List.length_map]; exact HO3.out) ⟨w2.heap.size,0,none⟩ 1 rfl t HCELL.out (by rw [List.length_map]; omega) (by have:=HB3.out.size; omega) ?_
 intro v' w4 h4 h5
 obtain ⟨a4,c4,rfl,_⟩:=own_shape h4
 have hg:=HPUT.out w3 HB3.out w4 h5
 obtain ⟨⟨e1,e2⟩,e3⟩:=hg
 have e4:=e3 (further s.data.toList) _ (by
  have:=h4
  rw [List.length_append,List.length_map,List.map_append,HT.out] at this
  exact this)
 rw [HF.out,Nat.mul_comm 2 F] at e1 e2 e4
 have E4:=Lib.hid e4
 clear h4 h5 e3 e4
 change _ ∧ _
 refine ⟨fun hh=>absurd hh (by decide),?_⟩
 refine Reg.T_only 9 rfl (by kernel_rfl) ?_
 go_wp2_with fail
 change _ ∧ _
 refine ⟨fun hh=>absurd hh (by decide),?_⟩
 refine Reg.T_only 10 rfl (by kernel_rfl) ?_
 go_wp2_with fail
 change _ ∧ _
 refine ⟨fun hh=>absurd hh (by decide),?_⟩
 refine Reg.T_only 11 rfl (by kernel_rfl) ?_
 go_wp2_with fail
 change _ ∧ _
 refine ⟨fun hh=>absurd hh (by decide),?_⟩
 refine Reg.T_done (by kernel_rfl) ?_
 clear e1 e2
 go_wp2_with fail
 go_ret
 obtain ⟨m1,m2⟩:=E4.out
 refine ⟨rfl,⟨_,m2.kinds p 209 _ (by decide) (by decide) (by decide) ((Blk.Chg.ofBelow' (S:=fun _=>False) HB3.out).is HI.out (by simp)),m1⟩,?_⟩
 have hBw:B ≤ w.heap.size:=by omega
 exact (HB3.out.mono hBw).trans m2.below
end Stz
end Go.Proofs.YthmpepnikmdjpaaGreatDoor
namespace Go.Proofs.YthmpepnikmdjpaaGreatDoor
open Go.Lib
set_option linter.unusedSimpArgs false
set_option linter.unusedVariables false
namespace Txt
def put (c:UInt8):List (List UInt8) → List (List UInt8)
 | []=>[[c]]
 | x :: r=>(c :: x) :: r
def spl:List UInt8 → List (List UInt8)
 | []=>[[]]
 | c :: l=>if c = 10 then [] :: spl l else put c (spl l)
theorem spl_ne (l:List UInt8):spl l ≠ []:=by
 cases l with
 | nil=>simp [spl]
 | cons c l =>
  unfold spl
  split
  ·simp
  ·cases spl l <;> simp [put]
theorem spl_index:∀ L:List UInt8,(index L [10] = -1 ∧ spl L = [L]) ∨ ∃ i:Nat,index L [10] = (i:Int) ∧ i < L.length ∧ spl L = L.take i :: spl (L.drop (i + 1))
 | []=>.inl ⟨rfl,rfl⟩
 | c :: l=>by
  by_cases hc:c = 10
  ·subst hc
   exact .inr ⟨0,rfl,by simp,rfl⟩
  ·have e1:index (c :: l) [10] = if index l [10] == -1 then -1 else index l [10] + 1:=by
    show (if [10].isPrefixOf (c :: l) then _ else _) = _
    rw [if_neg]
    simp [List.isPrefixOf]
    exact fun h=>hc h.symm
   have e2:spl (c :: l) = put c (spl l):=by
    show (if c = 10 then _ else _) = _
    rw [if_neg hc]
   rw [e1,e2]
   rcases spl_index l with ⟨h1,h2⟩ | ⟨i,h1,h2,h3⟩
   ·left
    rw [h1,h2]
    exact ⟨rfl,rfl⟩
   ·right
    refine ⟨i + 1,?_,by simp; omega,?_⟩
    ·rw [h1,if_neg (by simp)]; omega
    ·rw [h3]; rfl
theorem split_spl:∀ (n:Nat) (L:List UInt8),L.length ≤ n → splitK [10] 0 (count L [10]) L = spl L ∧ (spl L).length = count L [10] + 1
 | 0,L,h=>by
  obtain rfl:L = []:=List.length_eq_zero_iff.1 (by omega)
  exact ⟨rfl,rfl⟩
 | n + 1,L,h=>by
  rcases spl_index L with ⟨h1,h2⟩ | ⟨i,h1,h2,h3⟩
  ·rw [count_miss h1,h2]
   exact ⟨rfl,rfl⟩
  ·have hc:=count_hit (sub:=[10]) (by simp) h1
   have hd:(L.drop (i + 1)).length ≤ n:=by rw [List.length_drop]; omega
   obtain ⟨k1,k2⟩:=split_spl n (L.drop (i + 1)) hd
   have hc':count L [10] = count (L.drop (i + 1)) [10] + 1:=by rw [hc]; show 1 + count (L.drop (i + 1)) [10] = _; omega
   rw [hc',h3]
   refine ⟨?_,by rw [List.length_cons,k2]⟩
   show (if index L [10] == -1 then [L] else L.take ((index L [10]).toNat + 0) :: splitK [10] 0 (count (L.drop (i + 1)) [10]) (L.drop ((index L [10]).toNat + 1))) = _
   rw [if_neg (by rw [h1]; simp),h1,Int.toNat_natCast,Nat.add_zero,k1]
theorem splitB_spl (s:ByteArray):(splitB ⟨#[10]⟩ 0 (countB s ⟨#[10]⟩) s).map (·.data.toList) = spl s.data.toList ∧ (splitB ⟨#[10]⟩ 0 (countB s ⟨#[10]⟩) s).length = countB s ⟨#[10]⟩ + 1:=by
 have h:=split_spl _ s.data.toList (Nat.le_refl _)
 have e:=splitB_data ⟨#[10]⟩ 0 (countB s ⟨#[10]⟩) s
 have e2:(splitB ⟨#[10]⟩ 0 (countB s ⟨#[10]⟩) s).map (·.data.toList) = spl s.data.toList:=e.trans h.1
 refine ⟨e2,?_⟩
 have:=congrArg List.length e2
 rw [List.length_map] at this
 rw [this]; exact h.2
def dl:List (List UInt8) → List (List UInt8)
 | []=>[]
 | [x]=>if x = [] then [] else [x]
 | x :: y :: r=>x :: dl (y :: r)
def linesL (l:List UInt8):List (List UInt8):=dl (spl l)
theorem dl_cons (x:List UInt8) {r:List (List UInt8)} (h:r ≠ []):dl (x :: r) = x :: dl r:=by
 cases r with
 | nil=>exact absurd rfl h
 | cons y r=>rfl
theorem dl_last:∀ (r:List (List UInt8)) (x:List UInt8),dl (r ++ [x]) = if x = [] then r else r ++ [x]
 | [],x=>by show (if x = [] then [] else [x]) = _; rfl
 | y :: r,x=>by
  rw [List.cons_append,dl_cons y (by simp),dl_last r x]
  split <;> rfl
def LinesOf (s:ByteArray) (ls:List ByteArray):Prop:=ls.map (·.data.toList) = linesL s.data.toList
theorem LinesOf.uniq {s:ByteArray} {ls ms:List ByteArray} (h:LinesOf s ls) (h':LinesOf s ms):ls = ms:=lists_inj (h.trans h'.symm)
def E (x:ByteArray):Nat:=if 1000 < x.size then 2 else if 0 ≤ good x then 3 else 0
def LRes (s:ByteArray) (ls:List ByteArray) (e n:Nat):Prop :=
 (e = 0 ∧ n = 0 ∧ LinesOf s ls ∧ ∀ i,i < ls.length → E (ls.getD i ByteArray.empty) = 0) ∨
 (ls = [] ∧ e ≠ 0 ∧ ∃ ms k,LinesOf s ms ∧ k < ms.length ∧ (∀ j,j < k → E (ms.getD j ByteArray.empty) = 0) ∧ E (ms.getD k ByteArray.empty) = e ∧ n = k + 1)
theorem LRes.uniq {s:ByteArray} {ls ls':List ByteArray} {e e' n n':Nat} (h:LRes s ls e n) (h':LRes s ls' e' n'):ls = ls' ∧ e = e' ∧ n = n':=by
 rcases h with ⟨rfl,rfl,h3,h4⟩ | ⟨rfl,h2,ms,k,h3,h4,h5,h6,rfl⟩
 ·rcases h' with ⟨rfl,rfl,k3,k4⟩ | ⟨rfl,k2,ms,k,k3,k4,k5,k6,rfl⟩
  ·exact ⟨h3.uniq k3,rfl,rfl⟩
  ·have:=h3.uniq k3
   subst this
   exact absurd ((h4 k k4).symm.trans k6) (fun e=>k2 e.symm)
 ·rcases h' with ⟨rfl,rfl,k3,k4⟩ | ⟨rfl,k2,ms',k',k3,k4,k5,k6,rfl⟩
  ·have:=h3.uniq k3
   subst this
   exact absurd ((k4 k h4).symm.trans h6) (fun e=>h2 e.symm)
  ·have:=h3.uniq k3
   subst this
   have hk:k = k':=by
    rcases Nat.lt_trichotomy k k' with h | h | h
    ·have:=k5 k h; omega
    ·exact h
    ·have:=h5 k' h; omega
   subst hk
   exact ⟨rfl,by omega,rfl⟩
end Txt
end Go.Proofs.YthmpepnikmdjpaaGreatDoor
namespace Go.Proofs.YthmpepnikmdjpaaGreatDoor
open Go.RowKit
set_option linter.unusedVariables false

def bcells (zs:List Int):List Value:=zs.map (Value.int .u8)
@[simp] theorem bcells_length (zs:List Int):(bcells zs).length = zs.length:=by simp [bcells]
theorem bcells_at (zs:List Int) (j:Nat) (h:j < zs.length):(bcells zs)[j]? = some (.int .u8 (zs.getD j 0)):=by simp [bcells,h]
def Byte (zs:List Int):Prop:=∀ z ∈ zs,0 ≤ z ∧ z < 256
theorem Byte.getD {zs:List Int} (h:Byte zs) (i:Nat):0 ≤ zs.getD i 0 ∧ zs.getD i 0 < 256:=by
 by_cases hi:i < zs.length
 ·exact h _ (by simp [hi])
 ·simp [List.getD,List.getElem?_eq_none (show zs.length ≤ i by omega)]
theorem Byte.take {zs:List Int} (h:Byte zs) (k:Nat):Byte (zs.take k):=fun z hz=>h z (List.mem_of_mem_take hz)
theorem Byte.drop {zs:List Int} (h:Byte zs) (k:Nat):Byte (zs.drop k):=fun z hz=>h z (List.mem_of_mem_drop hz)
theorem Byte.append {xs zs:List Int} (h:Byte xs) (k:Byte zs):Byte (xs ++ zs):=fun z hz=>(List.mem_append.1 hz).elim (h z) (k z)
theorem Byte.nil:Byte []:=by simp [Byte]

structure Row (w:World) (a:Option Addr) (len:Nat) (zs:List Int):Prop where
 count:zs.length = len
 short:len ≤ 9223372036854775807
 byt:Byte zs
 cells:0 < len → ∃ b off,a = some ⟨b,off,none⟩ ∧ b < w.heap.size ∧ ∀ j,j < len → w.cell? ⟨b,off + j,none⟩ = some (.int .u8 (zs.getD j 0))

theorem Row.keep {w w':World} {a len zs} (h:Row w a len zs) {S:Nat → Prop} (hb:Blk.Chg S w w') (hn:0 < len → ∀ b off,a = some ⟨b,off,none⟩ → ¬ S b):Row w' a len zs :=
 ⟨h.count,h.short,h.byt,fun hl=>by
  obtain ⟨b,off,ha,hlt,hc⟩:=h.cells hl
  exact ⟨b,off,ha,Nat.lt_of_lt_of_le hlt hb.size,fun j hj=>by rw [World.cell?_of_block (hb.block b hlt (hn hl b off ha))]; exact hc j hj⟩⟩
theorem Row.below {w w':World} {a len zs} (h:Row w a len zs) (hb:Below w.heap.size w w'):Row w' a len zs :=
 h.keep (S:=fun _=>False) (Blk.Chg.ofBelow' hb) (by simp)
theorem Row.nil (w:World):Row w none 0 []:=⟨rfl,by omega,by simp [Byte],by omega⟩
theorem Row.empty (w:World) (a:Option Addr):Row w a 0 []:=⟨rfl,by omega,by simp [Byte],by omega⟩
theorem Row.take {w:World} {a len zs} (h:Row w a len zs) (k:Nat) (hk:k ≤ len):Row w a k (zs.take k):=by
 have:=h.count
 refine ⟨by rw [List.length_take]; omega,by have:=h.short; omega,h.byt.take k,fun h0=>?_⟩
 obtain ⟨b,off,ha,hb,hc⟩:=h.cells (by omega)
 refine ⟨b,off,ha,hb,fun j hj=>?_⟩
 rw [hc j (by omega)]
 simp [hj]
def Mine (w:World) (base:Nat) (v:Value) (zs:List Int):Prop:=w.ownsRow base 5 1 v zs.length (bcells zs) ∧ Byte zs

theorem Mine.row {w base v zs} (h:Mine w base v zs):∃ a cap,v = .slice a zs.length cap ∧ zs.length ≤ cap ∧ Row w a zs.length zs:=by
 obtain ⟨ho,hb⟩:=h
 rcases id ho.2 with ⟨rfl,h0⟩ | ⟨g,cap,cur,rfl,hg,hh,hn,hcap,hsz,htake⟩
 ·have:zs = []:=List.eq_nil_of_length_eq_zero h0
  subst this
  exact ⟨none,0,rfl,Nat.le_refl _,Row.nil w⟩
 ·refine ⟨_,cap,rfl,hn,rfl,by unfold maxLen at hcap; omega,hb,fun h0=>⟨g,0,rfl,(show Blk.Is w g _ _ from hh).lt,fun j hj=>?_⟩⟩
  rw [Nat.zero_add,ho.cellAt j (by omega),bcells_at _ _ hj]
theorem Mine.rows {w base v zs} (h:Mine w base v zs):∃ n a cap,v = .slice a n cap ∧ n ≤ cap ∧ zs.length = n ∧ Row w a n zs:=by
 obtain ⟨a,cap,h1,h2,h3⟩:=h.row
 exact ⟨_,a,cap,h1,h2,rfl,h3⟩
theorem Mine.chg {w w' base v zs} {S:Nat → Prop} (h:Mine w base v zs) (hb:Blk.Chg S w w') (hn:∀ b,v.ownBlock = some b → ¬ S b):Mine w' base v zs:=⟨hb.owns h.1 hn,h.2⟩
theorem Mine.below {w w' base v zs} (h:Mine w base v zs) (hb:Below w.heap.size w w'):Mine w' base v zs:=h.chg (S:=fun _=>False) (Blk.Chg.ofBelow' hb) (by simp)
theorem Mine.mono {w base base' v zs} (h:Mine w base v zs) (hb:base' ≤ base):Mine w base' v zs:=by
 refine ⟨⟨h.1.1,?_⟩,h.2⟩
 rcases h.1.2 with h2 | ⟨g,cap,cur,hv,hg,r⟩
 ·exact Or.inl h2
 ·exact Or.inr ⟨g,cap,cur,hv,by omega,r⟩
theorem Mine.block {w base v zs} (h:Mine w base v zs) {b:Nat} (hb:v.ownBlock = some b):base ≤ b ∧ b < w.heap.size ∧ ∃ cur,Blk.Is w b 5 cur:=by
 rcases h.1.2 with ⟨rfl,_⟩ | ⟨g,cap,cur,rfl,hg,hh,_⟩
 ·simp [Value.ownBlock] at hb
 ·simp [Value.ownBlock] at hb
  subst hb
  exact ⟨hg,(show Blk.Is w g _ _ from hh).lt,cur,hh⟩

theorem Row.conv {w:World} {a len zs} (h:Row w a len zs) (cap:Nat):(convert 51 9 (.slice a len cap)).run Tryz.prog w = .ok (.string (strOfNums zs)) w:=by
 by_cases h0:0 < len
 ·obtain ⟨b,off,rfl,_,hcell⟩:=h.cells h0
  exact run_convert_bytes_arg w 51 5 Tryz.underlying51 Tryz.underlying5 b off len cap zs h.count hcell 9 Tryz.underlying9
 ·obtain rfl:len = 0:=by omega
  obtain rfl:zs = []:=List.eq_nil_of_length_eq_zero h.count
  cases a with
  | none=>simp [convert,run_underlying Tryz.underlying51,run_underlying Tryz.underlying5,run_underlying Tryz.underlying9,strOfNums,Conv.bytesToString]; rfl
  | some x =>
   have hl:=run_loadCells_list (P:=Tryz.prog) w x [] (by simp)
   simp only [List.length_nil] at hl
   simp [convert,run_underlying Tryz.underlying51,run_underlying Tryz.underlying5,run_underlying Tryz.underlying9,strOfNums,Conv.bytesToString,hl]; rfl

/-! ### what a law's frame hands to its walk -/
def IsRow (k:IntKind) (w:World) (a:Option Addr) (len cap:Nat) (zs:List Int):Prop :=
 (a = none ∧ len = 0 ∧ cap = 0 ∧ zs = []) ∨
 ∃ x,a = some x ∧ len ≤ cap ∧ cap ≤ maxLen ∧ zs.length = cap ∧ (∀ i,i < zs.length → w.cell? (x.add i) = some (.int k (zs.getD i 0))) ∧ ∀ n ∈ zs,(Lit.int k n).wf = true
theorem IsRow.row {w:World} {a:Option Addr} {len cap:Nat} {zs:List Int} (h:IsRow .u8 w a len cap zs):Row w a len (zs.take len):=by
 rcases h with ⟨rfl,rfl,rfl,rfl⟩ | ⟨x,rfl,hl,hm,hz,hc,hw⟩
 ·exact Row.nil w
 ·unfold maxLen at hm
  refine ⟨by rw [List.length_take]; omega,by omega,fun z hz'=>?_,fun h0=>?_⟩
  ·have:=bounds_u8 (hw z (List.mem_of_mem_take hz')); omega
  ·obtain ⟨b,off,rfl,hc'⟩:=ints_at hc (by omega)
   have hlt:b < w.heap.size:=block_lt_of_cell (hc' 0 (by omega))
   refine ⟨b,off,rfl,hlt,fun j hj=>?_⟩
   rw [hc' j (by omega)]
   simp [hj]
theorem IsRow.nil {k:IntKind} {w:World} {a:Option Addr} {len cap:Nat} {zs:List Int} (h:IsRow k w a len cap zs):a = none → cap = 0:=by
 rintro rfl
 rcases h with ⟨_,_,h,_⟩ | ⟨x,h,_⟩
 ·exact h
 ·cases h
end Go.Proofs.YthmpepnikmdjpaaGreatDoor

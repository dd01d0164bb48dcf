/-
Packages and entries: what they are, which may be. How long written texts may be; reading two texts with a comma between. The reference's Text (made by gen/relytext.py). Clauses that lie somewhere, appended onto a row of the call's own. Not too many: light. The reference's Singles and Provided.
-/
import Derived.Test.YtmhpjjjjgakpiaaGreatDoorDRelUni
import Derived.Test.YtmhpjjjjgakpiaaGreatDoorDRelDef
import Derived.Test.YtmhpjjjjgakpiaaGreatDoorDReg
import Derived.Laws.Concat
import Derived.Deep.AppendSrc
namespace Go.Proofs.YtmhpjjjjgakpiaaGreatDoor
open Go.RowKit
set_option linter.unusedSimpArgs false
set_option linter.unusedVariables false
namespace Rc
open Ver (Bs S sameV)
open Rl (At Pv may nmB isV pvA)
structure Pk where
 nm:Bs
 vs:Bs
 pre:List (List At)
 dep:List (List At)
 rcm:List (List At)
 con:List At
 brk:List At
 prv:List Pv
 ess:Bool
structure En where
 pk:Pk
 cfg:Bool
 hld:Bool
def nPk:Pk:=⟨[],[],[],[],[],[],[],[],false⟩
def nEn:En:=⟨nPk,false,false⟩
/-! ### which may be -/
def mayC (l:List (List At)):Int :=
 if l.any (fun c=>decide (6 < c.length)) = true then 12
 else if 12 < l.length then 12
 else if l.all (fun c=>decide (0 < c.length) && c.all may) = true then 0 else 3
def mayA (l:List At):Int:=if 12 < l.length then 12 else if l.all may = true then 0 else 3
def mayPv (p:Pv):Bool:=may (pvA p)
def mayP (l:List Pv):Int:=if 12 < l.length then 12 else if l.all mayPv = true then 0 else 3
def orI:List Int → Int
 | []=>0
 | x :: r=>if x ≠ 0 then x else orI r
def mayK (p:Pk):Int:=if (nmB p.nm && isV p.vs) = true then orI [mayC p.pre,mayC p.dep,mayC p.rcm,mayA p.con,mayA p.brk,mayP p.prv] else 3
def eachK (l:List Pk):Int:=orI (l.map mayK)
def again (p q:Pk):Bool:=decide (p.nm = q.nm) && sameV p.vs q.vs
def twice (l:List Pk):Bool:=(List.range l.length).any fun i=>(l.take i).any (again (l.getD i nPk))
def nmsOf:List Pk → List Bs → List Bs
 | [],ns=>ns
 | p :: r,ns=>nmsOf r (if p.nm ∈ ns then ns else ns ++ [p.nm])
def mayAll (l:List Pk):Int :=
 if 24 < l.length then 12 else if eachK l ≠ 0 then eachK l else if twice l = true then 4 else if 10 < (nmsOf l []).length then 12 else 0
def geB (a b:Bs):Bool:=!(Go.Op.bytesLess (S a).toList (S b).toList)
def falls (l:List En):Bool:=(List.range l.length).any fun i=>decide (0 < i) && geB (l.getD (i - 1) nEn).pk.nm (l.getD i nEn).pk.nm
def mayEn (l:List En):Int :=
 if 10 < l.length then 12 else if eachK (l.map En.pk) ≠ 0 then eachK (l.map En.pk) else if falls l = true then 4 else 0
end Rc
end Go.Proofs.YtmhpjjjjgakpiaaGreatDoor
namespace Go.Proofs.YtmhpjjjjgakpiaaGreatDoor
open Go.RowKit
set_option linter.unusedSimpArgs false
set_option linter.unusedVariables false
namespace Rl
open Ver (Bs S S_size empty_no)
theorem tr {w a b:World} (h:Below w.heap.size w a) (k:Below a.heap.size a b):Below w.heap.size w b:=h.trans (k.mono h.size)
theorem S_none {x:Bs} (h:x = []):(S x).toList.isEmpty = true:=by subst h; exact isEmpty_S []
theorem S_some {x:Bs} (h:x ≠ []):(S x).toList.isEmpty = false:=(empty_no (by rw [S_size]; exact fun e=>h (List.eq_nil_of_length_eq_zero e))).1
end Rl
end Go.Proofs.YtmhpjjjjgakpiaaGreatDoor
namespace Go.Proofs.YtmhpjjjjgakpiaaGreatDoor
open Go.RowKit
set_option linter.unusedSimpArgs false
set_option linter.unusedVariables false
namespace Rl
open Ver (Bs)
section
variable {α:Type} {f:α → Bs} {sep:Bs} {xs:List α}
theorem take_getD {i:Nat} (z:α) (h:i < xs.length):xs.take (i + 1) = xs.take i ++ [xs.getD i z]:=by
 rw [List.take_succ_eq_append_getElem h]
 simp [List.getD,List.getElem?_eq_getElem h]
end
theorem s2:(⟨#[44,32]⟩:ByteArray).size = 2:=rfl
theorem s3:(⟨#[32,124,32]⟩:ByteArray).size = 3:=rfl
end Rl
end Go.Proofs.YtmhpjjjjgakpiaaGreatDoor
namespace Go.Proofs.YtmhpjjjjgakpiaaGreatDoor
open Go.RowKit
set_option linter.unusedSimpArgs false
set_option linter.unusedVariables false
namespace Rl
end Rl
end Go.Proofs.YtmhpjjjjgakpiaaGreatDoor
namespace Go.Proofs.YtmhpjjjjgakpiaaGreatDoor
open Go.RowKit
set_option linter.unusedSimpArgs false
set_option linter.unusedVariables false
namespace Rl
def lightB (l:List (List At)):Bool:=decide (l.length ≤ 30) && l.all fun c=>decide (c.length ≤ 30)
theorem light_many {l:List (List At)} (h:30 < l.length):lightB l = false:=by
 unfold lightB
 rw [decide_eq_false (by omega)]
 rfl
theorem light_at {l:List (List At)} {i:Nat} (hi:i < l.length) (h:30 < (l.getD i []).length):lightB l = false:=by
 unfold lightB
 rw [Bool.and_eq_false_iff]
 right
 rw [List.all_eq_false]
 exact ⟨l[i],List.getElem_mem hi,by rw [show l[i] = l.getD i [] by simp [List.getD,List.getElem?_eq_getElem hi]]; simp only [decide_eq_true_eq]; omega⟩
theorem light_yes {l:List (List At)} (hl:l.length ≤ 30) (h:∀ i,i < l.length → (l.getD i []).length ≤ 30):lightB l = true:=by
 unfold lightB
 rw [decide_eq_true hl,Bool.true_and,List.all_eq_true]
 intro s hs
 obtain ⟨i,hi,rfl⟩:=List.mem_iff_getElem.1 hs
 have:=h i hi
 simpa [List.getD,List.getElem?_eq_getElem hi] using this
end Rl
end Go.Proofs.YtmhpjjjjgakpiaaGreatDoor
namespace Go.Proofs.YtmhpjjjjgakpiaaGreatDoor
open Go.RowKit
set_option linter.unusedSimpArgs false
set_option linter.unusedVariables false
namespace Rl
open Ver (S)
set_option maxRecDepth 100000 in
set_option maxHeartbeats 16000000 in
theorem singles_any (v:Value) (l:List At) (w:World) (h:Ats w v l) (hl:l.length ≤ 30) :
  Calls Tryz.prog 53 #[v] w fun e w'=>∃ v',e = .returned v' ∧ Clss w' v' (l.map fun a=>[a]) ∧ Below w.heap.size w w':=by
 obtain ⟨h0,a0,b0,rfl,hcap,hr⟩:=id h
 have HR:=Lib.hid hr
 obtain ⟨N,hN⟩:∃ N,l.length = N:=⟨_,rfl⟩
 have HN:=Lib.hid hN
 rw [hN] at h0 hcap hl ⊢
 clear hN hr h
 go_enter Tryz.func53,Tryz.ntmps53
 go_wp2_with fail
 go_loopg [3,8] N (fun gf s3 s8 wx=>∃ (i:Nat) (sa:Option Addr) (cap:Nat) (xs:List Value),s8 = .int .i64 i ∧ s3 = .slice sa i cap ∧ Hid (wx.ownsRow w.heap.size 47 1 (.slice sa i cap) i xs) ∧ Hid (Cls wx w.heap.size xs ((l.take i).map fun a=>[a])) ∧ i ≤ N ∧ N ≤ i + gf ∧ Hid (Below w.heap.size w wx))
 case atStart=>exact ⟨0,none,0,[],rfl,rfl,Lib.hid (World.ownsRow_nil _ _ _ 1),Lib.hid (Cls.nil _ _),by omega,by omega,Lib.hid (Below.refl _ _)⟩
 case round =>
  obtain ⟨i,sa,cap,xs,rfl,rfl,HO,HC,hi1,hi2,HB⟩:=hrel
  by_cases hi:i < N
  ·have hi':(i:Int) < (N:Int):=by omega
   have hil:i < l.length:=by rw [HN.out]; exact hi
   obtain ⟨g',rfl⟩:∃ g',gk = g' + 1:=⟨gk - 1,by omega⟩
   obtain ⟨ob,oo,rfl,hat⟩:=HR.out (by omega)
   obtain ⟨p0,p1,p2⟩:=hat i hil
   rw [Nat.mul_comm 3 i] at p0 p1 p2
   have q0:=cell_on p0 HB.out
   have q1:=cell_on p1 HB.out
   have q2:=cell_on p2 HB.out
   have htk:=take_getD nA hil
   obtain ⟨a,haa⟩:∃ a,l.getD i nA = a:=⟨_,rfl⟩
   rw [haa] at q0 q1 q2 htk
   have HTK:=Lib.hid htk
   clear hat p0 p1 p2 htk haa hil
   obtain ⟨bb,hbb⟩:∃ bb,wr.heap.size = bb:=⟨_,rfl⟩
   obtain ⟨i0,i1,i2⟩:=cells3 (Blk.Is.new wr 54 #[.string (S a.1),.int .i64 a.2.1,.string (S a.2.2)])
   have hs1:(wr.alloc (.cells #[.string (S a.1),.int .i64 a.2.1,.string (S a.2.2)] 54)).heap.size = bb + 1:=by rw [← hbb]; simp
   have hs2:((wr.alloc (.cells #[.string (S a.1),.int .i64 a.2.1,.string (S a.2.2)] 54)).alloc (.cells #[.string (S a.1),.int .i64 a.2.1,.string (S a.2.2)] 54)).heap.size = bb + 1 + 1:=by rw [← hbb]; simp
   have hb2:Below wr.heap.size wr ((wr.alloc (.cells #[.string (S a.1),.int .i64 a.2.1,.string (S a.2.2)] 54)).alloc (.cells #[.string (S a.1),.int .i64 a.2.1,.string (S a.2.2)] 54)):=((Below.refl _ _).alloc (Nat.le_refl _) _).alloc (by simp) _
   have hlit:=World.ownsRow_lit (base:=w.heap.size) (e:=54) (size:=3) (wr.alloc (.cells #[.string (S a.1),.int .i64 a.2.1,.string (S a.2.2)] 54)) #[.string (S a.1),.int .i64 a.2.1,.string (S a.2.2)] 1 (by have:=HB.out.size; rw [hs1]; omega) (by decide) rfl
   rw [hs1] at hlit
   obtain ⟨W2,hW2⟩:∃ W2,(wr.alloc (.cells #[.string (S a.1),.int .i64 a.2.1,.string (S a.2.2)] 54)).alloc (.cells #[.string (S a.1),.int .i64 a.2.1,.string (S a.2.2)] 54) = W2:=⟨_,rfl⟩
   rw [hW2] at hb2 hs2 hlit
   have hb3:Below W2.heap.size W2 (W2.alloc (.cells #[.slice (some ⟨bb + 1,0,none⟩) 1 1] 47)):=(Below.refl _ _).alloc (Nat.le_refl _) _
   have hc3:=Blk.Is.new W2 47 #[.slice (some ⟨bb + 1,0,none⟩) 1 1]
   rw [hs2] at hc3
   obtain ⟨W3,hW3⟩:∃ W3,W2.alloc (.cells #[.slice (some ⟨bb + 1,0,none⟩) 1 1] 47) = W3:=⟨_,rfl⟩
   rw [hW3] at hb3 hc3
   have hwr:Below wr.heap.size wr W3:=hb2.trans (hb3.mono hb2.size)
   have hel:W3.ownsRow w.heap.size 54 3 (.slice (some ⟨bb + 1,0,none⟩) 1 1) [a].length (acells [a]):=by
    have:=Own.owns_below hlit hb3
    simpa [acells,acell] using this
   have HW2:=Lib.hid hW2
   have HW3:=Lib.hid hW3
   have HC3:=Lib.hid (show W3.cell? ⟨bb + 1 + 1,0,none⟩ = some (.slice (some ⟨bb + 1,0,none⟩) 1 1) from hc3.at rfl)
   have HOWN:=Lib.hid (Own.owns_below HO.out hwr)
   have HCL:=Lib.hid ((HC.out.below hwr).more hel)
   have HB3:=Lib.hid (HB.out.trans (hwr.mono HB.out.size))
   have HSZ:=HB3.out.size
   rw [hbb] at i0 i1 i2
   have hn:i + 1 ≤ 70000:=by omega
   clear hW2 hW3 hb2 hb3 hc3 hwr hel hlit hs1 hs2 HO HC HB
   go_wp2_with (at_builtin; rw [HW2.out,HW3.out]; refine append_el Tryz.underlying36 infoC rfl (by decide) rfl (.tmp 12) (.tmp 15) rfl w.heap.size (.slice sa i cap) i xs rfl HOWN.out (bb + 1 + 1) 1 rfl [.slice (some ⟨bb + 1,0,none⟩) 1 1] rfl (fun j u hj=>by cases j with | zero=>(simp at hj; subst hj; exact HC3.out) | succ j=>simp at hj) (fun u hu=>by simp only [List.mem_singleton] at hu; rw [hu]; rfl) hn HSZ ?_; intro v' w4 h4 h5; have g1:=Own.below_grown HB3.out HOWN.out h5 HSZ; have g4:=HCL.out.grown HOWN.out h5; obtain ⟨a4,c4,rfl,_⟩:=own_shape h4; have H4:=Lib.hid h4; have G1:=Lib.hid g1; have G4:=Lib.hid g4; clear h4 h5 g1 g4 HW2 HW3 HC3 HOWN HCL HB3)
   go_roundg g'
   case measure=>omega
   case rel =>
    refine ⟨i + 1,a4,c4,_,by go_num,rfl,H4,Lib.hid ?_,by omega,by omega,G1⟩
    have:=G4.out
    rw [HTK.out,List.map_append]
    exact this
  ·obtain rfl:i = N:=by omega
   have hi':¬ (i:Int) < (i:Int):=by omega
   go_wp2_with fail
   go_ret
   refine ⟨_,rfl,?_,HB.out⟩
   have hc:=HC.out
   rw [show l.take i = l by rw [← HN.out,List.take_length]] at hc
   show Clss wr (.slice sa i cap) _
   refine own_clss (B:=w.heap.size) (vs:=xs) ?_ hc (by rw [List.length_map,HN.out]; exact h0) (fun c hcm=>?_)
   ·rw [List.length_map,HN.out]
    exact HO.out
   ·obtain ⟨x,_,rfl⟩:=List.mem_map.1 hcm
    simp
set_option maxRecDepth 100000 in
set_option maxHeartbeats 16000000 in
theorem provided_any (v:Value) (l:List Pv) (w:World) (h:Pvs w v l) (hl:l.length ≤ 30) :
  Calls Tryz.prog 55 #[v] w fun e w'=>∃ v',e = .returned v' ∧ Ats w' v' (l.map pvA) ∧ Below w.heap.size w w':=by
 obtain ⟨h0,a0,b0,rfl,hcap,hr⟩:=id h
 have HR:=Lib.hid hr
 obtain ⟨N,hN⟩:∃ N,l.length = N:=⟨_,rfl⟩
 have HN:=Lib.hid hN
 rw [hN] at h0 hcap hl ⊢
 clear hN hr h
 go_enter Tryz.func55,Tryz.ntmps55
 go_wp2_with fail
 go_loopg [3,9] N (fun gf s3 s9 wx=>∃ (i:Nat) (sa:Option Addr) (cap:Nat),s9 = .int .i64 i ∧ s3 = .slice sa i cap ∧ Hid (wx.ownsRow w.heap.size 54 3 (.slice sa i cap) i (acells ((l.take i).map pvA))) ∧ i ≤ N ∧ N ≤ i + gf ∧ Hid (Below w.heap.size w wx))
 case atStart=>exact ⟨0,none,0,rfl,rfl,Lib.hid (World.ownsRow_nil _ _ _ 3),by omega,by omega,Lib.hid (Below.refl _ _)⟩
 case round =>
  obtain ⟨i,sa,cap,rfl,rfl,HO,hi1,hi2,HB⟩:=hrel
  by_cases hi:i < N
  ·have hi':(i:Int) < (N:Int):=by omega
   have hil:i < l.length:=by rw [HN.out]; exact hi
   obtain ⟨g',rfl⟩:∃ g',gk = g' + 1:=⟨gk - 1,by omega⟩
   obtain ⟨ob,oo,rfl,hat⟩:=HR.out (by omega)
   obtain ⟨p0,p1⟩:=hat i hil
   rw [Nat.mul_comm 2 i] at p0 p1
   have q0:=cell_on p0 HB.out
   have q1:=cell_on p1 HB.out
   have htk:=take_getD nP hil
   obtain ⟨x,hxx⟩:∃ x,l.getD i nP = x:=⟨_,rfl⟩
   rw [hxx] at q0 q1 htk
   have HTK:=Lib.hid htk
   clear hat p0 p1 htk hxx hil
   obtain ⟨bb,hbb⟩:∃ bb,wr.heap.size = bb:=⟨_,rfl⟩
   have hs1:(wr.alloc (.cells #[.string (S x.1),.string (S x.2)] 101)).heap.size = bb + 1:=by rw [← hbb]; simp
   have hI1:=Blk.Is.new wr 101 #[.string (S x.1),.string (S x.2)]
   have hI2:=hI1.alloc (.cells #[.string (S x.1),.int .i64 0,.string (S x.2)] 54)
   have hA2:=Blk.Is.new (wr.alloc (.cells #[.string (S x.1),.string (S x.2)] 101)) 54 #[.string (S x.1),.int .i64 0,.string (S x.2)]
   rw [hbb] at hI1 hI2
   rw [hs1] at hA2
   have hb2:Below wr.heap.size wr ((wr.alloc (.cells #[.string (S x.1),.string (S x.2)] 101)).alloc (.cells #[.string (S x.1),.int .i64 0,.string (S x.2)] 54)):=((Below.refl _ _).alloc (Nat.le_refl _) _).alloc (by simp) _
   have hs2:((wr.alloc (.cells #[.string (S x.1),.string (S x.2)] 101)).alloc (.cells #[.string (S x.1),.int .i64 0,.string (S x.2)] 54)).heap.size = bb + 1 + 1:=by rw [← hbb]; simp
   have P0:(wr.alloc (.cells #[.string (S x.1),.string (S x.2)] 101)).cell? ⟨bb,0,none⟩ = some (.string (S x.1)):=hI1.at rfl
   have P1:(wr.alloc (.cells #[.string (S x.1),.string (S x.2)] 101)).cell? ⟨bb,1,none⟩ = some (.string (S x.2)):=hI1.at rfl
   have R1:((wr.alloc (.cells #[.string (S x.1),.string (S x.2)] 101)).alloc (.cells #[.string (S x.1),.int .i64 0,.string (S x.2)] 54)).cell? ⟨bb,1,none⟩ = some (.string (S x.2)):=hI2.at rfl
   have hn:i + 1 ≤ 70000:=by omega
   by_cases hy:x.2 = []
   ·have he:=S_none hy
    obtain ⟨A0,A1,A2⟩:=cells3 hA2
    have hb3:=hb2.alloc (hb2.size) (.cells #[.string (S x.1),.int .i64 0,.string (S x.2)] 54)
    have hA3:=Blk.Is.new ((wr.alloc (.cells #[.string (S x.1),.string (S x.2)] 101)).alloc (.cells #[.string (S x.1),.int .i64 0,.string (S x.2)] 54)) 54 #[.string (S x.1),.int .i64 0,.string (S x.2)]
    rw [hs2] at hA3
    obtain ⟨W3,hW3⟩:∃ W3,((wr.alloc (.cells #[.string (S x.1),.string (S x.2)] 101)).alloc (.cells #[.string (S x.1),.int .i64 0,.string (S x.2)] 54)).alloc (.cells #[.string (S x.1),.int .i64 0,.string (S x.2)] 54) = W3:=⟨_,rfl⟩
    rw [hW3] at hb3 hA3
    have HW3:=Lib.hid hW3
    have HA3:=Lib.hid hA3
    have HPV:=Lib.hid (show pvA x = (x.1,0,x.2) by unfold pvA; rw [if_pos hy])
    have HOWN:=Lib.hid (Own.owns_below HO.out hb3)
    have HB3:=Lib.hid (HB.out.trans (hb3.mono HB.out.size))
    have HSZ:=HB3.out.size
    clear hW3 hb3 hA3 hI1 hI2 hA2 hb2 hs1 hs2 HO HB hy
    go_wp2_with (at_builtin; rw [HW3.out]; refine append_el Tryz.underlying37 infoA rfl (by decide) rfl (.tmp 22) (.tmp 24) rfl w.heap.size (.slice sa i cap) i (acells ((l.take i).map pvA)) rfl HOWN.out (bb + 1 + 1) 1 rfl (acell (x.1,0,x.2)) rfl (fun j u hj=>HA3.out.at (by simpa [acell] using hj)) (fun u hu=>by simp only [acell,List.mem_cons,List.not_mem_nil,or_false] at hu; rcases hu with rfl | rfl | rfl <;> rfl) hn HSZ ?_; intro v' w4 h4 h5; have g1:=Own.below_grown HB3.out HOWN.out h5 HSZ; obtain ⟨a4,c4,rfl,_⟩:=own_shape h4; have H4:=Lib.hid h4; have G1:=Lib.hid g1; clear h4 h5 g1 HW3 HA3 HOWN HB3)
    go_roundg g'
    case measure=>omega
    case rel =>
     refine ⟨i + 1,a4,c4,by go_num,rfl,Lib.hid ?_,by omega,by omega,G1⟩
     rw [HTK.out,List.map_append,List.map_cons,List.map_nil,acells_app,HPV.out]
     exact H4.out
   ·have he:=S_some hy
    obtain ⟨_,B1,_⟩:=cells3 hA2
    have F1:=hA2.free 1
    have hA4:=Blk.Is.new (wr.alloc (.cells #[.string (S x.1),.string (S x.2)] 101)) 54 #[.string (S x.1),.int .i64 3,.string (S x.2)]
    rw [hs1] at hA4
    obtain ⟨A0,A1,A2⟩:=cells3 hA4
    have hb4:Below wr.heap.size wr ((wr.alloc (.cells #[.string (S x.1),.string (S x.2)] 101)).alloc (.cells #[.string (S x.1),.int .i64 3,.string (S x.2)] 54)):=((Below.refl _ _).alloc (Nat.le_refl _) _).alloc (by simp) _
    have hs4:((wr.alloc (.cells #[.string (S x.1),.string (S x.2)] 101)).alloc (.cells #[.string (S x.1),.int .i64 3,.string (S x.2)] 54)).heap.size = bb + 1 + 1:=by rw [← hbb]; simp
    have hb3:=hb4.alloc (hb4.size) (.cells #[.string (S x.1),.int .i64 3,.string (S x.2)] 54)
    have hA3:=Blk.Is.new ((wr.alloc (.cells #[.string (S x.1),.string (S x.2)] 101)).alloc (.cells #[.string (S x.1),.int .i64 3,.string (S x.2)] 54)) 54 #[.string (S x.1),.int .i64 3,.string (S x.2)]
    rw [hs4] at hA3
    obtain ⟨W3,hW3⟩:∃ W3,((wr.alloc (.cells #[.string (S x.1),.string (S x.2)] 101)).alloc (.cells #[.string (S x.1),.int .i64 3,.string (S x.2)] 54)).alloc (.cells #[.string (S x.1),.int .i64 3,.string (S x.2)] 54) = W3:=⟨_,rfl⟩
    rw [hW3] at hb3 hA3
    have HW3:=Lib.hid hW3
    have HA3:=Lib.hid hA3
    have HPV:=Lib.hid (show pvA x = (x.1,3,x.2) by unfold pvA; rw [if_neg hy])
    have HOWN:=Lib.hid (Own.owns_below HO.out hb3)
    have HB3:=Lib.hid (HB.out.trans (hb3.mono HB.out.size))
    have HSZ:=HB3.out.size
    clear hW3 hb3 hb4 hA3 hI1 hI2 hA2 hA4 hb2 hs1 hs2 hs4 HO HB hy
    go_wp2_with (at_builtin; rw [HW3.out]; refine append_el Tryz.underlying37 infoA rfl (by decide) rfl (.tmp 22) (.tmp 24) rfl w.heap.size (.slice sa i cap) i (acells ((l.take i).map pvA)) rfl HOWN.out (bb + 1 + 1) 1 rfl (acell (x.1,3,x.2)) rfl (fun j u hj=>HA3.out.at (by simpa [acell] using hj)) (fun u hu=>by simp only [acell,List.mem_cons,List.not_mem_nil,or_false] at hu; rcases hu with rfl | rfl | rfl <;> rfl) hn HSZ ?_; intro v' w4 h4 h5; have g1:=Own.below_grown HB3.out HOWN.out h5 HSZ; obtain ⟨a4,c4,rfl,_⟩:=own_shape h4; have H4:=Lib.hid h4; have G1:=Lib.hid g1; clear h4 h5 g1 HW3 HA3 HOWN HB3)
    go_roundg g'
    case measure=>omega
    case rel =>
     refine ⟨i + 1,a4,c4,by go_num,rfl,Lib.hid ?_,by omega,by omega,G1⟩
     rw [HTK.out,List.map_append,List.map_cons,List.map_nil,acells_app,HPV.out]
     exact H4.out
  ·obtain rfl:i = N:=by omega
   have hi':¬ (i:Int) < (i:Int):=by omega
   go_wp2_with fail
   go_ret
   refine ⟨_,rfl,?_,HB.out⟩
   show Ats wr (.slice sa i cap) _
   have ho:=HO.out
   rw [show l.take i = l by rw [← HN.out,List.take_length]] at ho
   refine own_ats (B:=w.heap.size) ?_ (by rw [List.length_map,HN.out]; exact h0)
   rw [List.length_map,HN.out]
   exact ho
end Rl
end Go.Proofs.YtmhpjjjjgakpiaaGreatDoor

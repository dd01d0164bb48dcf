/-
Clauses, atoms, provides that came in. Packages, entries that came in. What the rows of package state list of variables; violations that came in.
-/
import Derived.Test.YtmhpjjjjgakpiaaGreatDoorDReg
import Derived.Deep.SlicePairs
import Derived.SliceStrings
import Derived.SizedLaws
import Derived.Test.YtmhpjjjjgakpiaaGreatDoorDRecMay
import Derived.Test.YtmhpjjjjgakpiaaGreatDoorDRelTabs
import Derived.Test.YtmhpjjjjgakpiaaGreatDoorDStaMath
import Derived.LaidSub
namespace Go.Proofs.YtmhpjjjjgakpiaaGreatDoor
open Go.RowKit Go.ChangeShapes Go.WideShapes Go.Deep
set_option linter.unusedSimpArgs false
set_option linter.unusedVariables false
namespace Rl
open Ver (Bs S S_self)
section
variable {H:Type} {enc:TypeId × Value → H} {w:World}
theorem all_mem {P:Program} {e:TypeId}:∀ {l:List (DataW H)} {d:DataW H},d ∈ l → ∀ n ∈ d.weights P e,n ∈ DataW.weightsAll P e l
 | d0 :: r,d,hd,n,hn=>by
  simp only [DataW.weightsAll,List.mem_append]
  rcases List.mem_cons.1 hd with rfl | h
  ·exact .inl hn
  ·exact .inr (all_mem h n hn)
def Wt (t:TypeId) (d:DataW H):Prop:=∀ n ∈ d.weights Tryz.prog t,n ≤ reachBytes
theorem Wt.elem {t e:TypeId} {elems spare:List (DataW H)} (h:Wt t (.slice elems spare)) (hu:Tryz.prog.underlying t = some (.slice e)) {d:DataW H} (hd:d ∈ elems):Wt e d:=fun n hn=>h n (by
 simp only [DataW.weights,hu,List.mem_cons,List.mem_append]
 exact .inr (.inl (all_mem hd n hn)))
theorem Wt.row {t e:TypeId} {elems spare:List (DataW H)} (h:Wt t (.slice elems spare)) (hu:Tryz.prog.underlying t = some (.slice e)):(elems.length + spare.length) * Tryz.prog.bytesOf e ≤ reachBytes:=h _ (by
 simp only [DataW.weights,hu,List.mem_cons]
 exact .inl trivial)
theorem spot {a:Addr} {u:Value} (h:w.cell? a = some u):∃ b off,a = ⟨b,off,none⟩:=by
 obtain ⟨b,off,part⟩:=a
 have hp:part = none:=World.cell?_spot h
 subst hp
 exact ⟨b,off,rfl⟩
theorem string_of {n:Nat} {v:Value} {d:DataW H} {ps:List MemPlace} (h:DataW.trod enc Tryz.prog w 0 (fun _=>true) true n 9 [v] = some (d,ps)) (hw:Wt 9 d) :
  ∃ x:Bs,v = .string (S x) ∧ x.length ≤ 140737488351232:=by
 obtain ⟨s',hv,hx,_⟩:=DataW.trod_string Tryz.underlying9 h
 obtain rfl:v = .string s':=by simpa using hv
 simp only [Prod.mk.injEq] at hx
 obtain ⟨rfl,_⟩:=hx
 refine ⟨s'.data.toList,by rw [S_self],?_⟩
 have:=hw s'.data.toList.length (by simp [DataW.weights])
 unfold reachBytes at this
 exact this
theorem int_of {n:Nat} {v:Value} {y:DataW H × List MemPlace} (h:DataW.trod enc Tryz.prog w 0 (fun _=>true) true n 3 [v] = some y):∃ k:Int,v = .int .i64 k:=by
 obtain ⟨k,hv,_⟩:=DataW.trod_int Tryz.underlying3 h
 exact ⟨k,by simpa using hv⟩
theorem mul_bound {x y b:Nat} (h:(x + y) * b ≤ reachBytes) (hb:8 ≤ b):x ≤ 1152921504606846976:=by
 unfold reachBytes at h
 have:x * 8 ≤ (x + y) * b:=Nat.mul_le_mul (by omega) hb
 omega
theorem slc_of {α:Type} (sz:Nat) (z:α) (P:World → Nat → Nat → α → Prop) (Q:α → Prop) {t e:TypeId} (ht:Tryz.prog.underlying t = some (.slice e)) (ce:Tryz.prog.cellsOf e = sz) (h0:0 < sz) (hb:8 ≤ Tryz.prog.bytesOf e)
  (hE:∀ n k o cs d ps,DataW.trod enc Tryz.prog w 0 (fun _=>true) true n e cs = some (d,ps) → cs.length = sz → (∀ j,j < sz → w.cell? ⟨k,o + j,none⟩ = cs[j]?) → Wt e d → ∃ x,P w k o x ∧ Q x)
  {n:Nat} {v:Value} {d:DataW H} {ps:List MemPlace} (h:DataW.trod enc Tryz.prog w 0 (fun _=>true) true n t [v] = some (d,ps)) (hw:Wt t d) :
  ∃ l:List α,Slc sz z P w v l ∧ ∀ x ∈ l,Q x:=by
 rcases open_slice ht h with ⟨hcs,_⟩ | ⟨a,len,cap,m,n',D,Pl,hcs,_,hl,hm,hmm,hx,hat⟩
 ·obtain rfl:v = .slice none 0 0:=by simpa using hcs
  exact ⟨[],Slc.none _ _ _ w,by simp⟩
 ·obtain rfl:v = .slice (some a) len cap:=by simpa using hcs
  simp only [Prod.mk.injEq] at hx
  obtain ⟨rfl,_⟩:=hx
  simp only [if_true] at hmm
  subst hmm
  have hrow:=hw.row ht
  rw [List.length_map,List.length_range] at hrow
  have hlen:=mul_bound hrow hb
  have hsp:0 < len → ∃ b off,a = ⟨b,off,none⟩:=fun hi=>by
   obtain ⟨cs',h1,_⟩:=hat 0 (by omega)
   obtain ⟨_,hl',hc⟩:=World.cells?_some h1
   rw [ce] at hl' hc
   have h2:=hc 0 h0
   rw [add_add,Nat.zero_mul,show a.add (0 + 0) = a by cases a; rfl] at h2
   obtain ⟨u,hu⟩:∃ u,cs'[0]? = some u:=⟨cs'[0]'(by omega),List.getElem?_eq_getElem _⟩
   rw [hu] at h2
   exact spot h2
  have hall:∀ i,i < len → ∃ x:α,(∀ b off,a = ⟨b,off,none⟩ → P w b (off + sz * i) x) ∧ Q x:=fun i hi=>by
   obtain ⟨cs',h1,t1⟩:=hat i (by omega)
   obtain ⟨_,hl',hc⟩:=World.cells?_some h1
   rw [ce] at hl' hc
   obtain ⟨b,off,rfl⟩:=hsp (by omega)
   have he:Wt e (D i):=hw.elem ht (List.mem_map.2 ⟨i,by simpa using hi,rfl⟩)
   obtain ⟨x,hx1,hx2⟩:=hE _ b (off + sz * i) cs' (D i) (Pl i) t1 hl' (fun j hj=>by
    have:=hc j hj
    rw [Addr.add_mid,Addr.add_mid,Nat.mul_comm i sz] at this
    exact this) he
   exact ⟨x,fun b' off' e'=>by cases e'; exact hx1,hx2⟩
  refine ⟨(List.range len).map fun i=>if h:i < len then (hall i h).choose else z,⟨by simp; exact hlen,some a,m,by simp,by simp; exact hl,fun h0=>?_⟩,?_⟩
  ·have h0':0 < len:=by simpa using h0
   obtain ⟨b,off,rfl⟩:=hsp h0'
   refine ⟨b,off,rfl,fun i hil=>?_⟩
   have hil':i < len:=by simpa using hil
   have e:((List.range len).map fun i=>if h:i < len then (hall i h).choose else z).getD i z = (hall i hil').choose:=by
    simp [hil']
   rw [e]
   exact (hall i hil').choose_spec.1 b off rfl
  ·intro f hf
   obtain ⟨i,hi,rfl⟩:=List.mem_map.1 hf
   have hi':i < len:=by simpa using hi
   simp only [hi',dite_true]
   exact (hall i hi').choose_spec.2
theorem three {α:Type}:∀ {l:List α},l.length = 3 → ∃ x y z,l = [x,y,z]
 | [x,y,z],_=>⟨x,y,z,rfl⟩
theorem two {α:Type}:∀ {l:List α},l.length = 2 → ∃ x y,l = [x,y]
 | [x,y],_=>⟨x,y,rfl⟩
theorem at_of {n k o:Nat} {cs:List Value} {d:DataW H} {ps:List MemPlace} (h:DataW.trod enc Tryz.prog w 0 (fun _=>true) true n 54 cs = some (d,ps)) (hl:cs.length = 3) (hc:∀ j,j < 3 → w.cell? ⟨k,o + j,none⟩ = cs[j]?) (hw:Wt 54 d) :
  ∃ a:At,AtAt w k o a ∧ (a.1.length ≤ 140737488351232 ∧ a.2.2.length ≤ 140737488351232):=by
 obtain ⟨xs,m,_,hx,_,hxl,hf⟩:=DataW.trod_struct Tryz.underlying54 h
 obtain ⟨v0,v1,v2,rfl⟩:=three hl
 obtain ⟨y0,y1,y2,rfl⟩:=three hxl
 have cT:Tryz.prog.cellsOf 9 = 1:=by kernel_rfl
 have cI:Tryz.prog.cellsOf 3 = 1:=by kernel_rfl
 have g0:=hf 0 _ rfl
 have g1:=hf 1 _ rfl
 have g2:=hf 2 _ rfl
 simp [cT,cI] at g0 g1 g2
 simp only [Prod.mk.injEq] at hx
 obtain ⟨rfl,_⟩:=hx
 obtain ⟨x,hx,hxs⟩:=string_of (d:=y0.1) (ps:=y0.2) g0 (fun q hq=>hw q (by simp [DataW.weights,Tryz.underlying54,DataW.weightsEach,hq]))
 obtain ⟨r,hr⟩:=int_of (y:=y1) g1
 obtain ⟨y,hy,hys⟩:=string_of (d:=y2.1) (ps:=y2.2) g2 (fun q hq=>hw q (by simp [DataW.weights,Tryz.underlying54,DataW.weightsEach,hq]))
 subst hx hr hy
 exact ⟨(x,r,y),⟨hc 0 (by omega),hc 1 (by omega),hc 2 (by omega)⟩,hxs,hys⟩
theorem pv_of {n k o:Nat} {cs:List Value} {d:DataW H} {ps:List MemPlace} (h:DataW.trod enc Tryz.prog w 0 (fun _=>true) true n 101 cs = some (d,ps)) (hl:cs.length = 2) (hc:∀ j,j < 2 → w.cell? ⟨k,o + j,none⟩ = cs[j]?) (hw:Wt 101 d) :
  ∃ a:Pv,PvAt w k o a ∧ (a.1.length ≤ 140737488351232 ∧ a.2.length ≤ 140737488351232):=by
 obtain ⟨xs,m,_,hx,_,hxl,hf⟩:=DataW.trod_struct Tryz.underlying101 h
 obtain ⟨v0,v1,rfl⟩:=two hl
 obtain ⟨y0,y1,rfl⟩:=two hxl
 have cT:Tryz.prog.cellsOf 9 = 1:=by kernel_rfl
 have g0:=hf 0 _ rfl
 have g1:=hf 1 _ rfl
 simp [cT] at g0 g1
 simp only [Prod.mk.injEq] at hx
 obtain ⟨rfl,_⟩:=hx
 obtain ⟨x,hx,hxs⟩:=string_of (d:=y0.1) (ps:=y0.2) g0 (fun q hq=>hw q (by simp [DataW.weights,Tryz.underlying101,DataW.weightsEach,hq]))
 obtain ⟨y,hy,hys⟩:=string_of (d:=y1.1) (ps:=y1.2) g1 (fun q hq=>hw q (by simp [DataW.weights,Tryz.underlying101,DataW.weightsEach,hq]))
 subst hx hy
 exact ⟨(x,y),⟨hc 0 (by omega),hc 1 (by omega)⟩,hxs,hys⟩
theorem ats_of {t:TypeId} (ht:Tryz.prog.underlying t = some (.slice 54)) {n:Nat} {v:Value} {d:DataW H} {ps:List MemPlace} (h:DataW.trod enc Tryz.prog w 0 (fun _=>true) true n t [v] = some (d,ps)) (hw:Wt t d) :
  ∃ l,Ats w v l ∧ LimA l :=
 slc_of 3 nA AtAt (fun a=>a.1.length ≤ 140737488351232 ∧ a.2.2.length ≤ 140737488351232) ht (by kernel_rfl) (by omega) (by decide +kernel) (fun n k o cs d ps h hl hc hw=>at_of h hl hc hw) h hw
theorem pvs_of {t:TypeId} (ht:Tryz.prog.underlying t = some (.slice 101)) {n:Nat} {v:Value} {d:DataW H} {ps:List MemPlace} (h:DataW.trod enc Tryz.prog w 0 (fun _=>true) true n t [v] = some (d,ps)) (hw:Wt t d) :
  ∃ l,Pvs w v l ∧ LimP l :=
 slc_of 2 nP PvAt (fun a=>a.1.length ≤ 140737488351232 ∧ a.2.length ≤ 140737488351232) ht (by kernel_rfl) (by omega) (by decide +kernel) (fun n k o cs d ps h hl hc hw=>pv_of h hl hc hw) h hw
theorem clss_of {t:TypeId} (ht:Tryz.prog.underlying t = some (.slice 47)) {n:Nat} {v:Value} {d:DataW H} {ps:List MemPlace} (h:DataW.trod enc Tryz.prog w 0 (fun _=>true) true n t [v] = some (d,ps)) (hw:Wt t d) :
  ∃ l,Clss w v l ∧ LimC l :=
 slc_of 1 [] ClAt (fun c=>LimA c) ht (by kernel_rfl) (by omega) (by decide +kernel) (fun n k o cs d ps h hl hc hw=>by
  obtain ⟨u,rfl⟩:∃ u,cs = [u]:=by
   match cs,hl with
   | [x],_=>exact ⟨x,rfl⟩
  obtain ⟨l,h1,h2⟩:=ats_of Tryz.underlying47 h hw
  exact ⟨l,⟨u,hc 0 (by omega),h1⟩,h2⟩) h hw
end
theorem wt_at {H:Type} {ts:List TypeId} {ds:List (DataW H)} (h:(DataW.weightsEach Tryz.prog ts ds).all (· ≤ reachBytes) = true) (j:Nat) {t:TypeId} {d:DataW H} (h1:ts[j]? = some t) (h2:ds[j]? = some d):Wt t d:=fun n hn=>by
 have:=List.all_eq_true.1 h _ (DataW.weights_mem_each (j:=j) h1 h2 n hn)
 simpa using this
end Rl
end Go.Proofs.YtmhpjjjjgakpiaaGreatDoor
namespace Go.Proofs.YtmhpjjjjgakpiaaGreatDoor
open Go.RowKit Go.ChangeShapes Go.WideShapes Go.Deep
set_option linter.unusedSimpArgs false
set_option linter.unusedVariables false
namespace Rc
open Rl (Wt clss_of ats_of pvs_of string_of slc_of)
section
variable {H:Type} {enc:TypeId × Value → H} {w:World}
theorem nine {α:Type}:∀ {l:List α},l.length = 9 → ∃ a b c d e f g h i,l = [a,b,c,d,e,f,g,h,i]
 | [a,b,c,d,e,f,g,h,i],_=>⟨a,b,c,d,e,f,g,h,i,rfl⟩
theorem elv {α:Type}:∀ {l:List α},l.length = 11 → ∃ a b c d e f g h i j k,l = [a,b,c,d,e,f,g,h,i,j,k]
 | [a,b,c,d,e,f,g,h,i,j,k],_=>⟨a,b,c,d,e,f,g,h,i,j,k,rfl⟩
theorem bool_of {n:Nat} {v:Value} {y:DataW H × List MemPlace} (h:DataW.trod enc Tryz.prog w 0 (fun _=>true) true n 4 [v] = some y):∃ k:Bool,v = .bool k:=by
 obtain ⟨k,hv,_⟩:=DataW.trod_bool Tryz.underlying4 h
 exact ⟨k,by simpa using hv⟩
set_option maxRecDepth 100000 in
theorem pk_of {n:Nat} {cs:List Value} {d:DataW H} {ps:List MemPlace} (h:DataW.trod enc Tryz.prog w 0 (fun _=>true) true n 40 cs = some (d,ps)) (hl:cs.length = 9) (hw:Wt 40 d):∃ p:Pk,PkC w cs p ∧ p.Lim:=by
 obtain ⟨xs,m,_,hx,_,hxl,hfs⟩:=DataW.trod_struct Tryz.underlying40 h
 obtain ⟨c0,c1,c2,c3,c4,c5,c6,c7,c8,rfl⟩:=nine hl
 obtain ⟨y0,y1,y2,y3,y4,y5,y6,y7,y8,rfl⟩:=nine hxl
 have cT:Tryz.prog.cellsOf 9 = 1:=by kernel_rfl
 have cB:Tryz.prog.cellsOf 4 = 1:=by kernel_rfl
 have cC:Tryz.prog.cellsOf 36 = 1:=by kernel_rfl
 have cA:Tryz.prog.cellsOf 37 = 1:=by kernel_rfl
 have cP:Tryz.prog.cellsOf 38 = 1:=by kernel_rfl
 have g0:=hfs 0 _ rfl
 have g1:=hfs 1 _ rfl
 have g2:=hfs 2 _ rfl
 have g3:=hfs 3 _ rfl
 have g4:=hfs 4 _ rfl
 have g5:=hfs 5 _ rfl
 have g6:=hfs 6 _ rfl
 have g7:=hfs 7 _ rfl
 have g8:=hfs 8 _ rfl
 simp [cT,cB,cC,cA,cP] at g0 g1 g2 g3 g4 g5 g6 g7 g8
 simp only [Prod.mk.injEq] at hx
 obtain ⟨rfl,_⟩:=hx
 obtain ⟨nm,rfl,hn⟩:=string_of (d:=y0.1) (ps:=y0.2) g0 (fun q hq=>hw q (by simp [DataW.weights,Tryz.underlying40,DataW.weightsEach,hq]))
 obtain ⟨vs,rfl,hv⟩:=string_of (d:=y1.1) (ps:=y1.2) g1 (fun q hq=>hw q (by simp [DataW.weights,Tryz.underlying40,DataW.weightsEach,hq]))
 obtain ⟨l2,h2,m2⟩:=clss_of (d:=y2.1) (ps:=y2.2) Tryz.underlying36 g2 (fun q hq=>hw q (by simp [DataW.weights,Tryz.underlying40,DataW.weightsEach,hq]))
 obtain ⟨l3,h3,m3⟩:=clss_of (d:=y3.1) (ps:=y3.2) Tryz.underlying36 g3 (fun q hq=>hw q (by simp [DataW.weights,Tryz.underlying40,DataW.weightsEach,hq]))
 obtain ⟨l4,h4,m4⟩:=clss_of (d:=y4.1) (ps:=y4.2) Tryz.underlying36 g4 (fun q hq=>hw q (by simp [DataW.weights,Tryz.underlying40,DataW.weightsEach,hq]))
 obtain ⟨l5,h5,m5⟩:=ats_of (d:=y5.1) (ps:=y5.2) Tryz.underlying37 g5 (fun q hq=>hw q (by simp [DataW.weights,Tryz.underlying40,DataW.weightsEach,hq]))
 obtain ⟨l6,h6,m6⟩:=ats_of (d:=y6.1) (ps:=y6.2) Tryz.underlying37 g6 (fun q hq=>hw q (by simp [DataW.weights,Tryz.underlying40,DataW.weightsEach,hq]))
 obtain ⟨l7,h7,m7⟩:=pvs_of (d:=y7.1) (ps:=y7.2) Tryz.underlying38 g7 (fun q hq=>hw q (by simp [DataW.weights,Tryz.underlying40,DataW.weightsEach,hq]))
 obtain ⟨b,rfl⟩:=bool_of (y:=y8) g8
 exact ⟨⟨nm,vs,l2,l3,l4,l5,l6,l7,b⟩,⟨_,_,_,_,_,_,rfl,⟨h2,h3,h4,h5,h6,h7⟩⟩,⟨hn,hv,m2,m3,m4,m5,m6,m7⟩⟩
set_option maxRecDepth 100000 in
theorem en_of {n:Nat} {cs:List Value} {d:DataW H} {ps:List MemPlace} (h:DataW.trod enc Tryz.prog w 0 (fun _=>true) true n 52 cs = some (d,ps)) (hl:cs.length = 11) (hw:Wt 52 d):∃ x:En,EnC w cs x ∧ x.pk.Lim:=by
 obtain ⟨xs,m,_,hx,_,hxl,hfs⟩:=DataW.trod_struct Tryz.underlying52 h
 obtain ⟨c0,c1,c2,c3,c4,c5,c6,c7,c8,c9,c10,rfl⟩:=elv hl
 obtain ⟨y0,y1,y2,rfl⟩:=Rl.three hxl
 have cB:Tryz.prog.cellsOf 4 = 1:=by kernel_rfl
 have cK:Tryz.prog.cellsOf 40 = 9:=by kernel_rfl
 have g0:=hfs 0 _ rfl
 have g1:=hfs 1 _ rfl
 have g2:=hfs 2 _ rfl
 simp [cB,cK] at g0 g1 g2
 simp only [Prod.mk.injEq] at hx
 obtain ⟨rfl,_⟩:=hx
 obtain ⟨p,hp,hL⟩:=pk_of (d:=y0.1) (ps:=y0.2) g0 rfl (fun q hq=>hw q (by simp [DataW.weights,Tryz.underlying52,DataW.weightsEach,hq]))
 obtain ⟨b1,rfl⟩:=bool_of (y:=y1) g1
 obtain ⟨b2,rfl⟩:=bool_of (y:=y2) g2
 obtain ⟨u1,u2,u3,u4,u5,u6,e,hh⟩:=hp
 simp only [List.cons.injEq,and_true] at e
 obtain ⟨rfl,rfl,rfl,rfl,rfl,rfl,rfl,rfl,rfl⟩:=e
 exact ⟨⟨p,b1,b2⟩,⟨_,_,_,_,_,_,rfl,hh⟩,hL⟩
theorem pks_of {t:TypeId} (ht:Tryz.prog.underlying t = some (.slice 40)) {n:Nat} {v:Value} {d:DataW H} {ps:List MemPlace} (h:DataW.trod enc Tryz.prog w 0 (fun _=>true) true n t [v] = some (d,ps)) (hw:Wt t d) :
  ∃ l,Pks w v l ∧ ∀ x ∈ l,x.Lim :=
 slc_of 9 nPk (CAt PkC) Pk.Lim ht (by kernel_rfl) (by omega) (by decide +kernel) (fun n k o cs d ps h hl hc hw=>by
  obtain ⟨p,hp,hL⟩:=pk_of h hl hw
  exact ⟨p,⟨cs,hp,fun j u hj=>(hc j (by rw [← hl]; exact (List.getElem?_eq_some_iff.1 hj).1)).trans hj⟩,hL⟩) h hw
theorem ens_of {t:TypeId} (ht:Tryz.prog.underlying t = some (.slice 52)) {n:Nat} {v:Value} {d:DataW H} {ps:List MemPlace} (h:DataW.trod enc Tryz.prog w 0 (fun _=>true) true n t [v] = some (d,ps)) (hw:Wt t d) :
  ∃ l,Ens w v l ∧ (∀ x ∈ l,x.pk.Lim) ∧ l.length * 184 ≤ 140737488355328:=by
 obtain ⟨l,h1,h2⟩:=slc_of 11 nEn (CAt EnC) (fun x=>x.pk.Lim) ht (by kernel_rfl) (by omega) (by decide +kernel) (fun n k o cs d ps h hl hc hw=>by
  obtain ⟨p,hp,hL⟩:=en_of h hl hw
  exact ⟨p,⟨cs,hp,fun j u hj=>(hc j (by rw [← hl]; exact (List.getElem?_eq_some_iff.1 hj).1)).trans hj⟩,hL⟩) h hw
 refine ⟨l,h1,h2,?_⟩
 obtain ⟨a0,cap0,e0⟩:=h1.shape
 rcases open_slice ht h with ⟨hcs,_⟩ | ⟨a,len,cap,m,n',D,Pl,hcs,_,hl,hm,hmm,hx,hat⟩
 ·obtain rfl:v = .slice none 0 0:=by simpa using hcs
  simp only [Value.slice.injEq] at e0
  rw [← e0.2.1]; omega
 ·obtain rfl:v = .slice (some a) len cap:=by simpa using hcs
  simp only [Value.slice.injEq] at e0
  simp only [Prod.mk.injEq] at hx
  obtain ⟨rfl,_⟩:=hx
  simp only [if_true] at hmm
  subst hmm
  have hrow:=hw.row ht
  rw [List.length_map,List.length_range] at hrow
  have hb:Tryz.prog.bytesOf 52 = 192:=by kernel_rfl
  rw [hb] at hrow
  unfold reachBytes at hrow
  rw [← e0.2.1]
  omega
end
end Rc
end Go.Proofs.YtmhpjjjjgakpiaaGreatDoor
namespace Go.Proofs.YtmhpjjjjgakpiaaGreatDoor
open Go Go.Lib Go.RowKit Go.ChangeShapes Go.WideShapes Go.Deep
set_option maxRecDepth 100000
set_option linter.unusedSimpArgs false
set_option linter.unusedVariables false
namespace Sa
open Rl (Wt Vars)
def listed : List (String × DataW Unit) := [("unicode/utf8.acceptRanges", Rows.laid_unicode_utf8_acceptRanges), ("chandler/version.signs", Rows.laid_chandler_version_signs), ("unicode/utf8.first", Rows.laid_unicode_utf8_first)]
theorem vars_of {W:World} (hL:laidMetH Tryz.prog listed W) (hSh:W.ShapedOpen Tryz.prog):Vars W :=
 Rl.vars_of (hL.filter (fun x => x.1 == "chandler/version.signs")) hSh
section
variable {H:Type} {enc:TypeId × Value → H} {w:World}
def BlAt (w:World) (k o:Nat) (b:Bool):Prop:=w.cell? ⟨k,o,none⟩ = some (.bool b)
def Bls:World → Value → List Bool → Prop:=Rl.Slc 1 false BlAt
theorem Bls.below {w w':World} {v:Value} {l:List Bool} (h:Bls w v l) (hb:Below w.heap.size w w'):Bls w' v l:=Rl.Slc.below (P:=BlAt) (fun _ _ _ _ _ h hb=>Rl.cell_on h hb) h hb
theorem bls_of {t:TypeId} (ht:Tryz.prog.underlying t = some (.slice 4)) {n:Nat} {v:Value} {d:DataW H} {ps:List MemPlace} (h:DataW.trod enc Tryz.prog w 0 (fun _=>true) true n t [v] = some (d,ps)) (hw:Wt t d) :
  ∃ l,Bls w v l:=by
 have ce:Tryz.prog.cellsOf 4 = 1:=by kernel_rfl
 rcases open_slice ht h with ⟨hcs,_⟩ | ⟨a,len,cap,m,n',D,Pl,hcs,_,hl,hm,hmm,hx,hat⟩
 ·obtain rfl:v = .slice none 0 0:=by simpa using hcs
  exact ⟨[],Rl.Slc.none _ _ _ w⟩
 ·obtain rfl:v = .slice (some a) len cap:=by simpa using hcs
  simp only [Prod.mk.injEq] at hx
  obtain ⟨rfl,_⟩:=hx
  simp only [if_true] at hmm
  subst hmm
  have hrow:=hw.row ht
  rw [List.length_map,List.length_range,show Tryz.prog.bytesOf 4 = 1 by kernel_rfl] at hrow
  have hlen:len ≤ 1152921504606846976:=by unfold reachBytes at hrow; omega
  have one:∀ i,i < len → ∃ b:Bool,w.cell? (a.add i) = some (.bool b):=fun i hi=>by
   obtain ⟨cs',h1,t1⟩:=hat i (by omega)
   obtain ⟨_,hl',hc⟩:=World.cells?_some h1
   rw [ce] at hl' hc
   obtain ⟨c0,rfl⟩:∃ c,cs' = [c]:=by
    match cs',hl' with
    | [c],_=>exact ⟨c,rfl⟩
   obtain ⟨b,rfl⟩:=Rc.bool_of t1
   have h2:=hc 0 (by omega)
   rw [add_add,Nat.mul_one,Nat.add_zero] at h2
   exact ⟨b,h2⟩
  have hsp:0 < len → ∃ k off,a = ⟨k,off,none⟩:=fun h0=>by
   obtain ⟨b,h2⟩:=one 0 h0
   rw [show a.add 0 = a by cases a; rfl] at h2
   exact Rl.spot h2
  have hall:∀ i,i < len → ∃ b:Bool,∀ k off,a = ⟨k,off,none⟩ → w.cell? ⟨k,off + i,none⟩ = some (.bool b):=fun i hi=>by
   obtain ⟨b,h2⟩:=one i hi
   refine ⟨b,fun k off e=>?_⟩
   subst e
   rw [show (⟨k,off,none⟩:Addr).add i = ⟨k,off + i,none⟩ by cases i <;> simp [Addr.add]] at h2
   exact h2
  refine ⟨(List.range len).map fun i=>if h:i < len then (hall i h).choose else false,⟨by simp; exact hlen,some a,m,by simp,by simp; exact hl,fun h0=>?_⟩⟩
  have h0':0 < len:=by simpa using h0
  obtain ⟨k,off,rfl⟩:=hsp h0'
  refine ⟨k,off,rfl,fun i hil=>?_⟩
  have hil':i < len:=by simpa using hil
  have e:((List.range len).map fun i=>if h:i < len then (hall i h).choose else false).getD i false = (hall i hil').choose:=by
   simp [hil']
  rw [e]
  have h2:=(hall i hil').choose_spec k off rfl
  show w.cell? ⟨k,off + 1 * i,none⟩ = _
  rw [Nat.one_mul]
  exact h2
end
end Sa
end Go.Proofs.YtmhpjjjjgakpiaaGreatDoor

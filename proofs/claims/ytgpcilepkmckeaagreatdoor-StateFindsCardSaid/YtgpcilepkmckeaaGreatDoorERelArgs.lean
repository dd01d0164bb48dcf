/-
What the rows of package relation list of variables: the variable signs of package version; the variable of the library that Cut names. Clauses, atoms, provides that came in.
-/
import Derived.Test.YtgpcilepkmckeaaGreatDoorRows
import Derived.Test.YtgpcilepkmckeaaGreatDoorEVerRefParse
import Derived.Shelf.Vars
import Derived.HandedShaped
import Derived.LaidLaws
import Derived.LaidMore
import Derived.Lib.LaidU8
import Derived.Test.YtgpcilepkmckeaaGreatDoorEReg
import Derived.Deep.SlicePairs
import Derived.SliceStrings
import Derived.SizedLaws
namespace Go.Proofs.YtgpcilepkmckeaaGreatDoor
open Go Go.Lib Go.RowKit
set_option maxRecDepth 100000
set_option linter.unusedSimpArgs false
namespace Rl
open Ver (MaxLen Signs)
def listed : List (String × DataW Unit) := [("chandler/version.signs", Rows.laid_chandler_version_signs)]
theorem maxLen_of {w:World} (h:w.ShapedOpen Tryz.prog):MaxLen w :=
 cell_of_shapedOpen_int (P:=Tryz.prog) (g:=0) (t:=3) (zero:=#[.int .i64 0]) (k:=.i64) h (by decide +kernel) (by kernel_rfl) rfl (by kernel_rfl) (by kernel_rfl) Tryz.underlying3
theorem signs_of_laid {W:World} (h:laidMetH Tryz.prog listed W):Signs W:=by
 intro i hi
 rw [MakeChecks.laidMetH_plain _ _ _ (by kernel_rfl)] at h
 obtain ⟨g,t,cs,fuel,p,hg,hty,hvar,hd⟩:=Lib.laidMet.reads h (.head _)
 have hgn : Tryz.prog.globalNamed "chandler/version.signs" = some 1 := by kernel_rfl
 have htn:(Tryz.prog.globals[1]?).map (·.type) = some 132:=by kernel_rfl
 obtain rfl:=Option.some.inj (hgn.symm.trans hg)
 obtain rfl:=Option.some.inj (htn.symm.trans hty)
 have hu:Tryz.prog.underlying 132 = some (.array 6 9):=by kernel_rfl
 have hc:Tryz.prog.cellsOf 9 = 1:=by kernel_rfl
 obtain ⟨fuel',d,q,hdi,he⟩:=Lib.array_elem hu hd i hi
 obtain ⟨s,hs1,hs2,_⟩:=DataW.trod_string (by kernel_rfl:Tryz.prog.underlying 9 = some .string) he
 rw [hc,Nat.mul_one] at hs1
 have hcell:cs.toList[i]? = some (.string s):=by
  have:=congrArg (·[0]?) hs1
  simpa [List.getElem?_take,List.getElem?_drop] using this
 rw [World.var?_cell hg hvar i,← Array.getElem?_toList,hcell]
 simp only [Prod.mk.injEq] at hs2
 obtain ⟨rfl,_⟩:=hs2
 have hS:∀ l:List UInt8,s.data.toList = l → s = ⟨l.toArray⟩:=fun l e=>by
  apply ByteArray.ext
  rw [← e]
 have hcase:i = 0 ∨ i = 1 ∨ i = 2 ∨ i = 3 ∨ i = 4 ∨ i = 5:=by omega
 rcases hcase with rfl | rfl | rfl | rfl | rfl | rfl
 all_goals
  simp only [Rows.laid_chandler_version_signs,List.getElem?_cons_zero,List.getElem?_cons_succ,Option.some.injEq,DataW.lit.injEq,Lit.string.injEq] at hdi
  rw [hS _ hdi.symm]
  rfl
theorem vars_of {W:World} (hL:laidMetH Tryz.prog listed W) (hSh:W.ShapedOpen Tryz.prog):Vars W:=⟨maxLen_of hSh,signs_of_laid hL⟩
end Rl
end Go.Proofs.YtgpcilepkmckeaaGreatDoor
namespace Go.Proofs.YtgpcilepkmckeaaGreatDoor
open Go.RowKit Go.ChangeShapes Go.WideShapes Go.Deep
set_option linter.unusedSimpArgs false
set_option linter.unusedVariables false
namespace Rl
open Ver (Bs S S_self)
section
variable {H:Type} {enc:TypeId × Value → H} {w:World}
theorem all_mem {P:Program} {e:TypeId}:∀ {l:List (DataW H)} {d:DataW H},d ∈ l → ∀ n ∈ d.weights P e,n ∈ DataW.weightsAll P e l
 | d0 :: r,d,hd,n,hn=>by
  simp only [DataW.weightsAll,List.mem_append]
  rcases List.mem_cons.1 hd with rfl | h
  ·exact .inl hn
  ·exact .inr (all_mem h n hn)
def Wt (t:TypeId) (d:DataW H):Prop:=∀ n ∈ d.weights Tryz.prog t,n ≤ reachBytes
theorem Wt.elem {t e:TypeId} {elems spare:List (DataW H)} (h:Wt t (.slice elems spare)) (hu:Tryz.prog.underlying t = some (.slice e)) {d:DataW H} (hd:d ∈ elems):Wt e d:=fun n hn=>h n (by
 simp only [DataW.weights,hu,List.mem_cons,List.mem_append]
 exact .inr (.inl (all_mem hd n hn)))
theorem Wt.row {t e:TypeId} {elems spare:List (DataW H)} (h:Wt t (.slice elems spare)) (hu:Tryz.prog.underlying t = some (.slice e)):(elems.length + spare.length) * Tryz.prog.bytesOf e ≤ reachBytes:=h _ (by
 simp only [DataW.weights,hu,List.mem_cons]
 exact .inl trivial)
theorem spot {a:Addr} {u:Value} (h:w.cell? a = some u):∃ b off,a = ⟨b,off,none⟩:=by
 obtain ⟨b,off,part⟩:=a
 have hp:part = none:=World.cell?_spot h
 subst hp
 exact ⟨b,off,rfl⟩
theorem string_of {n:Nat} {v:Value} {d:DataW H} {ps:List MemPlace} (h:DataW.trod enc Tryz.prog w 0 (fun _=>true) true n 9 [v] = some (d,ps)) (hw:Wt 9 d) :
  ∃ x:Bs,v = .string (S x) ∧ x.length ≤ 140737488351232:=by
 obtain ⟨s',hv,hx,_⟩:=DataW.trod_string Tryz.underlying9 h
 obtain rfl:v = .string s':=by simpa using hv
 simp only [Prod.mk.injEq] at hx
 obtain ⟨rfl,_⟩:=hx
 refine ⟨s'.data.toList,by rw [S_self],?_⟩
 have:=hw s'.data.toList.length (by simp [DataW.weights])
 unfold reachBytes at this
 exact this
theorem int_of {n:Nat} {v:Value} {y:DataW H × List MemPlace} (h:DataW.trod enc Tryz.prog w 0 (fun _=>true) true n 3 [v] = some y):∃ k:Int,v = .int .i64 k:=by
 obtain ⟨k,hv,_⟩:=DataW.trod_int Tryz.underlying3 h
 exact ⟨k,by simpa using hv⟩
theorem mul_bound {x y b:Nat} (h:(x + y) * b ≤ reachBytes) (hb:8 ≤ b):x ≤ 1152921504606846976:=by
 unfold reachBytes at h
 have:x * 8 ≤ (x + y) * b:=Nat.mul_le_mul (by omega) hb
 omega
theorem slc_of {α:Type} (sz:Nat) (z:α) (P:World → Nat → Nat → α → Prop) (Q:α → Prop) {t e:TypeId} (ht:Tryz.prog.underlying t = some (.slice e)) (ce:Tryz.prog.cellsOf e = sz) (h0:0 < sz) (hb:8 ≤ Tryz.prog.bytesOf e)
  (hE:∀ n k o cs d ps,DataW.trod enc Tryz.prog w 0 (fun _=>true) true n e cs = some (d,ps) → cs.length = sz → (∀ j,j < sz → w.cell? ⟨k,o + j,none⟩ = cs[j]?) → Wt e d → ∃ x,P w k o x ∧ Q x)
  {n:Nat} {v:Value} {d:DataW H} {ps:List MemPlace} (h:DataW.trod enc Tryz.prog w 0 (fun _=>true) true n t [v] = some (d,ps)) (hw:Wt t d) :
  ∃ l:List α,Slc sz z P w v l ∧ ∀ x ∈ l,Q x:=by
 rcases open_slice ht h with ⟨hcs,_⟩ | ⟨a,len,cap,m,n',D,Pl,hcs,_,hl,hm,hmm,hx,hat⟩
 ·obtain rfl:v = .slice none 0 0:=by simpa using hcs
  exact ⟨[],Slc.none _ _ _ w,by simp⟩
 ·obtain rfl:v = .slice (some a) len cap:=by simpa using hcs
  simp only [Prod.mk.injEq] at hx
  obtain ⟨rfl,_⟩:=hx
  simp only [if_true] at hmm
  subst hmm
  have hrow:=hw.row ht
  rw [List.length_map,List.length_range] at hrow
  have hlen:=mul_bound hrow hb
  have hsp:0 < len → ∃ b off,a = ⟨b,off,none⟩:=fun hi=>by
   obtain ⟨cs',h1,_⟩:=hat 0 (by omega)
   obtain ⟨_,hl',hc⟩:=World.cells?_some h1
   rw [ce] at hl' hc
   have h2:=hc 0 h0
   rw [add_add,Nat.zero_mul,show a.add (0 + 0) = a by cases a; rfl] at h2
   obtain ⟨u,hu⟩:∃ u,cs'[0]? = some u:=⟨cs'[0]'(by omega),List.getElem?_eq_getElem _⟩
   rw [hu] at h2
   exact spot h2
  have hall:∀ i,i < len → ∃ x:α,(∀ b off,a = ⟨b,off,none⟩ → P w b (off + sz * i) x) ∧ Q x:=fun i hi=>by
   obtain ⟨cs',h1,t1⟩:=hat i (by omega)
   obtain ⟨_,hl',hc⟩:=World.cells?_some h1
   rw [ce] at hl' hc
   obtain ⟨b,off,rfl⟩:=hsp (by omega)
   have he:Wt e (D i):=hw.elem ht (List.mem_map.2 ⟨i,by simpa using hi,rfl⟩)
   obtain ⟨x,hx1,hx2⟩:=hE _ b (off + sz * i) cs' (D i) (Pl i) t1 hl' (fun j hj=>by
    have:=hc j hj
    rw [Addr.add_mid,Addr.add_mid,Nat.mul_comm i sz] at this
    exact this) he
   exact ⟨x,fun b' off' e'=>by cases e'; exact hx1,hx2⟩
  refine ⟨(List.range len).map fun i=>if h:i < len then (hall i h).choose else z,⟨by simp; exact hlen,some a,m,by simp,by simp; exact hl,fun h0=>?_⟩,?_⟩
  ·have h0':0 < len:=by simpa using h0
   obtain ⟨b,off,rfl⟩:=hsp h0'
   refine ⟨b,off,rfl,fun i hil=>?_⟩
   have hil':i < len:=by simpa using hil
   have e:((List.range len).map fun i=>if h:i < len then (hall i h).choose else z).getD i z = (hall i hil').choose:=by
    simp [hil']
   rw [e]
   exact (hall i hil').choose_spec.1 b off rfl
  ·intro f hf
   obtain ⟨i,hi,rfl⟩:=List.mem_map.1 hf
   have hi':i < len:=by simpa using hi
   simp only [hi',dite_true]
   exact (hall i hi').choose_spec.2
theorem three {α:Type}:∀ {l:List α},l.length = 3 → ∃ x y z,l = [x,y,z]
 | [x,y,z],_=>⟨x,y,z,rfl⟩
theorem two {α:Type}:∀ {l:List α},l.length = 2 → ∃ x y,l = [x,y]
 | [x,y],_=>⟨x,y,rfl⟩
theorem at_of {n k o:Nat} {cs:List Value} {d:DataW H} {ps:List MemPlace} (h:DataW.trod enc Tryz.prog w 0 (fun _=>true) true n 56 cs = some (d,ps)) (hl:cs.length = 3) (hc:∀ j,j < 3 → w.cell? ⟨k,o + j,none⟩ = cs[j]?) (hw:Wt 56 d) :
  ∃ a:At,AtAt w k o a ∧ (a.1.length ≤ 140737488351232 ∧ a.2.2.length ≤ 140737488351232):=by
 obtain ⟨xs,m,_,hx,_,hxl,hf⟩:=DataW.trod_struct Tryz.underlying56 h
 obtain ⟨v0,v1,v2,rfl⟩:=three hl
 obtain ⟨y0,y1,y2,rfl⟩:=three hxl
 have cT:Tryz.prog.cellsOf 9 = 1:=by kernel_rfl
 have cI:Tryz.prog.cellsOf 3 = 1:=by kernel_rfl
 have g0:=hf 0 _ rfl
 have g1:=hf 1 _ rfl
 have g2:=hf 2 _ rfl
 simp [cT,cI] at g0 g1 g2
 simp only [Prod.mk.injEq] at hx
 obtain ⟨rfl,_⟩:=hx
 obtain ⟨x,hx,hxs⟩:=string_of (d:=y0.1) (ps:=y0.2) g0 (fun q hq=>hw q (by simp [DataW.weights,Tryz.underlying56,DataW.weightsEach,hq]))
 obtain ⟨r,hr⟩:=int_of (y:=y1) g1
 obtain ⟨y,hy,hys⟩:=string_of (d:=y2.1) (ps:=y2.2) g2 (fun q hq=>hw q (by simp [DataW.weights,Tryz.underlying56,DataW.weightsEach,hq]))
 subst hx hr hy
 exact ⟨(x,r,y),⟨hc 0 (by omega),hc 1 (by omega),hc 2 (by omega)⟩,hxs,hys⟩
theorem pv_of {n k o:Nat} {cs:List Value} {d:DataW H} {ps:List MemPlace} (h:DataW.trod enc Tryz.prog w 0 (fun _=>true) true n 85 cs = some (d,ps)) (hl:cs.length = 2) (hc:∀ j,j < 2 → w.cell? ⟨k,o + j,none⟩ = cs[j]?) (hw:Wt 85 d) :
  ∃ a:Pv,PvAt w k o a ∧ (a.1.length ≤ 140737488351232 ∧ a.2.length ≤ 140737488351232):=by
 obtain ⟨xs,m,_,hx,_,hxl,hf⟩:=DataW.trod_struct Tryz.underlying85 h
 obtain ⟨v0,v1,rfl⟩:=two hl
 obtain ⟨y0,y1,rfl⟩:=two hxl
 have cT:Tryz.prog.cellsOf 9 = 1:=by kernel_rfl
 have g0:=hf 0 _ rfl
 have g1:=hf 1 _ rfl
 simp [cT] at g0 g1
 simp only [Prod.mk.injEq] at hx
 obtain ⟨rfl,_⟩:=hx
 obtain ⟨x,hx,hxs⟩:=string_of (d:=y0.1) (ps:=y0.2) g0 (fun q hq=>hw q (by simp [DataW.weights,Tryz.underlying85,DataW.weightsEach,hq]))
 obtain ⟨y,hy,hys⟩:=string_of (d:=y1.1) (ps:=y1.2) g1 (fun q hq=>hw q (by simp [DataW.weights,Tryz.underlying85,DataW.weightsEach,hq]))
 subst hx hy
 exact ⟨(x,y),⟨hc 0 (by omega),hc 1 (by omega)⟩,hxs,hys⟩
theorem ats_of {t:TypeId} (ht:Tryz.prog.underlying t = some (.slice 56)) {n:Nat} {v:Value} {d:DataW H} {ps:List MemPlace} (h:DataW.trod enc Tryz.prog w 0 (fun _=>true) true n t [v] = some (d,ps)) (hw:Wt t d) :
  ∃ l,Ats w v l ∧ LimA l :=
 slc_of 3 nA AtAt (fun a=>a.1.length ≤ 140737488351232 ∧ a.2.2.length ≤ 140737488351232) ht (by kernel_rfl) (by omega) (by decide +kernel) (fun n k o cs d ps h hl hc hw=>at_of h hl hc hw) h hw
theorem pvs_of {t:TypeId} (ht:Tryz.prog.underlying t = some (.slice 85)) {n:Nat} {v:Value} {d:DataW H} {ps:List MemPlace} (h:DataW.trod enc Tryz.prog w 0 (fun _=>true) true n t [v] = some (d,ps)) (hw:Wt t d) :
  ∃ l,Pvs w v l ∧ LimP l :=
 slc_of 2 nP PvAt (fun a=>a.1.length ≤ 140737488351232 ∧ a.2.length ≤ 140737488351232) ht (by kernel_rfl) (by omega) (by decide +kernel) (fun n k o cs d ps h hl hc hw=>pv_of h hl hc hw) h hw
theorem clss_of {t:TypeId} (ht:Tryz.prog.underlying t = some (.slice 50)) {n:Nat} {v:Value} {d:DataW H} {ps:List MemPlace} (h:DataW.trod enc Tryz.prog w 0 (fun _=>true) true n t [v] = some (d,ps)) (hw:Wt t d) :
  ∃ l,Clss w v l ∧ LimC l :=
 slc_of 1 [] ClAt (fun c=>LimA c) ht (by kernel_rfl) (by omega) (by decide +kernel) (fun n k o cs d ps h hl hc hw=>by
  obtain ⟨u,rfl⟩:∃ u,cs = [u]:=by
   match cs,hl with
   | [x],_=>exact ⟨x,rfl⟩
  obtain ⟨l,h1,h2⟩:=ats_of Tryz.underlying50 h hw
  exact ⟨l,⟨u,hc 0 (by omega),h1⟩,h2⟩) h hw
end
theorem wt_at {H:Type} {ts:List TypeId} {ds:List (DataW H)} (h:(DataW.weightsEach Tryz.prog ts ds).all (· ≤ reachBytes) = true) (j:Nat) {t:TypeId} {d:DataW H} (h1:ts[j]? = some t) (h2:ds[j]? = some d):Wt t d:=fun n hn=>by
 have:=List.all_eq_true.1 h _ (DataW.weights_mem_each (j:=j) h1 h2 n hn)
 simpa using this
end Rl
end Go.Proofs.YtgpcilepkmckeaaGreatDoor

/-
What every program must know of an index: the law's awake. The law IndexNil. What the rows of package relation list of variables: the variable signs of package version; the variable of the library that Cut names. Clauses, atoms, provides that came in.
-/
import Derived.Test.YtelofmeapplfpaaGreatDoorAIxAwM
import Derived.Test.YtelofmeapplfpaaGreatDoorAIxNew
import Derived.Test.YtelofmeapplfpaaGreatDoorRows
import Derived.Test.YtelofmeapplfpaaGreatDoorAVerRefParse
import Derived.Shelf.Vars
import Derived.HandedShaped
import Derived.LaidLaws
import Derived.LaidMore
import Derived.Lib.LaidU8
import Derived.Test.YtelofmeapplfpaaGreatDoorARelJoin
import Derived.Deep.SlicePairs
import Derived.SliceStrings
import Derived.SizedLaws
namespace Go.Proofs.YtelofmeapplfpaaGreatDoor
open Go.RowKit
set_option linter.unusedSimpArgs false
set_option linter.unusedVariables false
namespace Ix
open Ver (Bs S)
open Rl (At Pv Vars aV)
open Rc (Pk nPk mayAll Pks)
set_option maxRecDepth 100000 in
set_option maxHeartbeats 4000000 in
theorem awake_any (w:World) (hv:Vars w) :
  Calls Tryz.prog 15 #[] w fun e w'=>e = .returned (.bool true) ∧ Below w.heap.size w w':=by
 obtain ⟨W1,W,hW1,hW,hs1,hbW,hpk⟩:=aw_row w
 have ca:=new_yes _ _ W hpk aw_lim (hv.on hbW) aw_may
 have HV:=Lib.hid hv
 have HBW:=Lib.hid hbW
 have CA:=Lib.hid ca
 obtain ⟨b,hb⟩:∃ b,w.heap.size = b:=⟨_,rfl⟩
 rw [hb] at hs1 CA hW
 clear hbW hpk ca hv
 have hrw:awR b = #[.string ⟨#[97,97]⟩,.string ⟨#[49]⟩,.slice none 0 0,.slice none 0 0,.slice none 0 0,.slice none 0 0,.slice none 0 0,.slice none 0 0,.bool false,.string ⟨#[98,98]⟩,.string ⟨#[49]⟩,.slice none 0 0,.slice none 0 0,.slice none 0 0,.slice none 0 0,.slice none 0 0,.slice (some ⟨b,0,none⟩) 1 1,.bool false,.string ⟨#[97,97]⟩,.string ⟨#[50]⟩,.slice none 0 0,.slice none 0 0,.slice none 0 0,.slice none 0 0,.slice none 0 0,.slice none 0 0,.bool false]:=rfl
 rw [hrw] at hW
 have e1:(S [97,97]) = (⟨#[97,97]⟩:ByteArray):=rfl
 have e2:(S [51]) = (⟨#[51]⟩:ByteArray):=rfl
 rw [e1,e2] at hW1
 clear hrw e1 e2
 go_enter Tryz.func15,Tryz.ntmps15
 go_wp2_with fail
 refine CA.out.mono ?_
 rintro e w1 ⟨pb,xs,rfl,hso,hix,k1⟩
 have hxs:=aw_one hso
 subst hxs
 have hb1:=HBW.out.trans (k1.mono HBW.out.size)
 have cm:=meets_any pb _ awA w1 hix (fun x hx=>aw_lim x (hso.1.mem_iff.1 hx)) (by decide) ⟨by decide,by decide⟩ (HV.out.on hb1)
 rw [aw_mt] at cm
 have e3:aV awA = .agg #[.string ⟨#[97,97]⟩,.int .i64 4,.string ⟨#[50]⟩]:=rfl
 rw [e3] at cm
 have HB1:=Lib.hid hb1
 clear e3 hix hso k1 hb1 hs1 hW hW1 CA HBW
 go_wp2_with fail
 refine cm.mono ?_
 rintro e w2 ⟨v,rfl,ho,k2⟩
 have hb2:=HB1.out.trans (k2.mono HB1.out.size)
 obtain ⟨ra,rc,rfl,_⟩:=Rl.own_slice ho (by decide)
 have y0:w2.cell? ⟨ra,0,none⟩ = some (.int .i64 0):=Rl.own_cell ho (i:=0) rfl
 have y1:w2.cell? ⟨ra,1,none⟩ = some (.int .i64 2):=Rl.own_cell ho (i:=1) rfl
 have HB2:=Lib.hid hb2
 clear cm ho k2 hb2
 have hl:([0,2]:List Nat).length = 2:=rfl
 rw [hl]
 clear hl
 go_wp2_with fail
 go_ret
 exact ⟨rfl,HB2.out⟩
end Ix
end Go.Proofs.YtelofmeapplfpaaGreatDoor
namespace Go.Proofs.YtelofmeapplfpaaGreatDoor
open Go.RowKit
set_option linter.unusedSimpArgs false
set_option linter.unusedVariables false
namespace Ix
open Ver (Bs S)
open Rl (At aV Vars)
set_option maxRecDepth 100000 in
set_option maxHeartbeats 4000000 in
theorem nil_walk (i:Int) (s:ByteArray) (a:At) (w:World) (hv:Vars w) :
  Calls Tryz.prog 5 #[.int .i64 i,.string s,aV a] w fun e w'=>e = .returned (.bool true) ∧ Below w.heap.size w w':=by
 have hb1:=(Below.refl w.heap.size w).alloc (Nat.le_refl _) (.cells #[.string (S a.1),.int .i64 a.2.1,.string (S a.2.2)] 28)
 have i1:=Blk.Is.new w 28 #[.string (S a.1),.int .i64 a.2.1,.string (S a.2.2)]
 obtain ⟨W,hW⟩:∃ W,w.alloc (.cells #[.string (S a.1),.int .i64 a.2.1,.string (S a.2.2)] 28) = W:=⟨_,rfl⟩
 rw [hW] at hb1 i1
 have ca:=at_nil i W
 have cm:=fun w=>meets_nil a w
 unfold aV at *
 have CM:=Lib.hid cm
 have HV:=Lib.hid hv
 have HB:=Lib.hid hb1
 have HI:=Lib.hid i1
 unfold pkZ at ca
 clear hb1 i1 hv cm
 go_enter Tryz.func5,Tryz.ntmps5
 go_wp2_with fail
 clear hW
 refine ca.mono ?_
 rintro e w1 ⟨rfl,k1⟩
 have hb1:=HB.out.trans (k1.mono HB.out.size)
 have j1:=Rl.is_on HI.out k1
 have hb2:=hb1.alloc hb1.size (.cells #[.string ⟨#[]⟩,.string ⟨#[]⟩,.slice none 0 0,.slice none 0 0,.slice none 0 0,.slice none 0 0,.slice none 0 0,.slice none 0 0,.bool false] 26)
 have j2:=j1.alloc (.cells #[.string ⟨#[]⟩,.string ⟨#[]⟩,.slice none 0 0,.slice none 0 0,.slice none 0 0,.slice none 0 0,.slice none 0 0,.slice none 0 0,.bool false] 26)
 obtain ⟨W2,hW2⟩:∃ W2,w1.alloc (.cells #[.string ⟨#[]⟩,.string ⟨#[]⟩,.slice none 0 0,.slice none 0 0,.slice none 0 0,.slice none 0 0,.slice none 0 0,.slice none 0 0,.bool false] 26) = W2:=⟨_,rfl⟩
 rw [hW2] at hb2 j2
 have HB2:=Lib.hid hb2
 have HJ2:=Lib.hid j2
 have HW2:=Lib.hid hW2
 have cf:=find_nil s s W2
 clear ca k1 hb1 j1 hb2 j2 hW2 HB HI
 go_wp2_with fail
 rw [HW2.out]
 refine cf.mono ?_
 rintro e w3 ⟨rfl,k3⟩
 have HB3:=Lib.hid (HB2.out.trans (k3.mono HB2.out.size))
 have HJ3:=Lib.hid (Rl.is_on HJ2.out k3)
 have cl:=len_nil w3
 clear cf k3 HB2 HJ2 HW2
 go_wp2_with fail
 refine cl.mono ?_
 rintro e w4 ⟨rfl,k4⟩
 have HB4:=Lib.hid (HB3.out.trans (k4.mono HB3.out.size))
 have HJ4:=Lib.hid (Rl.is_on HJ3.out k4)
 have cn:=names_nil w4
 clear cl k4 HB3 HJ3
 go_wp2_with fail
 refine cn.mono ?_
 rintro e w5 ⟨rfl,k5⟩
 have HB5:=Lib.hid (HB4.out.trans (k5.mono HB4.out.size))
 have HJ5:=Lib.hid (Rl.is_on HJ4.out k5)
 have co:=of_nil s w5
 clear cn k5 HB4 HJ4
 go_wp2_with fail
 refine co.mono ?_
 rintro e w6 ⟨rfl,k6⟩
 have HB6:=Lib.hid (HB5.out.trans (k6.mono HB5.out.size))
 have j6:=Rl.is_on HJ5.out k6
 have d0:=j6.at (i:=0) rfl
 have d1:=j6.at (i:=1) rfl
 have d2:=j6.at (i:=2) rfl
 have cm:=CM.out w6
 clear co k6 j6 HB5 HJ5
 go_wp2_with fail
 refine cm.mono ?_
 rintro e w7 ⟨rfl,k7⟩
 have HB7:=Lib.hid (HB6.out.trans (k7.mono HB6.out.size))
 have cw:=awake_any w7 (HV.out.on HB7.out)
 clear cm k7 HB6 d0 d1 d2
 go_wp2_with fail
 refine cw.mono ?_
 rintro e w8 ⟨rfl,k8⟩
 have hb8:=HB7.out.trans (k8.mono HB7.out.size)
 clear cw
 go_wp2_with fail
 go_ret
 exact ⟨rfl,hb8⟩
end Ix
end Go.Proofs.YtelofmeapplfpaaGreatDoor
namespace Go.Proofs.YtelofmeapplfpaaGreatDoor
open Go Go.Lib Go.RowKit
set_option maxRecDepth 100000
set_option linter.unusedSimpArgs false
namespace Rl
open Ver (MaxLen Signs)
def listed : List (String × DataW Unit) := [("chandler/version.signs", Rows.laid_chandler_version_signs)]
theorem maxLen_of {w:World} (h:w.ShapedOpen Tryz.prog):MaxLen w :=
 cell_of_shapedOpen_int (P:=Tryz.prog) (g:=1) (t:=3) (zero:=#[.int .i64 0]) (k:=.i64) h (by decide +kernel) (by kernel_rfl) rfl (by kernel_rfl) (by kernel_rfl) Tryz.underlying3
theorem signs_of_laid {W:World} (h:laidMetH Tryz.prog listed W):Signs W:=by
 intro i hi
 rw [MakeChecks.laidMetH_plain _ _ _ (by kernel_rfl)] at h
 obtain ⟨g,t,cs,fuel,p,hg,hty,hvar,hd⟩:=Lib.laidMet.reads h (.head _)
 have hgn : Tryz.prog.globalNamed "chandler/version.signs" = some 0 := by kernel_rfl
 have htn:(Tryz.prog.globals[0]?).map (·.type) = some 121:=by kernel_rfl
 obtain rfl:=Option.some.inj (hgn.symm.trans hg)
 obtain rfl:=Option.some.inj (htn.symm.trans hty)
 have hu:Tryz.prog.underlying 121 = some (.array 6 9):=by kernel_rfl
 have hc:Tryz.prog.cellsOf 9 = 1:=by kernel_rfl
 obtain ⟨fuel',d,q,hdi,he⟩:=Lib.array_elem hu hd i hi
 obtain ⟨s,hs1,hs2,_⟩:=DataW.trod_string (by kernel_rfl:Tryz.prog.underlying 9 = some .string) he
 rw [hc,Nat.mul_one] at hs1
 have hcell:cs.toList[i]? = some (.string s):=by
  have:=congrArg (·[0]?) hs1
  simpa [List.getElem?_take,List.getElem?_drop] using this
 rw [World.var?_cell hg hvar i,← Array.getElem?_toList,hcell]
 simp only [Prod.mk.injEq] at hs2
 obtain ⟨rfl,_⟩:=hs2
 have hS:∀ l:List UInt8,s.data.toList = l → s = ⟨l.toArray⟩:=fun l e=>by
  apply ByteArray.ext
  rw [← e]
 have hcase:i = 0 ∨ i = 1 ∨ i = 2 ∨ i = 3 ∨ i = 4 ∨ i = 5:=by omega
 rcases hcase with rfl | rfl | rfl | rfl | rfl | rfl
 all_goals
  simp only [Rows.laid_chandler_version_signs,List.getElem?_cons_zero,List.getElem?_cons_succ,Option.some.injEq,DataW.lit.injEq,Lit.string.injEq] at hdi
  rw [hS _ hdi.symm]
  rfl
theorem vars_of {W:World} (hL:laidMetH Tryz.prog listed W) (hSh:W.ShapedOpen Tryz.prog):Vars W:=⟨maxLen_of hSh,signs_of_laid hL⟩
end Rl
end Go.Proofs.YtelofmeapplfpaaGreatDoor
namespace Go.Proofs.YtelofmeapplfpaaGreatDoor
open Go.RowKit Go.ChangeShapes Go.WideShapes Go.Deep
set_option linter.unusedSimpArgs false
set_option linter.unusedVariables false
namespace Rl
open Ver (Bs S S_self)
section
variable {H:Type} {enc:TypeId × Value → H} {w:World}
theorem all_mem {P:Program} {e:TypeId}:∀ {l:List (DataW H)} {d:DataW H},d ∈ l → ∀ n ∈ d.weights P e,n ∈ DataW.weightsAll P e l
 | d0 :: r,d,hd,n,hn=>by
  simp only [DataW.weightsAll,List.mem_append]
  rcases List.mem_cons.1 hd with rfl | h
  ·exact .inl hn
  ·exact .inr (all_mem h n hn)
def Wt (t:TypeId) (d:DataW H):Prop:=∀ n ∈ d.weights Tryz.prog t,n ≤ reachBytes
theorem Wt.elem {t e:TypeId} {elems spare:List (DataW H)} (h:Wt t (.slice elems spare)) (hu:Tryz.prog.underlying t = some (.slice e)) {d:DataW H} (hd:d ∈ elems):Wt e d:=fun n hn=>h n (by
 simp only [DataW.weights,hu,List.mem_cons,List.mem_append]
 exact .inr (.inl (all_mem hd n hn)))
theorem Wt.row {t e:TypeId} {elems spare:List (DataW H)} (h:Wt t (.slice elems spare)) (hu:Tryz.prog.underlying t = some (.slice e)):(elems.length + spare.length) * Tryz.prog.bytesOf e ≤ reachBytes:=h _ (by
 simp only [DataW.weights,hu,List.mem_cons]
 exact .inl trivial)
theorem spot {a:Addr} {u:Value} (h:w.cell? a = some u):∃ b off,a = ⟨b,off,none⟩:=by
 obtain ⟨b,off,part⟩:=a
 have hp:part = none:=World.cell?_spot h
 subst hp
 exact ⟨b,off,rfl⟩
theorem string_of {n:Nat} {v:Value} {d:DataW H} {ps:List MemPlace} (h:DataW.trod enc Tryz.prog w 0 (fun _=>true) true n 9 [v] = some (d,ps)) (hw:Wt 9 d) :
  ∃ x:Bs,v = .string (S x) ∧ x.length ≤ 140737488351232:=by
 obtain ⟨s',hv,hx,_⟩:=DataW.trod_string Tryz.underlying9 h
 obtain rfl:v = .string s':=by simpa using hv
 simp only [Prod.mk.injEq] at hx
 obtain ⟨rfl,_⟩:=hx
 refine ⟨s'.data.toList,by rw [S_self],?_⟩
 have:=hw s'.data.toList.length (by simp [DataW.weights])
 unfold reachBytes at this
 exact this
theorem int_of {n:Nat} {v:Value} {y:DataW H × List MemPlace} (h:DataW.trod enc Tryz.prog w 0 (fun _=>true) true n 3 [v] = some y):∃ k:Int,v = .int .i64 k:=by
 obtain ⟨k,hv,_⟩:=DataW.trod_int Tryz.underlying3 h
 exact ⟨k,by simpa using hv⟩
theorem mul_bound {x y b:Nat} (h:(x + y) * b ≤ reachBytes) (hb:8 ≤ b):x ≤ 1152921504606846976:=by
 unfold reachBytes at h
 have:x * 8 ≤ (x + y) * b:=Nat.mul_le_mul (by omega) hb
 omega
theorem slc_of {α:Type} (sz:Nat) (z:α) (P:World → Nat → Nat → α → Prop) (Q:α → Prop) {t e:TypeId} (ht:Tryz.prog.underlying t = some (.slice e)) (ce:Tryz.prog.cellsOf e = sz) (h0:0 < sz) (hb:8 ≤ Tryz.prog.bytesOf e)
  (hE:∀ n k o cs d ps,DataW.trod enc Tryz.prog w 0 (fun _=>true) true n e cs = some (d,ps) → cs.length = sz → (∀ j,j < sz → w.cell? ⟨k,o + j,none⟩ = cs[j]?) → Wt e d → ∃ x,P w k o x ∧ Q x)
  {n:Nat} {v:Value} {d:DataW H} {ps:List MemPlace} (h:DataW.trod enc Tryz.prog w 0 (fun _=>true) true n t [v] = some (d,ps)) (hw:Wt t d) :
  ∃ l:List α,Slc sz z P w v l ∧ ∀ x ∈ l,Q x:=by
 rcases open_slice ht h with ⟨hcs,_⟩ | ⟨a,len,cap,m,n',D,Pl,hcs,_,hl,hm,hmm,hx,hat⟩
 ·obtain rfl:v = .slice none 0 0:=by simpa using hcs
  exact ⟨[],Slc.none _ _ _ w,by simp⟩
 ·obtain rfl:v = .slice (some a) len cap:=by simpa using hcs
  simp only [Prod.mk.injEq] at hx
  obtain ⟨rfl,_⟩:=hx
  simp only [if_true] at hmm
  subst hmm
  have hrow:=hw.row ht
  rw [List.length_map,List.length_range] at hrow
  have hlen:=mul_bound hrow hb
  have hsp:0 < len → ∃ b off,a = ⟨b,off,none⟩:=fun hi=>by
   obtain ⟨cs',h1,_⟩:=hat 0 (by omega)
   obtain ⟨_,hl',hc⟩:=World.cells?_some h1
   rw [ce] at hl' hc
   have h2:=hc 0 h0
   rw [add_add,Nat.zero_mul,show a.add (0 + 0) = a by cases a; rfl] at h2
   obtain ⟨u,hu⟩:∃ u,cs'[0]? = some u:=⟨cs'[0]'(by omega),List.getElem?_eq_getElem _⟩
   rw [hu] at h2
   exact spot h2
  have hall:∀ i,i < len → ∃ x:α,(∀ b off,a = ⟨b,off,none⟩ → P w b (off + sz * i) x) ∧ Q x:=fun i hi=>by
   obtain ⟨cs',h1,t1⟩:=hat i (by omega)
   obtain ⟨_,hl',hc⟩:=World.cells?_some h1
   rw [ce] at hl' hc
   obtain ⟨b,off,rfl⟩:=hsp (by omega)
   have he:Wt e (D i):=hw.elem ht (List.mem_map.2 ⟨i,by simpa using hi,rfl⟩)
   obtain ⟨x,hx1,hx2⟩:=hE _ b (off + sz * i) cs' (D i) (Pl i) t1 hl' (fun j hj=>by
    have:=hc j hj
    rw [Addr.add_mid,Addr.add_mid,Nat.mul_comm i sz] at this
    exact this) he
   exact ⟨x,fun b' off' e'=>by cases e'; exact hx1,hx2⟩
  refine ⟨(List.range len).map fun i=>if h:i < len then (hall i h).choose else z,⟨by simp; exact hlen,some a,m,by simp,by simp; exact hl,fun h0=>?_⟩,?_⟩
  ·have h0':0 < len:=by simpa using h0
   obtain ⟨b,off,rfl⟩:=hsp h0'
   refine ⟨b,off,rfl,fun i hil=>?_⟩
   have hil':i < len:=by simpa using hil
   have e:((List.range len).map fun i=>if h:i < len then (hall i h).choose else z).getD i z = (hall i hil').choose:=by
    simp [hil']
   rw [e]
   exact (hall i hil').choose_spec.1 b off rfl
  ·intro f hf
   obtain ⟨i,hi,rfl⟩:=List.mem_map.1 hf
   have hi':i < len:=by simpa using hi
   simp only [hi',dite_true]
   exact (hall i hi').choose_spec.2
theorem three {α:Type}:∀ {l:List α},l.length = 3 → ∃ x y z,l = [x,y,z]
 | [x,y,z],_=>⟨x,y,z,rfl⟩
theorem two {α:Type}:∀ {l:List α},l.length = 2 → ∃ x y,l = [x,y]
 | [x,y],_=>⟨x,y,rfl⟩
theorem at_of {n k o:Nat} {cs:List Value} {d:DataW H} {ps:List MemPlace} (h:DataW.trod enc Tryz.prog w 0 (fun _=>true) true n 28 cs = some (d,ps)) (hl:cs.length = 3) (hc:∀ j,j < 3 → w.cell? ⟨k,o + j,none⟩ = cs[j]?) (hw:Wt 28 d) :
  ∃ a:At,AtAt w k o a ∧ (a.1.length ≤ 140737488351232 ∧ a.2.2.length ≤ 140737488351232):=by
 obtain ⟨xs,m,_,hx,_,hxl,hf⟩:=DataW.trod_struct Tryz.underlying28 h
 obtain ⟨v0,v1,v2,rfl⟩:=three hl
 obtain ⟨y0,y1,y2,rfl⟩:=three hxl
 have cT:Tryz.prog.cellsOf 9 = 1:=by kernel_rfl
 have cI:Tryz.prog.cellsOf 3 = 1:=by kernel_rfl
 have g0:=hf 0 _ rfl
 have g1:=hf 1 _ rfl
 have g2:=hf 2 _ rfl
 simp [cT,cI] at g0 g1 g2
 simp only [Prod.mk.injEq] at hx
 obtain ⟨rfl,_⟩:=hx
 obtain ⟨x,hx,hxs⟩:=string_of (d:=y0.1) (ps:=y0.2) g0 (fun q hq=>hw q (by simp [DataW.weights,Tryz.underlying28,DataW.weightsEach,hq]))
 obtain ⟨r,hr⟩:=int_of (y:=y1) g1
 obtain ⟨y,hy,hys⟩:=string_of (d:=y2.1) (ps:=y2.2) g2 (fun q hq=>hw q (by simp [DataW.weights,Tryz.underlying28,DataW.weightsEach,hq]))
 subst hx hr hy
 exact ⟨(x,r,y),⟨hc 0 (by omega),hc 1 (by omega),hc 2 (by omega)⟩,hxs,hys⟩
theorem pv_of {n k o:Nat} {cs:List Value} {d:DataW H} {ps:List MemPlace} (h:DataW.trod enc Tryz.prog w 0 (fun _=>true) true n 63 cs = some (d,ps)) (hl:cs.length = 2) (hc:∀ j,j < 2 → w.cell? ⟨k,o + j,none⟩ = cs[j]?) (hw:Wt 63 d) :
  ∃ a:Pv,PvAt w k o a ∧ (a.1.length ≤ 140737488351232 ∧ a.2.length ≤ 140737488351232):=by
 obtain ⟨xs,m,_,hx,_,hxl,hf⟩:=DataW.trod_struct Tryz.underlying63 h
 obtain ⟨v0,v1,rfl⟩:=two hl
 obtain ⟨y0,y1,rfl⟩:=two hxl
 have cT:Tryz.prog.cellsOf 9 = 1:=by kernel_rfl
 have g0:=hf 0 _ rfl
 have g1:=hf 1 _ rfl
 simp [cT] at g0 g1
 simp only [Prod.mk.injEq] at hx
 obtain ⟨rfl,_⟩:=hx
 obtain ⟨x,hx,hxs⟩:=string_of (d:=y0.1) (ps:=y0.2) g0 (fun q hq=>hw q (by simp [DataW.weights,Tryz.underlying63,DataW.weightsEach,hq]))
 obtain ⟨y,hy,hys⟩:=string_of (d:=y1.1) (ps:=y1.2) g1 (fun q hq=>hw q (by simp [DataW.weights,Tryz.underlying63,DataW.weightsEach,hq]))
 subst hx hy
 exact ⟨(x,y),⟨hc 0 (by omega),hc 1 (by omega)⟩,hxs,hys⟩
theorem ats_of {t:TypeId} (ht:Tryz.prog.underlying t = some (.slice 28)) {n:Nat} {v:Value} {d:DataW H} {ps:List MemPlace} (h:DataW.trod enc Tryz.prog w 0 (fun _=>true) true n t [v] = some (d,ps)) (hw:Wt t d) :
  ∃ l,Ats w v l ∧ LimA l :=
 slc_of 3 nA AtAt (fun a=>a.1.length ≤ 140737488351232 ∧ a.2.2.length ≤ 140737488351232) ht (by kernel_rfl) (by omega) (by decide +kernel) (fun n k o cs d ps h hl hc hw=>at_of h hl hc hw) h hw
theorem pvs_of {t:TypeId} (ht:Tryz.prog.underlying t = some (.slice 63)) {n:Nat} {v:Value} {d:DataW H} {ps:List MemPlace} (h:DataW.trod enc Tryz.prog w 0 (fun _=>true) true n t [v] = some (d,ps)) (hw:Wt t d) :
  ∃ l,Pvs w v l ∧ LimP l :=
 slc_of 2 nP PvAt (fun a=>a.1.length ≤ 140737488351232 ∧ a.2.length ≤ 140737488351232) ht (by kernel_rfl) (by omega) (by decide +kernel) (fun n k o cs d ps h hl hc hw=>pv_of h hl hc hw) h hw
theorem clss_of {t:TypeId} (ht:Tryz.prog.underlying t = some (.slice 67)) {n:Nat} {v:Value} {d:DataW H} {ps:List MemPlace} (h:DataW.trod enc Tryz.prog w 0 (fun _=>true) true n t [v] = some (d,ps)) (hw:Wt t d) :
  ∃ l,Clss w v l ∧ LimC l :=
 slc_of 1 [] ClAt (fun c=>LimA c) ht (by kernel_rfl) (by omega) (by decide +kernel) (fun n k o cs d ps h hl hc hw=>by
  obtain ⟨u,rfl⟩:∃ u,cs = [u]:=by
   match cs,hl with
   | [x],_=>exact ⟨x,rfl⟩
  obtain ⟨l,h1,h2⟩:=ats_of Tryz.underlying67 h hw
  exact ⟨l,⟨u,hc 0 (by omega),h1⟩,h2⟩) h hw
end
theorem wt_at {H:Type} {ts:List TypeId} {ds:List (DataW H)} (h:(DataW.weightsEach Tryz.prog ts ds).all (· ≤ reachBytes) = true) (j:Nat) {t:TypeId} {d:DataW H} (h1:ts[j]? = some t) (h2:ds[j]? = some d):Wt t d:=fun n hn=>by
 have:=List.all_eq_true.1 h _ (DataW.weights_mem_each (j:=j) h1 h2 n hn)
 simpa using this
end Rl
end Go.Proofs.YtelofmeapplfpaaGreatDoor

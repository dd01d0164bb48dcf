/-
What the rows of package relation list of variables: the variable signs of package version; the variable of the library that Cut names. What the row lists of the library's variables, as the library's contracts ask it of a world; the number that the variable of the third place holds. What the rows of package record list of variables. What the rows of ValueWrites and ValueBack list of variables. What the rows of package record list of variables where something is printed. Clauses, atoms, provides that came in. Packages, entries that came in. A package that came in by value. From a law's contract to its row, where the row lists variables: what is laid, the world's shape and the reach are handed to the contract; with the bound of the second form, and without.
-/
import Derived.Test.YthmpepnikmdjpaaGreatDoorRows
import Derived.Test.YthmpepnikmdjpaaGreatDoorCVerRefParse
import Derived.Shelf.Vars
import Derived.HandedShaped
import Derived.LaidLaws
import Derived.LaidMore
import Derived.Lib.LaidU8
import Derived.Test.YthmpepnikmdjpaaGreatDoorShelf
import Derived.PinnedBridge
import Derived.Test.YthmpepnikmdjpaaGreatDoorCRecRead
import Derived.LaidSub
import Derived.Test.YthmpepnikmdjpaaGreatDoorCWordsGo
import Derived.Test.YthmpepnikmdjpaaGreatDoorCRelLists
import Derived.Deep.SlicePairs
import Derived.SliceStrings
import Derived.SizedLaws
import Derived.Test.YthmpepnikmdjpaaGreatDoorCRecFld
import Derived.Test.YthmpepnikmdjpaaGreatDoorCRecVals
import Derived.JoinedCond
namespace Go.Proofs.YthmpepnikmdjpaaGreatDoor
open Go Go.Lib Go.RowKit
set_option maxRecDepth 100000
set_option linter.unusedSimpArgs false
namespace Rl
open Ver (MaxLen Signs)
def listed : List (String × DataW Unit) := [("chandler/version.signs", Rows.laid_chandler_version_signs)]
theorem maxLen_of {w:World} (h:w.ShapedOpen Tryz.prog):MaxLen w :=
 cell_of_shapedOpen_int (P:=Tryz.prog) (g:=2) (t:=3) (zero:=#[.int .i64 0]) (k:=.i64) h (by decide +kernel) (by kernel_rfl) rfl (by kernel_rfl) (by kernel_rfl) Tryz.underlying3
theorem signs_of_laid {W:World} (h:laidMetH Tryz.prog listed W):Signs W:=by
 intro i hi
 rw [MakeChecks.laidMetH_plain _ _ _ (by kernel_rfl)] at h
 obtain ⟨g,t,cs,fuel,p,hg,hty,hvar,hd⟩:=Lib.laidMet.reads h (.head _)
 have hgn : Tryz.prog.globalNamed "chandler/version.signs" = some 1 := by kernel_rfl
 have htn:(Tryz.prog.globals[1]?).map (·.type) = some 177:=by kernel_rfl
 obtain rfl:=Option.some.inj (hgn.symm.trans hg)
 obtain rfl:=Option.some.inj (htn.symm.trans hty)
 have hu:Tryz.prog.underlying 177 = some (.array 6 9):=by kernel_rfl
 have hc:Tryz.prog.cellsOf 9 = 1:=by kernel_rfl
 obtain ⟨fuel',d,q,hdi,he⟩:=Lib.array_elem hu hd i hi
 obtain ⟨s,hs1,hs2,_⟩:=DataW.trod_string (by kernel_rfl:Tryz.prog.underlying 9 = some .string) he
 rw [hc,Nat.mul_one] at hs1
 have hcell:cs.toList[i]? = some (.string s):=by
  have:=congrArg (·[0]?) hs1
  simpa [List.getElem?_take,List.getElem?_drop] using this
 rw [World.var?_cell hg hvar i,← Array.getElem?_toList,hcell]
 simp only [Prod.mk.injEq] at hs2
 obtain ⟨rfl,_⟩:=hs2
 have hS:∀ l:List UInt8,s.data.toList = l → s = ⟨l.toArray⟩:=fun l e=>by
  apply ByteArray.ext
  rw [← e]
 have hcase:i = 0 ∨ i = 1 ∨ i = 2 ∨ i = 3 ∨ i = 4 ∨ i = 5:=by omega
 rcases hcase with rfl | rfl | rfl | rfl | rfl | rfl
 all_goals
  simp only [Rows.laid_chandler_version_signs,List.getElem?_cons_zero,List.getElem?_cons_succ,Option.some.injEq,DataW.lit.injEq,Lit.string.injEq] at hdi
  rw [hS _ hdi.symm]
  rfl
theorem vars_of {W:World} (hL:laidMetH Tryz.prog listed W) (hSh:W.ShapedOpen Tryz.prog):Vars W:=⟨maxLen_of hSh,signs_of_laid hL⟩
end Rl
end Go.Proofs.YthmpepnikmdjpaaGreatDoor
namespace Go.Proofs.YthmpepnikmdjpaaGreatDoor
open Go Go.Lib
set_option maxRecDepth 100000
namespace Txt
theorem accept_eq:(Rows.laid_unicode_utf8_acceptRanges:DataW Unit) = Lib.acceptData:=by kernel_rfl
theorem first_eq:Rows.laid_unicode_utf8_first = Lib.firstData:=Pinned.utf8First_eq
def listed : List (String × DataW Unit) := [("unicode/utf8.acceptRanges", Rows.laid_unicode_utf8_acceptRanges), ("unicode/utf8.first", Rows.laid_unicode_utf8_first)]
theorem tabs_of_laid {W:World} (h:laidMetH Tryz.prog listed W):Lib.Utf8Tabs 3 4 W:=by
 rw [MakeChecks.laidMetH_plain _ _ _ (by kernel_rfl)] at h
 have h1:=Lib.laidMet.reads h (.head _)
 have h2:=Lib.laidMet.reads h (.tail _ (.head _))
 rw [accept_eq] at h1
 rw [first_eq] at h2
 exact utf8Tabs_of_reads (ρ:=Tryz.lays197_ren) { Tryz.lays197 with } ⟨by kernel_rfl,by kernel_rfl,by kernel_rfl,by kernel_rfl,by kernel_rfl,by kernel_rfl,by kernel_rfl⟩ h2 h1
end Txt
end Go.Proofs.YthmpepnikmdjpaaGreatDoor
namespace Go.Proofs.YthmpepnikmdjpaaGreatDoor
open Go Go.Lib Go.RowKit
set_option maxRecDepth 100000
set_option linter.unusedSimpArgs false
namespace Rc
def listed : List (String × DataW Unit) := [("unicode/utf8.acceptRanges", Rows.laid_unicode_utf8_acceptRanges), ("chandler/version.signs", Rows.laid_chandler_version_signs), ("chandler/record.names", Rows.laid_chandler_record_names), ("unicode/utf8.first", Rows.laid_unicode_utf8_first)]
theorem rl_of {W:World} (h:laidMetH Tryz.prog listed W):laidMetH Tryz.prog Rl.listed W :=
 h.filter (fun x => x.1 == "chandler/version.signs")
theorem txt_of {W:World} (h:laidMetH Tryz.prog listed W):laidMetH Tryz.prog Txt.listed W :=
 h.filter (fun x => x.1 == "unicode/utf8.acceptRanges" || x.1 == "unicode/utf8.first")
theorem nms_of {W:World} (h:laidMetH Tryz.prog listed W):Nms W:=by
 intro i hi
 rw [MakeChecks.laidMetH_plain _ _ _ (by kernel_rfl)] at h
 obtain ⟨g, t, cs, fuel, p, hg, hty, hvar, hd⟩ := Lib.laidMet.reads h (n := "chandler/record.names") (d := Rows.laid_chandler_record_names) (.tail _ (.tail _ (.head _)))
 have hgn : Tryz.prog.globalNamed "chandler/record.names" = some 0 := by kernel_rfl
 have htn:(Tryz.prog.globals[0]?).map (·.type) = some 163:=by kernel_rfl
 obtain rfl:=Option.some.inj (hgn.symm.trans hg)
 obtain rfl:=Option.some.inj (htn.symm.trans hty)
 have hu:Tryz.prog.underlying 163 = some (.array 11 9):=by kernel_rfl
 have hc:Tryz.prog.cellsOf 9 = 1:=by kernel_rfl
 obtain ⟨fuel',d,q,hdi,he⟩:=Lib.array_elem hu hd i hi
 obtain ⟨s,hs1,hs2,_⟩:=DataW.trod_string (by kernel_rfl:Tryz.prog.underlying 9 = some .string) he
 rw [hc,Nat.mul_one] at hs1
 have hcell:cs.toList[i]? = some (.string s):=by
  have:=congrArg (·[0]?) hs1
  simpa [List.getElem?_take,List.getElem?_drop] using this
 rw [World.var?_cell hg hvar i,← Array.getElem?_toList,hcell]
 simp only [Prod.mk.injEq] at hs2
 obtain ⟨rfl,_⟩:=hs2
 have hS:∀ l:List UInt8,s.data.toList = l → s = ⟨l.toArray⟩:=fun l e=>by
  apply ByteArray.ext
  rw [← e]
 have hcase:i = 0 ∨ i = 1 ∨ i = 2 ∨ i = 3 ∨ i = 4 ∨ i = 5 ∨ i = 6 ∨ i = 7 ∨ i = 8 ∨ i = 9 ∨ i = 10:=by omega
 rcases hcase with rfl | rfl | rfl | rfl | rfl | rfl | rfl | rfl | rfl | rfl | rfl
 all_goals
  simp only [Rows.laid_chandler_record_names,List.getElem?_cons_zero,List.getElem?_cons_succ,Option.some.injEq,DataW.lit.injEq,Lit.string.injEq] at hdi
  rw [hS _ hdi.symm]
  rfl
theorem gl_of {W:World} (hL:laidMetH Tryz.prog listed W) (hSh:W.ShapedOpen Tryz.prog):Gl W :=
 ⟨Rl.vars_of (rl_of hL) hSh,nms_of hL,Txt.tabs_of_laid (txt_of hL)⟩
end Rc
end Go.Proofs.YthmpepnikmdjpaaGreatDoor
namespace Go.Proofs.YthmpepnikmdjpaaGreatDoor
open Go Go.Lib Go.RowKit
set_option maxRecDepth 100000
set_option linter.unusedSimpArgs false
namespace Va
def listed : List (String × DataW Unit) := [("math/bits.deBruijn32tab", Rows.laid_math_bits_deBruijn32tab), ("math/bits.deBruijn64tab", Rows.laid_math_bits_deBruijn64tab), ("internal/strconv.uint64pow10", Rows.laid_internal_strconv_uint64pow10), ("chandler/version.signs", Rows.laid_chandler_version_signs)]
theorem pow_of {W:World} (h:laidMetH Tryz.prog listed W):Pow W:=by
 rw [MakeChecks.laidMetH_plain _ _ _ (by kernel_rfl)] at h
 obtain ⟨g, t, cs, fuel, p, hg, hty, hvar, hd⟩ := Lib.laidMet.reads h (n := "internal/strconv.uint64pow10") (d := Rows.laid_internal_strconv_uint64pow10) (.tail _ (.tail _ (.head _)))
 have hgn : Tryz.prog.globalNamed "internal/strconv.uint64pow10" = some 5 := by kernel_rfl
 have htn:(Tryz.prog.globals[5]?).map (·.type) = some 309:=by kernel_rfl
 obtain rfl:=Option.some.inj (hgn.symm.trans hg)
 obtain rfl:=Option.some.inj (htn.symm.trans hty)
 have hu:Tryz.prog.underlying 309 = some (.array 20 66):=by kernel_rfl
 have he:Tryz.prog.underlying 66 = some (.int .u64):=by kernel_rfl
 have hc:Tryz.prog.cellsOf 66 = 1:=by kernel_rfl
 have hct:Tryz.prog.cellsOf 309 = 20:=by kernel_rfl
 unfold Pow TabIs
 rw [hvar]
 have hk:Rows.laid_internal_strconv_uint64pow10 = (tabData .u64 pow10Tab:DataW Unit):=by rfl
 rw [hk] at hd
 rw [← cells_of_tab hu he hc hct hd]
end Va
end Go.Proofs.YthmpepnikmdjpaaGreatDoor
namespace Go.Proofs.YthmpepnikmdjpaaGreatDoor
open Go Go.Lib Go.RowKit
set_option maxRecDepth 100000
set_option linter.unusedSimpArgs false
namespace Rc
def listed2 : List (String × DataW Unit) := [("math/bits.deBruijn32tab", Rows.laid_math_bits_deBruijn32tab), ("math/bits.deBruijn64tab", Rows.laid_math_bits_deBruijn64tab), ("internal/strconv.uint64pow10", Rows.laid_internal_strconv_uint64pow10), ("unicode/utf8.acceptRanges", Rows.laid_unicode_utf8_acceptRanges), ("chandler/version.signs", Rows.laid_chandler_version_signs), ("chandler/record.names", Rows.laid_chandler_record_names), ("unicode/utf8.first", Rows.laid_unicode_utf8_first)]
theorem rc_of {W:World} (h:laidMetH Tryz.prog listed2 W):laidMetH Tryz.prog listed W :=
 h.filter (fun x => x.1 == "unicode/utf8.acceptRanges" || x.1 == "chandler/version.signs" || x.1 == "chandler/record.names" || x.1 == "unicode/utf8.first")
theorem va_of {W:World} (h:laidMetH Tryz.prog listed2 W):laidMetH Tryz.prog Va.listed W :=
 h.filter (fun x => x.1 == "math/bits.deBruijn32tab" || x.1 == "math/bits.deBruijn64tab" || x.1 == "internal/strconv.uint64pow10" || x.1 == "chandler/version.signs")
structure GlP (w:World):Prop where
 g:Gl w
 p:Va.Pow w
theorem glp_of {W:World} (hL:laidMetH Tryz.prog listed2 W) (hSh:W.ShapedOpen Tryz.prog):GlP W:=⟨gl_of (rc_of hL) hSh,Va.pow_of (va_of hL)⟩
end Rc
end Go.Proofs.YthmpepnikmdjpaaGreatDoor
namespace Go.Proofs.YthmpepnikmdjpaaGreatDoor
open Go.RowKit Go.ChangeShapes Go.WideShapes Go.Deep
set_option linter.unusedSimpArgs false
set_option linter.unusedVariables false
namespace Rl
open Ver (Bs li li_len li_drop S S_self S_of S_size S_li below_drewN empty_is empty_no MaxLen Signs)
section
variable {H:Type} {enc:TypeId × Value → H} {w:World}
theorem all_mem {P:Program} {e:TypeId}:∀ {l:List (DataW H)} {d:DataW H},d ∈ l → ∀ n ∈ d.weights P e,n ∈ DataW.weightsAll P e l
 | d0 :: r,d,hd,n,hn=>by
  simp only [DataW.weightsAll,List.mem_append]
  rcases List.mem_cons.1 hd with rfl | h
  ·exact .inl hn
  ·exact .inr (all_mem h n hn)
def Wt (t:TypeId) (d:DataW H):Prop:=∀ n ∈ d.weights Tryz.prog t,n ≤ reachBytes
theorem Wt.elem {t e:TypeId} {elems spare:List (DataW H)} (h:Wt t (.slice elems spare)) (hu:Tryz.prog.underlying t = some (.slice e)) {d:DataW H} (hd:d ∈ elems):Wt e d:=fun n hn=>h n (by
 simp only [DataW.weights,hu,List.mem_cons,List.mem_append]
 exact .inr (.inl (all_mem hd n hn)))
theorem Wt.row {t e:TypeId} {elems spare:List (DataW H)} (h:Wt t (.slice elems spare)) (hu:Tryz.prog.underlying t = some (.slice e)):(elems.length + spare.length) * Tryz.prog.bytesOf e ≤ reachBytes:=h _ (by
 simp only [DataW.weights,hu,List.mem_cons]
 exact .inl trivial)
theorem spot {a:Addr} {u:Value} (h:w.cell? a = some u):∃ b off,a = ⟨b,off,none⟩:=by
 obtain ⟨b,off,part⟩:=a
 have hp:part = none:=World.cell?_spot h
 subst hp
 exact ⟨b,off,rfl⟩
theorem string_of {n:Nat} {v:Value} {d:DataW H} {ps:List MemPlace} (h:DataW.trod enc Tryz.prog w 0 (fun _=>true) true n 9 [v] = some (d,ps)) (hw:Wt 9 d) :
  ∃ x:Bs,v = .string (S x) ∧ x.length ≤ 140737488351232:=by
 obtain ⟨s',hv,hx,_⟩:=DataW.trod_string Tryz.underlying9 h
 obtain rfl:v = .string s':=by simpa using hv
 simp only [Prod.mk.injEq] at hx
 obtain ⟨rfl,_⟩:=hx
 refine ⟨s'.data.toList,by rw [S_self],?_⟩
 have:=hw s'.data.toList.length (by simp [DataW.weights])
 unfold reachBytes at this
 exact this
theorem int_of {n:Nat} {v:Value} {y:DataW H × List MemPlace} (h:DataW.trod enc Tryz.prog w 0 (fun _=>true) true n 3 [v] = some y):∃ k:Int,v = .int .i64 k:=by
 obtain ⟨k,hv,_⟩:=DataW.trod_int Tryz.underlying3 h
 exact ⟨k,by simpa using hv⟩
theorem mul_bound {x y b:Nat} (h:(x + y) * b ≤ reachBytes) (hb:8 ≤ b):x ≤ 1152921504606846976:=by
 unfold reachBytes at h
 have:x * 8 ≤ (x + y) * b:=Nat.mul_le_mul (by omega) hb
 omega
theorem slc_of {α:Type} (sz:Nat) (z:α) (P:World → Nat → Nat → α → Prop) (Q:α → Prop) {t e:TypeId} (ht:Tryz.prog.underlying t = some (.slice e)) (ce:Tryz.prog.cellsOf e = sz) (h0:0 < sz) (hb:8 ≤ Tryz.prog.bytesOf e)
  (hE:∀ n k o cs d ps,DataW.trod enc Tryz.prog w 0 (fun _=>true) true n e cs = some (d,ps) → cs.length = sz → (∀ j,j < sz → w.cell? ⟨k,o + j,none⟩ = cs[j]?) → Wt e d → ∃ x,P w k o x ∧ Q x)
  {n:Nat} {v:Value} {d:DataW H} {ps:List MemPlace} (h:DataW.trod enc Tryz.prog w 0 (fun _=>true) true n t [v] = some (d,ps)) (hw:Wt t d) :
  ∃ l:List α,Slc sz z P w v l ∧ ∀ x ∈ l,Q x:=by
 rcases open_slice ht h with ⟨hcs,_⟩ | ⟨a,len,cap,m,n',D,Pl,hcs,_,hl,hm,hmm,hx,hat⟩
 ·obtain rfl:v = .slice none 0 0:=by simpa using hcs
  exact ⟨[],Slc.none _ _ _ w,by simp⟩
 ·obtain rfl:v = .slice (some a) len cap:=by simpa using hcs
  simp only [Prod.mk.injEq] at hx
  obtain ⟨rfl,_⟩:=hx
  simp only [if_true] at hmm
  subst hmm
  have hrow:=hw.row ht
  rw [List.length_map,List.length_range] at hrow
  have hlen:=mul_bound hrow hb
  have hsp:0 < len → ∃ b off,a = ⟨b,off,none⟩:=fun hi=>by
   obtain ⟨cs',h1,_⟩:=hat 0 (by omega)
   obtain ⟨_,hl',hc⟩:=World.cells?_some h1
   rw [ce] at hl' hc
   have h2:=hc 0 h0
   rw [add_add,Nat.zero_mul,show a.add (0 + 0) = a by cases a; rfl] at h2
   obtain ⟨u,hu⟩:∃ u,cs'[0]? = some u:=⟨cs'[0]'(by omega),List.getElem?_eq_getElem _⟩
   rw [hu] at h2
   exact spot h2
  have hall:∀ i,i < len → ∃ x:α,(∀ b off,a = ⟨b,off,none⟩ → P w b (off + sz * i) x) ∧ Q x:=fun i hi=>by
   obtain ⟨cs',h1,t1⟩:=hat i (by omega)
   obtain ⟨_,hl',hc⟩:=World.cells?_some h1
   rw [ce] at hl' hc
   obtain ⟨b,off,rfl⟩:=hsp (by omega)
   have he:Wt e (D i):=hw.elem ht (List.mem_map.2 ⟨i,by simpa using hi,rfl⟩)
   obtain ⟨x,hx1,hx2⟩:=hE _ b (off + sz * i) cs' (D i) (Pl i) t1 hl' (fun j hj=>by
    have:=hc j hj
    rw [Addr.add_mid,Addr.add_mid,Nat.mul_comm i sz] at this
    exact this) he
   exact ⟨x,fun b' off' e'=>by cases e'; exact hx1,hx2⟩
  refine ⟨(List.range len).map fun i=>if h:i < len then (hall i h).choose else z,⟨by simp; exact hlen,some a,m,by simp,by simp; exact hl,fun h0=>?_⟩,?_⟩
  ·have h0':0 < len:=by simpa using h0
   obtain ⟨b,off,rfl⟩:=hsp h0'
   refine ⟨b,off,rfl,fun i hil=>?_⟩
   have hil':i < len:=by simpa using hil
   have e:((List.range len).map fun i=>if h:i < len then (hall i h).choose else z).getD i z = (hall i hil').choose:=by
    simp [hil']
   rw [e]
   exact (hall i hil').choose_spec.1 b off rfl
  ·intro f hf
   obtain ⟨i,hi,rfl⟩:=List.mem_map.1 hf
   have hi':i < len:=by simpa using hi
   simp only [hi',dite_true]
   exact (hall i hi').choose_spec.2
theorem three {α:Type}:∀ {l:List α},l.length = 3 → ∃ x y z,l = [x,y,z]
 | [x,y,z],_=>⟨x,y,z,rfl⟩
theorem two {α:Type}:∀ {l:List α},l.length = 2 → ∃ x y,l = [x,y]
 | [x,y],_=>⟨x,y,rfl⟩
theorem at_of {n k o:Nat} {cs:List Value} {d:DataW H} {ps:List MemPlace} (h:DataW.trod enc Tryz.prog w 0 (fun _=>true) true n 78 cs = some (d,ps)) (hl:cs.length = 3) (hc:∀ j,j < 3 → w.cell? ⟨k,o + j,none⟩ = cs[j]?) (hw:Wt 78 d) :
  ∃ a:At,AtAt w k o a ∧ (a.1.length ≤ 140737488351232 ∧ a.2.2.length ≤ 140737488351232):=by
 obtain ⟨xs,m,_,hx,_,hxl,hf⟩:=DataW.trod_struct Tryz.underlying78 h
 obtain ⟨v0,v1,v2,rfl⟩:=three hl
 obtain ⟨y0,y1,y2,rfl⟩:=three hxl
 have cT:Tryz.prog.cellsOf 9 = 1:=by kernel_rfl
 have cI:Tryz.prog.cellsOf 3 = 1:=by kernel_rfl
 have g0:=hf 0 _ rfl
 have g1:=hf 1 _ rfl
 have g2:=hf 2 _ rfl
 simp [cT,cI] at g0 g1 g2
 simp only [Prod.mk.injEq] at hx
 obtain ⟨rfl,_⟩:=hx
 obtain ⟨x,hx,hxs⟩:=string_of (d:=y0.1) (ps:=y0.2) g0 (fun q hq=>hw q (by simp [DataW.weights,Tryz.underlying78,DataW.weightsEach,hq]))
 obtain ⟨r,hr⟩:=int_of (y:=y1) g1
 obtain ⟨y,hy,hys⟩:=string_of (d:=y2.1) (ps:=y2.2) g2 (fun q hq=>hw q (by simp [DataW.weights,Tryz.underlying78,DataW.weightsEach,hq]))
 subst hx hr hy
 exact ⟨(x,r,y),⟨hc 0 (by omega),hc 1 (by omega),hc 2 (by omega)⟩,hxs,hys⟩
theorem pv_of {n k o:Nat} {cs:List Value} {d:DataW H} {ps:List MemPlace} (h:DataW.trod enc Tryz.prog w 0 (fun _=>true) true n 82 cs = some (d,ps)) (hl:cs.length = 2) (hc:∀ j,j < 2 → w.cell? ⟨k,o + j,none⟩ = cs[j]?) (hw:Wt 82 d) :
  ∃ a:Pv,PvAt w k o a ∧ (a.1.length ≤ 140737488351232 ∧ a.2.length ≤ 140737488351232):=by
 obtain ⟨xs,m,_,hx,_,hxl,hf⟩:=DataW.trod_struct Tryz.underlying82 h
 obtain ⟨v0,v1,rfl⟩:=two hl
 obtain ⟨y0,y1,rfl⟩:=two hxl
 have cT:Tryz.prog.cellsOf 9 = 1:=by kernel_rfl
 have g0:=hf 0 _ rfl
 have g1:=hf 1 _ rfl
 simp [cT] at g0 g1
 simp only [Prod.mk.injEq] at hx
 obtain ⟨rfl,_⟩:=hx
 obtain ⟨x,hx,hxs⟩:=string_of (d:=y0.1) (ps:=y0.2) g0 (fun q hq=>hw q (by simp [DataW.weights,Tryz.underlying82,DataW.weightsEach,hq]))
 obtain ⟨y,hy,hys⟩:=string_of (d:=y1.1) (ps:=y1.2) g1 (fun q hq=>hw q (by simp [DataW.weights,Tryz.underlying82,DataW.weightsEach,hq]))
 subst hx hy
 exact ⟨(x,y),⟨hc 0 (by omega),hc 1 (by omega)⟩,hxs,hys⟩
theorem ats_of {t:TypeId} (ht:Tryz.prog.underlying t = some (.slice 78)) {n:Nat} {v:Value} {d:DataW H} {ps:List MemPlace} (h:DataW.trod enc Tryz.prog w 0 (fun _=>true) true n t [v] = some (d,ps)) (hw:Wt t d) :
  ∃ l,Ats w v l ∧ LimA l :=
 slc_of 3 nA AtAt (fun a=>a.1.length ≤ 140737488351232 ∧ a.2.2.length ≤ 140737488351232) ht (by kernel_rfl) (by omega) (by decide +kernel) (fun n k o cs d ps h hl hc hw=>at_of h hl hc hw) h hw
theorem pvs_of {t:TypeId} (ht:Tryz.prog.underlying t = some (.slice 82)) {n:Nat} {v:Value} {d:DataW H} {ps:List MemPlace} (h:DataW.trod enc Tryz.prog w 0 (fun _=>true) true n t [v] = some (d,ps)) (hw:Wt t d) :
  ∃ l,Pvs w v l ∧ LimP l :=
 slc_of 2 nP PvAt (fun a=>a.1.length ≤ 140737488351232 ∧ a.2.length ≤ 140737488351232) ht (by kernel_rfl) (by omega) (by decide +kernel) (fun n k o cs d ps h hl hc hw=>pv_of h hl hc hw) h hw
theorem clss_of {t:TypeId} (ht:Tryz.prog.underlying t = some (.slice 72)) {n:Nat} {v:Value} {d:DataW H} {ps:List MemPlace} (h:DataW.trod enc Tryz.prog w 0 (fun _=>true) true n t [v] = some (d,ps)) (hw:Wt t d) :
  ∃ l,Clss w v l ∧ LimC l :=
 slc_of 1 [] ClAt (fun c=>LimA c) ht (by kernel_rfl) (by omega) (by decide +kernel) (fun n k o cs d ps h hl hc hw=>by
  obtain ⟨u,rfl⟩:∃ u,cs = [u]:=by
   match cs,hl with
   | [x],_=>exact ⟨x,rfl⟩
  obtain ⟨l,h1,h2⟩:=ats_of Tryz.underlying72 h hw
  exact ⟨l,⟨u,hc 0 (by omega),h1⟩,h2⟩) h hw
end
theorem wt_at {H:Type} {ts:List TypeId} {ds:List (DataW H)} (h:(DataW.weightsEach Tryz.prog ts ds).all (· ≤ reachBytes) = true) (j:Nat) {t:TypeId} {d:DataW H} (h1:ts[j]? = some t) (h2:ds[j]? = some d):Wt t d:=fun n hn=>by
 have:=List.all_eq_true.1 h _ (DataW.weights_mem_each (j:=j) h1 h2 n hn)
 simpa using this
end Rl
end Go.Proofs.YthmpepnikmdjpaaGreatDoor
namespace Go.Proofs.YthmpepnikmdjpaaGreatDoor
open Go.RowKit Go.ChangeShapes Go.WideShapes Go.Deep
set_option linter.unusedSimpArgs false
set_option linter.unusedVariables false
namespace Rc
open Ver (S)
open Rl (At Pv Ats Pvs Clss Slc Wt LimA LimP LimC clss_of ats_of pvs_of int_of string_of slc_of)
section
variable {H:Type} {enc:TypeId × Value → H} {w:World}
theorem nine {α:Type}:∀ {l:List α},l.length = 9 → ∃ a b c d e f g h i,l = [a,b,c,d,e,f,g,h,i]
 | [a,b,c,d,e,f,g,h,i],_=>⟨a,b,c,d,e,f,g,h,i,rfl⟩
theorem bool_of {n:Nat} {v:Value} {y:DataW H × List MemPlace} (h:DataW.trod enc Tryz.prog w 0 (fun _=>true) true n 4 [v] = some y):∃ k:Bool,v = .bool k:=by
 obtain ⟨k,hv,_⟩:=DataW.trod_bool Tryz.underlying4 h
 exact ⟨k,by simpa using hv⟩
set_option maxRecDepth 100000 in
theorem pk_of {n:Nat} {cs:List Value} {d:DataW H} {ps:List MemPlace} (h:DataW.trod enc Tryz.prog w 0 (fun _=>true) true n 31 cs = some (d,ps)) (hl:cs.length = 9) (hw:Wt 31 d):∃ p:Pk,PkC w cs p ∧ p.Lim:=by
 obtain ⟨xs,m,_,hx,_,hxl,hfs⟩:=DataW.trod_struct Tryz.underlying31 h
 obtain ⟨c0,c1,c2,c3,c4,c5,c6,c7,c8,rfl⟩:=nine hl
 obtain ⟨y0,y1,y2,y3,y4,y5,y6,y7,y8,rfl⟩:=nine hxl
 have cT:Tryz.prog.cellsOf 9 = 1:=by kernel_rfl
 have cB:Tryz.prog.cellsOf 4 = 1:=by kernel_rfl
 have cC:Tryz.prog.cellsOf 27 = 1:=by kernel_rfl
 have cA:Tryz.prog.cellsOf 28 = 1:=by kernel_rfl
 have cP:Tryz.prog.cellsOf 29 = 1:=by kernel_rfl
 have g0:=hfs 0 _ rfl
 have g1:=hfs 1 _ rfl
 have g2:=hfs 2 _ rfl
 have g3:=hfs 3 _ rfl
 have g4:=hfs 4 _ rfl
 have g5:=hfs 5 _ rfl
 have g6:=hfs 6 _ rfl
 have g7:=hfs 7 _ rfl
 have g8:=hfs 8 _ rfl
 simp [cT,cB,cC,cA,cP] at g0 g1 g2 g3 g4 g5 g6 g7 g8
 simp only [Prod.mk.injEq] at hx
 obtain ⟨rfl,_⟩:=hx
 obtain ⟨nm,rfl,hn⟩:=string_of (d:=y0.1) (ps:=y0.2) g0 (fun q hq=>hw q (by simp [DataW.weights,Tryz.underlying31,DataW.weightsEach,hq]))
 obtain ⟨vs,rfl,hv⟩:=string_of (d:=y1.1) (ps:=y1.2) g1 (fun q hq=>hw q (by simp [DataW.weights,Tryz.underlying31,DataW.weightsEach,hq]))
 obtain ⟨l2,h2,m2⟩:=clss_of (d:=y2.1) (ps:=y2.2) Tryz.underlying27 g2 (fun q hq=>hw q (by simp [DataW.weights,Tryz.underlying31,DataW.weightsEach,hq]))
 obtain ⟨l3,h3,m3⟩:=clss_of (d:=y3.1) (ps:=y3.2) Tryz.underlying27 g3 (fun q hq=>hw q (by simp [DataW.weights,Tryz.underlying31,DataW.weightsEach,hq]))
 obtain ⟨l4,h4,m4⟩:=clss_of (d:=y4.1) (ps:=y4.2) Tryz.underlying27 g4 (fun q hq=>hw q (by simp [DataW.weights,Tryz.underlying31,DataW.weightsEach,hq]))
 obtain ⟨l5,h5,m5⟩:=ats_of (d:=y5.1) (ps:=y5.2) Tryz.underlying28 g5 (fun q hq=>hw q (by simp [DataW.weights,Tryz.underlying31,DataW.weightsEach,hq]))
 obtain ⟨l6,h6,m6⟩:=ats_of (d:=y6.1) (ps:=y6.2) Tryz.underlying28 g6 (fun q hq=>hw q (by simp [DataW.weights,Tryz.underlying31,DataW.weightsEach,hq]))
 obtain ⟨l7,h7,m7⟩:=pvs_of (d:=y7.1) (ps:=y7.2) Tryz.underlying29 g7 (fun q hq=>hw q (by simp [DataW.weights,Tryz.underlying31,DataW.weightsEach,hq]))
 obtain ⟨b,rfl⟩:=bool_of (y:=y8) g8
 exact ⟨⟨nm,vs,l2,l3,l4,l5,l6,l7,b⟩,⟨_,_,_,_,_,_,rfl,⟨h2,h3,h4,h5,h6,h7⟩⟩,⟨hn,hv,m2,m3,m4,m5,m6,m7⟩⟩
end
end Rc
end Go.Proofs.YthmpepnikmdjpaaGreatDoor
namespace Go.Proofs.YthmpepnikmdjpaaGreatDoor
open Go.RowKit Go.ChangeShapes Go.WideShapes Go.Deep
set_option linter.unusedSimpArgs false
set_option linter.unusedVariables false
namespace Rc
open Ver (S)
open Rl (At Pv Ats Pvs Clss Slc Wt)
section
variable {H:Type} {enc:TypeId × Value → H} {w:World}
set_option maxRecDepth 100000 in
theorem pkv_of {base:Nat} {v:Value} {d:DataW H} {p:List MemPlace} (o:Value.okWide Tryz.prog w .any base 31 v) (h:DataW.Trod enc Tryz.prog w 0 (fun _=>true) true 31 v d p) (hw:Wt 31 d) :
  ∃ p:Pk,PkV w v p ∧ p.Lim:=by
 obtain ⟨cs,rfl,hsz⟩:=okWide_struct Tryz.underlying31 o
 have hC:Tryz.prog.cellsOf 31 = 9:=by kernel_rfl
 rw [hC] at hsz
 obtain ⟨fuel,hf⟩:=h
 have hf2:DataW.trod enc Tryz.prog w 0 (fun _=>true) true fuel 31 cs.toList = some (d,p):=hf
 obtain ⟨q,hq,hL⟩:=pk_of hf2 (by simpa using hsz) hw
 exact ⟨q,hq.val,hL⟩
end
end Rc
end Go.Proofs.YthmpepnikmdjpaaGreatDoor
namespace Go.Proofs.YthmpepnikmdjpaaGreatDoor
open Go Go.ChangeShapes
variable {H:Type} {enc:TypeId × Value → H}
theorem laid_said {a:Assume} {C:Checked} {os:Os} {f:FuncId} {fn:Func} {s:ChangeSpec} {conds:List PathCond} {apart fresh handsOn again:Bool} {X:World → Array Value → Prop}
  (hX:∀ (w w':World) (args:Array Value),w.heap = w'.heap → X w args → X w' args)
  (own:ownKnob C.prog.godebug = none) (started:os.Started) (noInit:C.prog.inits.idxOf? f = none) (hfn:C.prog.funcs[f]? = some fn)
  (witness:∃ (w:World) (tape:Tape) (i:Input),w.os = os ∧ (w.forCall tape i).Shaped C.prog ∧ i.vars = [] ∧ Input.okWide C.prog (w.forCall tape i) .any w.heap.size f i ∧
   ((s.pre enc C.prog fn conds apart (w.forCall tape i).memory i.args ∧ X (w.forCall tape i).memory i.args) ∧ sizedMet enc C.prog fn (OpenSpec.ofChange s) apart (w.forCall tape i).memory i.args) ∧ a.holds C.prog (lone (Frame.enter C.prog f i.args .normal) [] (w.forCall tape i)))
  (contract:∀ (W:World) (base:Nat) (args:Array Value) (ds gs:List (DataW H)) (before:List MemPlace),
   (∀ (j:Nat) t v,fn.params[j]? = some t → args[j]? = some v → Value.okWide C.prog W .any base t v) →
   DataW.Whole enc C.prog fn.params.toList s.vars apart W args.toList ds gs before →
   conds.all (PathCond.test C.prog ⟨fn.params.toList,ds,s.plain.varTypes C.prog,gs⟩) = true →
   (DataW.weightsEach C.prog (fn.params.toList ++ s.plain.varTypes C.prog) (ds ++ gs)).all (· ≤ reachBytes) = true → X W args → W.ShapedOpen C.prog →
   a.holds C.prog (lone (Frame.enter C.prog f args .normal) [] W) →
   Calls C.prog f args W fun e W'=>∃ v,e = .returned v ∧ s.post enc C.prog fn apart fresh handsOn again W args v W') :
  ReturnsInHanded a C os f .any (fun w args=>(s.pre enc C.prog fn conds apart w args ∧ X w args) ∧ sizedMet enc C.prog fn (OpenSpec.ofChange s) apart w args) (s.post enc C.prog fn apart fresh handsOn again):=by
 refine returnsInHanded_of_calls own started noInit witness ?_
 intro w tape i _ hsh _ hok hpre hholds
 obtain ⟨_,_,_,fn',hfn',_,_,_,_,hval⟩:=hok
 have e:fn' = fn:=Option.some.inj (hfn'.symm.trans hfn)
 subst e
 obtain ⟨⟨⟨ds,gs,before,hw,hc⟩,hx⟩,hz⟩:=hpre
 have hw':=DataW.Whole.of_heap (w':=w.forCall tape i) (by rfl) hw
 refine (contract (w.forCall tape i) w.heap.size i.args ds gs before hval hw' hc (hz.weights hw) (hX _ _ _ (by rfl) hx) hsh hholds).mono fun e W' ⟨v,he,hp⟩=>?_
 subst he
 exact ChangeSpec.post_blind hp
end Go.Proofs.YthmpepnikmdjpaaGreatDoor

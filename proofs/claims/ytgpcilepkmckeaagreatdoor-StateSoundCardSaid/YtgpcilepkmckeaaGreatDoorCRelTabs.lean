/-
The law StateHealthy. What the rows of package relation list of variables: the variable signs of package version; the variable of the library that Cut names.
-/
import Derived.Test.YtgpcilepkmckeaaGreatDoorCRecBare
import Derived.Test.YtgpcilepkmckeaaGreatDoorCStaLight
import Derived.Test.YtgpcilepkmckeaaGreatDoorCStaYHea
import Derived.Test.YtgpcilepkmckeaaGreatDoorRows
import Derived.Test.YtgpcilepkmckeaaGreatDoorCVerRefParse
import Derived.Shelf.Vars
import Derived.HandedShaped
import Derived.LaidLaws
import Derived.LaidMore
import Derived.Lib.LaidU8
namespace Go.Proofs.YtgpcilepkmckeaaGreatDoor
open Go.RowKit
set_option linter.unusedSimpArgs false
set_option linter.unusedVariables false
namespace Sa
open Rl (Vars Slc)
open Rc (Pk En Ens Pks)
theorem light_fewP {l:List Pk} (h:lightB l = true):FewP l:=by
 have hm:(conf l).map En.pk = l:=(conf_all l).1
 have hF:=light_few (s:=conf l) (by rw [hm]; exact h)
 have mem:∀ x ∈ l,∃ y ∈ conf l,y.pk = x:=fun x hx=>by
  rw [← hm] at hx
  obtain ⟨y,hy,rfl⟩:=List.mem_map.1 hx
  exact ⟨y,hy,rfl⟩
 refine ⟨?_,fun x hx=>?_,fun x hx=>?_,fun x hx=>?_⟩
 ·have:=hF.len
  unfold conf at this
  rwa [List.length_map] at this
 ·obtain ⟨y,hy,rfl⟩:=mem x hx; exact hF.pre y hy
 ·obtain ⟨y,hy,rfl⟩:=mem x hx; exact hF.dep y hy
 ·obtain ⟨y,hy,rfl⟩:=mem x hx; exact hF.con y hy
set_option maxRecDepth 100000 in
set_option maxHeartbeats 4000000 in
theorem healthy_walk (v0:Value) (l:List Pk) (w:World) (h:Pks w v0 l) (hL:∀ x ∈ l,x.Lim) (hv:Vars w) :
  Calls Tryz.prog 3 #[v0] w fun e w'=>e = .returned (.bool true) ∧ Below w.heap.size w w':=by
 have cl:=light_any v0 l w h
 obtain ⟨sa,cap,rfl⟩:=h.shape
 have H:=Lib.hid h
 have HL:=Lib.hid hL
 have HV:=Lib.hid hv
 obtain ⟨n,hn⟩:∃ n,l.length = n:=⟨_,rfl⟩
 rw [hn] at cl H
 rw [hn]
 obtain ⟨b1,hb1⟩:∃ b,lightB l = b:=⟨_,rfl⟩
 rw [hb1] at cl
 have HB1:=Lib.hid hb1
 clear h hL hv hb1 hn
 go_enter Tryz.func3,Tryz.ntmps3
 go_wp2_with fail
 refine cl.mono ?_
 rintro e w2 ⟨rfl,k2⟩
 have K2:=Lib.hid k2
 clear cl k2
 cases b1 with
 | false =>
  go_wp2_with fail
  go_ret
  exact ⟨rfl,K2.out⟩
 | true =>
  have hF:=light_fewP HB1.out
  have ch:=healthy_any _ l w2 (H.out.below K2.out) HL.out hF (HV.out.on K2.out)
  obtain ⟨b,hb⟩:∃ b,heaB l = b:=⟨_,rfl⟩
  rw [hb] at ch
  have HBB:=Lib.hid hb
  clear hF HB1 hb
  go_wp2_with fail
  refine ch.mono ?_
  rintro e w3 ⟨rfl,k3⟩
  have K3:=Lib.hid (K2.out.trans (k3.mono K2.out.size))
  have cy:=yhealthy_any _ l w3 (H.out.below K3.out) HL.out
  rw [HBB.out] at cy
  clear ch k3 K2
  go_wp2_with fail
  refine cy.mono ?_
  rintro e w4 ⟨rfl,k4⟩
  have K4:=Lib.hid (K3.out.trans (k4.mono K3.out.size))
  have ca:=awake_any w4 (HV.out.on K4.out)
  have hbb:(b == b) = true:=by cases b <;> rfl
  clear cy k4 K3
  go_wp2_with fail
  refine ca.mono ?_
  rintro e w6 ⟨rfl,k6⟩
  have hb:=K4.out.trans (k6.mono K4.out.size)
  clear ca
  go_wp2_with fail
  go_ret
  exact ⟨rfl,hb⟩
end Sa
end Go.Proofs.YtgpcilepkmckeaaGreatDoor
namespace Go.Proofs.YtgpcilepkmckeaaGreatDoor
open Go Go.Lib Go.RowKit
set_option maxRecDepth 100000
set_option linter.unusedSimpArgs false
namespace Rl
open Ver (MaxLen Signs)
def listed : List (String × DataW Unit) := [("chandler/version.signs", Rows.laid_chandler_version_signs)]
theorem maxLen_of {w:World} (h:w.ShapedOpen Tryz.prog):MaxLen w :=
 cell_of_shapedOpen_int (P:=Tryz.prog) (g:=0) (t:=3) (zero:=#[.int .i64 0]) (k:=.i64) h (by decide +kernel) (by kernel_rfl) rfl (by kernel_rfl) (by kernel_rfl) Tryz.underlying3
theorem signs_of_laid {W:World} (h:laidMetH Tryz.prog listed W):Signs W:=by
 intro i hi
 rw [MakeChecks.laidMetH_plain _ _ _ (by kernel_rfl)] at h
 obtain ⟨g,t,cs,fuel,p,hg,hty,hvar,hd⟩:=Lib.laidMet.reads h (.head _)
 have hgn : Tryz.prog.globalNamed "chandler/version.signs" = some 1 := by kernel_rfl
 have htn:(Tryz.prog.globals[1]?).map (·.type) = some 132:=by kernel_rfl
 obtain rfl:=Option.some.inj (hgn.symm.trans hg)
 obtain rfl:=Option.some.inj (htn.symm.trans hty)
 have hu:Tryz.prog.underlying 132 = some (.array 6 9):=by kernel_rfl
 have hc:Tryz.prog.cellsOf 9 = 1:=by kernel_rfl
 obtain ⟨fuel',d,q,hdi,he⟩:=Lib.array_elem hu hd i hi
 obtain ⟨s,hs1,hs2,_⟩:=DataW.trod_string (by kernel_rfl:Tryz.prog.underlying 9 = some .string) he
 rw [hc,Nat.mul_one] at hs1
 have hcell:cs.toList[i]? = some (.string s):=by
  have:=congrArg (·[0]?) hs1
  simpa [List.getElem?_take,List.getElem?_drop] using this
 rw [World.var?_cell hg hvar i,← Array.getElem?_toList,hcell]
 simp only [Prod.mk.injEq] at hs2
 obtain ⟨rfl,_⟩:=hs2
 have hS:∀ l:List UInt8,s.data.toList = l → s = ⟨l.toArray⟩:=fun l e=>by
  apply ByteArray.ext
  rw [← e]
 have hcase:i = 0 ∨ i = 1 ∨ i = 2 ∨ i = 3 ∨ i = 4 ∨ i = 5:=by omega
 rcases hcase with rfl | rfl | rfl | rfl | rfl | rfl
 all_goals
  simp only [Rows.laid_chandler_version_signs,List.getElem?_cons_zero,List.getElem?_cons_succ,Option.some.injEq,DataW.lit.injEq,Lit.string.injEq] at hdi
  rw [hS _ hdi.symm]
  rfl
theorem vars_of {W:World} (hL:laidMetH Tryz.prog listed W) (hSh:W.ShapedOpen Tryz.prog):Vars W:=⟨maxLen_of hSh,signs_of_laid hL⟩
end Rl
end Go.Proofs.YtgpcilepkmckeaaGreatDoor

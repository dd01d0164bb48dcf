/-
The law StateWithin. What the rows of package relation list of variables: the variable signs of package version; the variable of the library that Cut names.
-/
import Derived.Test.YtgpcilepkmckeaaDoorAStaAwake
import Derived.Test.YtgpcilepkmckeaaDoorRows
import Derived.Test.YtgpcilepkmckeaaDoorARelMay
import Derived.Shelf.Vars
import Derived.HandedShaped
import Derived.LaidLaws
import Derived.LaidMore
import Derived.Lib.LaidU8
namespace Go.Proofs.YtgpcilepkmckeaaDoor
open Go.RowKit
set_option linter.unusedSimpArgs false
set_option linter.unusedVariables false
namespace Sa
open Rl (Vars Slc)
theorem within_self (a:List Vi):within a a = true:=within_iff.2 fun x hx=>hx
theorem within_nil (b:List Vi):within [] b = true:=rfl
set_option maxRecDepth 100000 in
set_option maxHeartbeats 4000000 in
theorem within_walk (v0 v1:Value) (a b:List Vi) (w:World) (h1:Vis w v0 a) (h2:Vis w v1 b) (hv:Vars w) :
  Calls Tryd.prog 4 #[v0,v1] w fun e w'=>e = .returned (.bool true) ∧ Below w.heap.size w w':=by
 obtain ⟨sa,ca,rfl⟩:=h1.shape
 obtain ⟨sb,cb,rfl⟩:=h2.shape
 have H1:=Lib.hid h1
 have H2:=Lib.hid h2
 have HV:=Lib.hid hv
 have c1:=within_any _ _ a b w h1 h2
 have hn0:=h1.1
 have hm0:=h2.1
 generalize a.length = n at *
 generalize b.length = m at *
 obtain ⟨G,hG⟩:∃ G,within a b = G:=⟨_,rfl⟩
 rw [hG] at c1
 have HG:=Lib.hid hG
 clear h1 h2 hv hG
 by_cases h100:100 < n
 ·have h100':(100:Int) < (n:Int):=by omega
  clear c1
  go_enter Tryd.func4,Tryd.ntmps4
  go_wp2_with fail
  go_ret
  exact ⟨rfl,Below.refl _ _⟩
 ·have h100':¬ (100:Int) < (n:Int):=by omega
  by_cases h101:100 < m
  ·have h101':(100:Int) < (m:Int):=by omega
   clear c1
   go_enter Tryd.func4,Tryd.ntmps4
   go_wp2_with fail
   go_ret
   exact ⟨rfl,Below.refl _ _⟩
  ·have h101':¬ (100:Int) < (m:Int):=by omega
   go_enter Tryd.func4,Tryd.ntmps4
   go_wp2_with fail
   refine c1.mono ?_
   rintro e w1 ⟨rfl,k1⟩
   have c2:=ywithin_any _ _ a b w1 (H1.out.below k1) (H2.out.below k1)
   rw [HG.out] at c2
   have K1:=Lib.hid k1
   clear c1 k1
   go_wp2_with fail
   refine c2.mono ?_
   rintro e w2 ⟨rfl,k2⟩
   have K2:=Lib.hid (K1.out.trans (k2.mono K1.out.size))
   have c3:=within_any _ _ a a w2 (H1.out.below K2.out) (H1.out.below K2.out)
   rw [within_self] at c3
   clear c2 k2 K1
   have hgg:(G == G) = true:=by cases G <;> rfl
   go_wp2_with fail
   refine c3.mono ?_
   rintro e w3 ⟨rfl,k3⟩
   have K3:=Lib.hid (K2.out.trans (k3.mono K2.out.size))
   have c4:=within_any (.slice none 0 0) _ [] b w3 (slc_nil _ _ _ _) (H2.out.below K3.out)
   rw [within_nil] at c4
   clear c3 k3 K2
   go_wp2_with fail
   refine c4.mono ?_
   rintro e w4 ⟨rfl,k4⟩
   have K4:=Lib.hid (K3.out.trans (k4.mono K3.out.size))
   have c5:=awake_any w4 (HV.out.on K4.out)
   clear c4 k4 K3
   go_wp2_with fail
   refine c5.mono ?_
   rintro e w5 ⟨rfl,k5⟩
   have hb:=K4.out.trans (k5.mono K4.out.size)
   clear c5
   go_wp2_with fail
   go_ret
   exact ⟨rfl,hb⟩
end Sa
end Go.Proofs.YtgpcilepkmckeaaDoor
namespace Go.Proofs.YtgpcilepkmckeaaDoor
open Go Go.Lib Go.RowKit
set_option maxRecDepth 100000
set_option linter.unusedSimpArgs false
namespace Rl
open Ver (MaxLen Signs)
def listed : List (String × DataW Unit) := [("chandler/version.signs", Rows.laid_chandler_version_signs)]
theorem maxLen_of {w:World} (h:w.ShapedOpen Tryd.prog):MaxLen w :=
 cell_of_shapedOpen_int (P:=Tryd.prog) (g:=1) (t:=3) (zero:=#[.int .i64 0]) (k:=.i64) h (by decide +kernel) (by kernel_rfl) rfl (by kernel_rfl) (by kernel_rfl) Tryd.underlying3
theorem signs_of_laid {W:World} (h:laidMetH Tryd.prog listed W):Signs W:=by
 intro i hi
 rw [MakeChecks.laidMetH_plain _ _ _ (by kernel_rfl)] at h
 obtain ⟨g,t,cs,fuel,p,hg,hty,hvar,hd⟩:=Lib.laidMet.reads h (.head _)
 have hgn : Tryd.prog.globalNamed "chandler/version.signs" = some 0 := by kernel_rfl
 have htn:(Tryd.prog.globals[0]?).map (·.type) = some 84:=by kernel_rfl
 obtain rfl:=Option.some.inj (hgn.symm.trans hg)
 obtain rfl:=Option.some.inj (htn.symm.trans hty)
 have hu:Tryd.prog.underlying 84 = some (.array 6 9):=by kernel_rfl
 have hc:Tryd.prog.cellsOf 9 = 1:=by kernel_rfl
 obtain ⟨fuel',d,q,hdi,he⟩:=Lib.array_elem hu hd i hi
 obtain ⟨s,hs1,hs2,_⟩:=DataW.trod_string (by kernel_rfl:Tryd.prog.underlying 9 = some .string) he
 rw [hc,Nat.mul_one] at hs1
 have hcell:cs.toList[i]? = some (.string s):=by
  have:=congrArg (·[0]?) hs1
  simpa [List.getElem?_take,List.getElem?_drop] using this
 rw [World.var?_cell hg hvar i,← Array.getElem?_toList,hcell]
 simp only [Prod.mk.injEq] at hs2
 obtain ⟨rfl,_⟩:=hs2
 have hS:∀ l:List UInt8,s.data.toList = l → s = ⟨l.toArray⟩:=fun l e=>by
  apply ByteArray.ext
  rw [← e]
 have hcase:i = 0 ∨ i = 1 ∨ i = 2 ∨ i = 3 ∨ i = 4 ∨ i = 5:=by omega
 rcases hcase with rfl | rfl | rfl | rfl | rfl | rfl
 all_goals
  simp only [Rows.laid_chandler_version_signs,List.getElem?_cons_zero,List.getElem?_cons_succ,Option.some.injEq,DataW.lit.injEq,Lit.string.injEq] at hdi
  rw [hS _ hdi.symm]
  rfl
theorem vars_of {W:World} (hL:laidMetH Tryd.prog listed W) (hSh:W.ShapedOpen Tryd.prog):Vars W:=⟨maxLen_of hSh,signs_of_laid hL⟩
end Rl
end Go.Proofs.YtgpcilepkmckeaaDoor

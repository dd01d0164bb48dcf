/-
Of no index. Packages have one order. The packages that every program must know: in memory, in order.
-/
import Derived.Test.YtelofmeapplfpaaGreatDoorAIxMeets
import Derived.Test.YtelofmeapplfpaaGreatDoorAIxNewM
namespace Go.Proofs.YtelofmeapplfpaaGreatDoor
open Go.RowKit
set_option linter.unusedSimpArgs false
set_option linter.unusedVariables false
namespace Ix
open Ver (Bs S)
open Rl (At aV)
set_option maxRecDepth 100000
theorem len_nil (w:World):Calls Tryz.prog 19 #[.pointer none] w fun e w'=>e = .returned (.int .i64 0) ∧ Below w.heap.size w w':=by
 go_enter Tryz.func19,Tryz.ntmps19
 go_wp2_with fail
 go_ret
 exact ⟨rfl,Below.refl _ _⟩
theorem names_nil (w:World):Calls Tryz.prog 21 #[.pointer none] w fun e w'=>e = .returned (.slice none 0 0) ∧ Below w.heap.size w w':=by
 go_enter Tryz.func21,Tryz.ntmps21
 go_wp2_with fail
 go_ret
 exact ⟨rfl,Below.refl _ _⟩
theorem of_nil (s:ByteArray) (w:World):Calls Tryz.prog 28 #[.pointer none,.string s] w fun e w'=>e = .returned (.slice none 0 0) ∧ Below w.heap.size w w':=by
 go_enter Tryz.func28,Tryz.ntmps28
 go_wp2_with fail
 go_ret
 exact ⟨rfl,Below.refl _ _⟩
theorem find_nil (s t:ByteArray) (w:World):Calls Tryz.prog 25 #[.pointer none,.string s,.string t] w fun e w'=>e = .returned (.tuple #[.int .i64 0,.bool false]) ∧ Below w.heap.size w w':=by
 have co:=of_nil s w
 go_enter Tryz.func25,Tryz.ntmps25
 go_wp2_with fail
 refine co.mono ?_
 rintro e w1 ⟨rfl,k1⟩
 clear co
 go_wp2_with fail
 go_loopg [14] 0 (fun gf s14 wx=>s14 = .int .i64 0 ∧ Below w.heap.size w wx)
 case atStart=>exact ⟨rfl,k1⟩
 case round =>
  obtain ⟨rfl,hb⟩:=hrel
  go_wp2_with fail
  go_ret2
  exact ⟨rfl,hb⟩
def pkZ:Value:=.agg #[.string ⟨#[]⟩,.string ⟨#[]⟩,.slice none 0 0,.slice none 0 0,.slice none 0 0,.slice none 0 0,.slice none 0 0,.slice none 0 0,.bool false]
set_option maxHeartbeats 1000000 in
theorem at_nil (i:Int) (w:World):Calls Tryz.prog 23 #[.pointer none,.int .i64 i] w fun e w'=>e = .returned (.tuple #[pkZ,.bool false]) ∧ Below w.heap.size w w':=by
 have hb1:=(Below.refl w.heap.size w).alloc (Nat.le_refl _) (.cells #[.string ⟨#[]⟩,.string ⟨#[]⟩,.slice none 0 0,.slice none 0 0,.slice none 0 0,.slice none 0 0,.slice none 0 0,.slice none 0 0,.bool false] 26)
 have i1:=Blk.Is.new w 26 #[.string ⟨#[]⟩,.string ⟨#[]⟩,.slice none 0 0,.slice none 0 0,.slice none 0 0,.slice none 0 0,.slice none 0 0,.slice none 0 0,.bool false]
 have HB:=Lib.hid hb1
 obtain ⟨W,hW⟩:∃ W,w.alloc (.cells #[.string ⟨#[]⟩,.string ⟨#[]⟩,.slice none 0 0,.slice none 0 0,.slice none 0 0,.slice none 0 0,.slice none 0 0,.slice none 0 0,.bool false] 26) = W:=⟨_,rfl⟩
 rw [hW] at HB i1
 have I1:=Lib.hid i1
 have HW:=Lib.hid hW
 clear hb1 i1 hW
 have cl:=len_nil W
 by_cases h:i < 0
 ·clear cl
  go_enter Tryz.func23,Tryz.ntmps23
  go_wp2_with fail
  rw [HW.out]
  have r0:=I1.out.at (i:=0) rfl
  have r1:=I1.out.at (i:=1) rfl
  have r2:=I1.out.at (i:=2) rfl
  have r3:=I1.out.at (i:=3) rfl
  have r4:=I1.out.at (i:=4) rfl
  have r5:=I1.out.at (i:=5) rfl
  have r6:=I1.out.at (i:=6) rfl
  have r7:=I1.out.at (i:=7) rfl
  have r8:=I1.out.at (i:=8) rfl
  refine bodyPost_ret (v:=.tuple #[pkZ,.bool false]) (by simp [results,Tryz.results23,go_sem,pkZ,r0,r1,r2,r3,r4,r5,r6,r7,r8]) rfl ?_

  exact ⟨rfl,HB.out⟩
 ·have h0:(0:Int) ≤ i:=by omega
  go_enter Tryz.func23,Tryz.ntmps23
  go_wp2_with (rw [HW.out])
  refine cl.mono ?_
  rintro e w1 ⟨rfl,k1⟩
  have hb:=HB.out.trans (k1.mono HB.out.size)
  have i1:=Rl.is_on I1.out k1
  have I2:=Lib.hid i1
  have HB2:=Lib.hid hb
  clear cl k1 i1 hb I1 HB HW
  have hi9:(Tryz.prog.info? 26).map (·.size) = some 9:=by kernel_rfl
  go_wp2_with (refine wpList_store_row rfl 26 (.tmp 4) (.tmp 14) rfl w.heap.size #[.string ⟨#[]⟩,.string ⟨#[]⟩,.slice none 0 0,.slice none 0 0,.slice none 0 0,.slice none 0 0,.slice none 0 0,.slice none 0 0,.bool false] rfl rfl 26 #[.string ⟨#[]⟩,.string ⟨#[]⟩,.slice none 0 0,.slice none 0 0,.slice none 0 0,.slice none 0 0,.slice none 0 0,.slice none 0 0,.bool false] I2.out hi9 (by rfl) (by simp [Value.oneCell']) ?_)
  have j1:=I2.out.row #[.string ⟨#[]⟩,.string ⟨#[]⟩,.slice none 0 0,.slice none 0 0,.slice none 0 0,.slice none 0 0,.slice none 0 0,.slice none 0 0,.bool false]
  have hbr:Below w.heap.size w (w1.setRow w.heap.size #[.string ⟨#[]⟩,.string ⟨#[]⟩,.slice none 0 0,.slice none 0 0,.slice none 0 0,.slice none 0 0,.slice none 0 0,.slice none 0 0,.bool false]):=HB2.out.trans ⟨rfl,rfl,rfl,by simp,fun k hk=>setRow_other w1 w.heap.size k _ (by omega)⟩
  generalize w1.setRow w.heap.size #[.string ⟨#[]⟩,.string ⟨#[]⟩,.slice none 0 0,.slice none 0 0,.slice none 0 0,.slice none 0 0,.slice none 0 0,.slice none 0 0,.bool false] = W2 at *
  have r0:=j1.at (i:=0) rfl
  have r1:=j1.at (i:=1) rfl
  have r2:=j1.at (i:=2) rfl
  have r3:=j1.at (i:=3) rfl
  have r4:=j1.at (i:=4) rfl
  have r5:=j1.at (i:=5) rfl
  have r6:=j1.at (i:=6) rfl
  have r7:=j1.at (i:=7) rfl
  have r8:=j1.at (i:=8) rfl
  refine bodyPost_ret (v:=.tuple #[pkZ,.bool false]) (by simp [results,Tryz.results23,go_sem,pkZ,r0,r1,r2,r3,r4,r5,r6,r7,r8]) rfl ?_
  exact ⟨rfl,hbr⟩
end Ix
end Go.Proofs.YtelofmeapplfpaaGreatDoor
namespace Go.Proofs.YtelofmeapplfpaaGreatDoor
open Go.RowKit
set_option linter.unusedSimpArgs false
set_option linter.unusedVariables false
namespace Ix
open Ver (Bs cmpV sameV orr)
open Rl (At Pv isV)
open Rc (Pk nPk mayAll twice again)
theorem orr_zero {p q:Int} (h:orr p q = 0):p = 0 ∧ q = 0:=by
 unfold orr at h
 split at h
 ·rename_i h1
  simp only [bne_iff_ne,ne_eq] at h1
  exact absurd h h1
 ·rename_i h1
  refine ⟨by simpa using h1,h⟩
theorem again_of {p q:Pk} (hp:isV p.vs = true) (hq:isV q.vs = true) (h:cmpP p q = 0):again p q = true:=by
 unfold cmpP at h
 obtain ⟨h1,h2⟩:=orr_zero h
 unfold again sameV
 rw [cb_zero h1]
 have h3:cmpV p.vs q.vs = 0:=by rw [Ver.cmpV_turn]; omega
 unfold isV at hp hq
 simp [h3,hp,hq]
theorem twice_no {l:List Pk} (h:twice l = false) {i j:Nat} (hij:i < j) (hj:j < l.length):again (l.getD j nPk) (l.getD i nPk) = false:=by
 unfold twice at h
 rw [List.any_eq_false] at h
 have h1:=h j (List.mem_range.2 hj)
 rw [Bool.not_eq_true,List.any_eq_false] at h1
 have h2:=h1 (l.getD i nPk) (by
  rw [List.mem_iff_getElem?]
  refine ⟨i,?_⟩
  rw [List.getElem?_take,if_pos hij,List.getD_eq_getElem?_getD,List.getElem?_eq_getElem (by omega)]
  rfl)
 simpa using h2
theorem one_of {l:List Pk} (h:MayL l) {p q:Pk} (hp:p ∈ l) (hq:q ∈ l) (h0:cmpP p q = 0):p = q:=by
 obtain ⟨i,hi⟩:=List.mem_iff_getElem?.1 hp
 obtain ⟨j,hj⟩:=List.mem_iff_getElem?.1 hq
 have il:=(List.getElem?_eq_some_iff.1 hi).1
 have jl:=(List.getElem?_eq_some_iff.1 hj).1
 have gi:=get_getD hi nPk
 have gj:=get_getD hj nPk
 have vp:=(h.each p hp).ver
 have vq:=(h.each q hq).ver
 rcases Nat.lt_trichotomy i j with h1 | h1 | h1
 ·have:=twice_no h.once h1 jl
  rw [gi,gj,again_of vq vp (by rw [cmpP_turn]; omega)] at this
  cases this
 ·subst h1
  rw [hi] at hj
  exact Option.some.inj hj
 ·have:=twice_no h.once h1 il
  rw [gi,gj,again_of vp vq h0] at this
  cases this
theorem Sorts.pairwise {l xs:List Pk} (h:Sorts l xs):xs.Pairwise fun p q=>¬ cmpP q p < 0:=by
 rw [List.pairwise_iff_getElem]
 intro i j hi hj hij
 have:=h.2 i j hij hj
 rw [List.getD_eq_getElem?_getD,List.getElem?_eq_getElem hj,List.getD_eq_getElem?_getD,List.getElem?_eq_getElem hi] at this
 exact this
theorem sorts_one {l m xs ys:List Pk} (h:MayL l) (hm:m.Perm l) (hx:Sorts l xs) (hy:Sorts m ys):xs = ys:=by
 refine List.Perm.eq_of_pairwise (le:=fun p q=>¬ cmpP q p < 0) (fun a b ha hb h1 h2=>?_) hx.pairwise hy.pairwise (hx.1.trans (hm.symm.trans hy.1.symm))
 have ha':=hx.1.mem_iff.1 ha
 have hb':=hm.mem_iff.1 (hy.1.mem_iff.1 hb)
 refine one_of h ha' hb' ?_
 have:=cmpP_turn a b
 omega
end Ix
end Go.Proofs.YtelofmeapplfpaaGreatDoor
namespace Go.Proofs.YtelofmeapplfpaaGreatDoor
open Go.RowKit
set_option linter.unusedSimpArgs false
set_option linter.unusedVariables false
namespace Ix
open Ver (Bs S)
open Rl (At Pv Slc Pvs Ats Clss)
open Rc (Pk nPk mayAll Pks PkC CAt Has)
def aw1:Pk:=⟨[97,97],[49],[],[],[],[],[],[],false⟩
def aw2:Pk:=⟨[98,98],[49],[],[],[],[],[],[([97,97],[51])],false⟩
def aw3:Pk:=⟨[97,97],[50],[],[],[],[],[],[],false⟩
def awA:At:=([97,97],4,[50])
theorem aw_may:mayAll [aw1,aw2,aw3] = 0:=by decide +kernel
theorem aw_sorts:Sorts [aw1,aw2,aw3] [aw3,aw1,aw2]:=by
 refine ⟨(List.perm_append_comm (l₁:=[aw3]) (l₂:=[aw1,aw2])),fun i j hij hj=>?_⟩
 have hj3:j < 3:=hj
 rcases i with _ | _ | i
 ·rcases j with _ | _ | _ | j
  ·omega
  ·decide +kernel
  ·decide +kernel
  ·omega
 ·rcases j with _ | _ | _ | j
  ·omega
  ·omega
  ·decide +kernel
  ·omega
 ·omega
theorem aw_one {xs:List Pk} (h:Sorts [aw1,aw2,aw3] xs):xs = [aw3,aw1,aw2]:=sorts_one (mayAll_of aw_may) (List.Perm.refl _) h aw_sorts
theorem aw_mt:mt [aw3,aw1,aw2] awA = [0,2]:=by decide +kernel
theorem aw_lim:∀ x ∈ [aw1,aw2,aw3],x.Lim:=by
 intro x hx
 simp only [List.mem_cons,List.not_mem_nil,or_false] at hx
 rcases hx with rfl | rfl | rfl
 all_goals
  refine ⟨by decide,by decide,?_,?_,?_,?_,?_,?_⟩
  all_goals
   intro y hy
   first
    | (cases hy; done)
    | (simp only [aw2,List.mem_singleton] at hy; subst hy; exact ⟨by decide,by decide⟩)
theorem slc_nil {α:Type} (sz:Nat) (z:α) (P:World → Nat → Nat → α → Prop) (w:World):Slc sz z P w (.slice none 0 0) []:=⟨by simp,none,0,rfl,by simp,fun h=>absurd h (by simp)⟩
def awC1:List Value:=[.string (S [97,97]),.string (S [49]),.slice none 0 0,.slice none 0 0,.slice none 0 0,.slice none 0 0,.slice none 0 0,.slice none 0 0,.bool false]
def awC2 (b:Nat):List Value:=[.string (S [98,98]),.string (S [49]),.slice none 0 0,.slice none 0 0,.slice none 0 0,.slice none 0 0,.slice none 0 0,.slice (some ⟨b,0,none⟩) 1 1,.bool false]
def awC3:List Value:=[.string (S [97,97]),.string (S [50]),.slice none 0 0,.slice none 0 0,.slice none 0 0,.slice none 0 0,.slice none 0 0,.slice none 0 0,.bool false]
def awR (b:Nat):Array Value:=(awC1 ++ awC2 b ++ awC3).toArray
theorem at_of {w:World} {b:Nat} {T:TypeId} {cs:Array Value} (h:Blk.Is w b T cs) {o:Nat} {xs:List Value} (hx:∀ j,j < xs.length → cs[o + j]? = xs[j]?):∀ j u,xs[j]? = some u → w.cell? ⟨b,o + j,none⟩ = some u:=fun j u hj =>
 h.at ((hx j (List.getElem?_eq_some_iff.1 hj).1).trans hj)
theorem aw_row (w:World):∃ W1 W,w.alloc (.cells #[.string (S [97,97]),.string (S [51])] 63) = W1 ∧ W1.alloc (.cells (awR w.heap.size) 26) = W ∧ W1.heap.size = w.heap.size + 1 ∧ Below w.heap.size w W ∧ Pks W (.slice (some ⟨w.heap.size + 1,0,none⟩) 3 3) [aw1,aw2,aw3]:=by
 have h1:(w.alloc (.cells #[.string (S [97,97]),.string (S [51])] 63)).heap.size = w.heap.size + 1:=by simp
 have b1:=(Below.refl w.heap.size w).alloc (Nat.le_refl _) (.cells #[.string (S [97,97]),.string (S [51])] 63)
 have b2:=b1.alloc b1.size (.cells (awR w.heap.size) 26)
 have i1:=Blk.Is.new w 63 #[.string (S [97,97]),.string (S [51])]
 have i1':=i1.alloc (.cells (awR w.heap.size) 26)
 have i2:=Blk.Is.new (w.alloc (.cells #[.string (S [97,97]),.string (S [51])] 63)) 26 (awR w.heap.size)
 rw [h1] at i2
 refine ⟨_,_,rfl,rfl,h1,b2,by decide,some ⟨w.heap.size + 1,0,none⟩,3,rfl,by decide,fun _=>⟨w.heap.size + 1,0,rfl,fun i hi=>?_⟩⟩
 have hi3:i < 3:=hi
 have nc:∀ W,Clss W (.slice none 0 0) []:=fun W=>slc_nil _ _ _ _
 have na:∀ W,Ats W (.slice none 0 0) []:=fun W=>slc_nil _ _ _ _
 have np:∀ W,Pvs W (.slice none 0 0) []:=fun W=>slc_nil _ _ _ _
 rcases i with _ | _ | _ | i
 ·refine ⟨awC1,⟨_,_,_,_,_,_,rfl,nc _,nc _,nc _,na _,na _,np _⟩,at_of i2 fun j hj=>?_⟩
  have hj9:j < 9:=hj
  rcases j with _ | _ | _ | _ | _ | _ | _ | _ | _ | j
  all_goals first | rfl | omega
 ·refine ⟨awC2 w.heap.size,⟨_,_,_,_,_,_,rfl,nc _,nc _,nc _,na _,na _,⟨by decide,some ⟨w.heap.size,0,none⟩,1,rfl,by decide,fun _=>⟨w.heap.size,0,rfl,fun i hi=>?_⟩⟩⟩,at_of i2 fun j hj=>?_⟩
  ·have:i = 0:=by have:i < 1:=hi; omega
   subst this
   exact ⟨i1'.at (i:=0) rfl,i1'.at (i:=1) rfl⟩
  ·have hj9:j < 9:=hj
   rcases j with _ | _ | _ | _ | _ | _ | _ | _ | _ | j
   all_goals first | rfl | omega
 ·refine ⟨awC3,⟨_,_,_,_,_,_,rfl,nc _,nc _,nc _,na _,na _,np _⟩,at_of i2 fun j hj=>?_⟩
  have hj9:j < 9:=hj
  rcases j with _ | _ | _ | _ | _ | _ | _ | _ | _ | j
  all_goals first | rfl | omega
 ·omega
end Ix
end Go.Proofs.YtelofmeapplfpaaGreatDoor

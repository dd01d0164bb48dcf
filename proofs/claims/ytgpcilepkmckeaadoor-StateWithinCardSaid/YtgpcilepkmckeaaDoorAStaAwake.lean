/-
What every program must know of states: the law's awake.
-/
import Derived.Test.YtgpcilepkmckeaaDoorAStaWrong
import Derived.Test.YtgpcilepkmckeaaDoorAStaVis
namespace Go.Proofs.YtgpcilepkmckeaaDoor
open Go.RowKit
set_option linter.unusedSimpArgs false
set_option linter.unusedVariables false
namespace Sa
open Ver (Bs S S_li)
open Rl (At Pv Slc Pvs Ats Clss Vars nA)
open Rc (Pk nPk En nEn EnC CAt Has Ens)
def awA:At:=([98,98],0,[])
def aw1:En:=⟨⟨[97,97],[49],[],[[awA]],[],[],[],[],false⟩,true,false⟩
def aw2:En:=⟨⟨[98,98],[49],[],[],[],[],[],[],false⟩,false,false⟩
def awS:List En:=[aw1,aw2]
theorem aw_wr:Sa.wr awS = [(1,[97,97],false,0,[])]:=by decide +kernel
theorem aw_few:Few awS:=by
 refine ⟨by decide,?_,?_,?_⟩
 all_goals
  intro x hx
  simp only [awS,List.mem_cons,List.not_mem_nil,or_false] at hx
  rcases hx with rfl | rfl <;> decide
theorem aw_lim:LimS awS:=by
 intro x hx
 simp only [awS,List.mem_cons,List.not_mem_nil,or_false] at hx
 rcases hx with rfl | rfl
 all_goals
  refine ⟨by decide,by decide,?_,?_,?_,?_,?_,?_⟩
  all_goals
   intro y hy
   first
    | (cases hy; done)
    | (simp only [aw1,List.mem_singleton] at hy; subst hy; intro z hz; simp only [List.mem_singleton] at hz; subst hz; exact ⟨by decide,by decide⟩)
theorem slc_nil {α:Type} (sz:Nat) (z:α) (P:World → Nat → Nat → α → Prop) (w:World):Slc sz z P w (.slice none 0 0) []:=⟨by simp,none,0,rfl,by simp,fun h=>absurd h (by simp)⟩
def c1 (b1:Nat):List Value:=[.string ⟨#[97,97]⟩,.string ⟨#[49]⟩,.slice none 0 0,.slice (some ⟨b1,0,none⟩) 1 1,.slice none 0 0,.slice none 0 0,.slice none 0 0,.slice none 0 0,.bool false]
def c2:List Value:=[.string ⟨#[98,98]⟩,.string ⟨#[49]⟩,.slice none 0 0,.slice none 0 0,.slice none 0 0,.slice none 0 0,.slice none 0 0,.slice none 0 0,.bool false]
theorem at_of {w:World} {b:Nat} {T:TypeId} {cs:Array Value} (h:Blk.Is w b T cs) {o:Nat} {xs:List Value} (hx:∀ j,j < xs.length → cs[o + j]? = xs[j]?):∀ j u,xs[j]? = some u → w.cell? ⟨b,o + j,none⟩ = some u:=fun j u hj =>
 h.at ((hx j (List.getElem?_eq_some_iff.1 hj).1).trans hj)
theorem aw_ens {w:World} {b0 b1 b3:Nat} (h0:Blk.Is w b0 47 #[.string ⟨#[98,98]⟩,.int .i64 0,.string ⟨#[]⟩]) (h1:Blk.Is w b1 41 #[.slice (some ⟨b0,0,none⟩) 1 1]) (h3:Blk.Is w b3 38 #[.string ⟨#[97,97]⟩,.string ⟨#[49]⟩,.slice none 0 0,.slice (some ⟨b1,0,none⟩) 1 1,.slice none 0 0,.slice none 0 0,.slice none 0 0,.slice none 0 0,.bool false,.bool true,.bool false,.string ⟨#[98,98]⟩,.string ⟨#[49]⟩,.slice none 0 0,.slice none 0 0,.slice none 0 0,.slice none 0 0,.slice none 0 0,.slice none 0 0,.bool false,.bool false,.bool false]):Ens w (.slice (some ⟨b3,0,none⟩) 2 2) awS:=by
 have nc:Clss w (.slice none 0 0) []:=slc_nil _ _ _ _
 have na:Ats w (.slice none 0 0) []:=slc_nil _ _ _ _
 have np:Pvs w (.slice none 0 0) []:=slc_nil _ _ _ _
 have ha:Ats w (.slice (some ⟨b0,0,none⟩) 1 1) [awA]:=⟨by decide,_,_,rfl,by decide,fun _=>⟨b0,0,rfl,fun i hi=>by
  have:i = 0:=by have:i < 1:=hi; omega
  subst this
  exact ⟨h0.at (i:=0) rfl,h0.at (i:=1) rfl,h0.at (i:=2) rfl⟩⟩⟩
 have hd:Clss w (.slice (some ⟨b1,0,none⟩) 1 1) [[awA]]:=⟨by decide,_,_,rfl,by decide,fun _=>⟨b1,0,rfl,fun i hi=>by
  have:i = 0:=by have:i < 1:=hi; omega
  subst this
  exact ⟨_,h1.at (i:=0) rfl,ha⟩⟩⟩
 refine ⟨by decide,some ⟨b3,0,none⟩,2,rfl,by decide,fun _=>⟨b3,0,rfl,fun i hi=>?_⟩⟩
 have hi2:i < 2:=hi
 rcases i with _ | _ | i
 ·refine ⟨c1 b1 ++ [.bool true,.bool false],⟨_,_,_,_,_,_,rfl,nc,hd,nc,na,na,np⟩,at_of h3 fun j hj=>?_⟩
  have hj11:j < 11:=hj
  rcases j with _ | _ | _ | _ | _ | _ | _ | _ | _ | _ | _ | j
  all_goals first | rfl | omega
 ·refine ⟨c2 ++ [.bool false,.bool false],⟨_,_,_,_,_,_,rfl,nc,nc,nc,na,na,np⟩,at_of h3 fun j hj=>?_⟩
  have hj11:j < 11:=hj
  rcases j with _ | _ | _ | _ | _ | _ | _ | _ | _ | _ | _ | j
  all_goals first | rfl | omega
 ·omega
set_option maxRecDepth 100000 in
set_option maxHeartbeats 4000000 in
theorem awake_any (w:World) (hv:Vars w) :
  Calls Tryd.prog 11 #[] w fun e w'=>e = .returned (.bool true) ∧ Below w.heap.size w w':=by
 have b0:=(Below.refl w.heap.size w).alloc (Nat.le_refl _) (.cells #[.string ⟨#[98,98]⟩,.int .i64 0,.string ⟨#[]⟩] 47)
 have i0:=Blk.Is.new w 47 #[.string ⟨#[98,98]⟩,.int .i64 0,.string ⟨#[]⟩]
 obtain ⟨g0,hg0⟩:∃ g,w.heap.size = g:=⟨_,rfl⟩
 obtain ⟨W0,hW0⟩:∃ W,w.alloc (.cells #[.string ⟨#[98,98]⟩,.int .i64 0,.string ⟨#[]⟩] 47) = W:=⟨_,rfl⟩
 have s0:W0.heap.size = g0 + 1:=by rw [← hW0,← hg0]; simp
 rw [hW0] at b0 i0
 rw [hg0] at i0
 have b1:=b0.alloc b0.size (.cells #[.slice (some ⟨g0,0,none⟩) 1 1] 41)
 have i0:=i0.alloc (.cells #[.slice (some ⟨g0,0,none⟩) 1 1] 41)
 have i1:=Blk.Is.new W0 41 #[.slice (some ⟨g0,0,none⟩) 1 1]
 obtain ⟨W1,hW1⟩:∃ W,W0.alloc (.cells #[.slice (some ⟨g0,0,none⟩) 1 1] 41) = W:=⟨_,rfl⟩
 have s1:W1.heap.size = g0 + 2:=by rw [← hW1]; simp [s0]
 rw [hW1] at b1 i0 i1
 rw [s0] at i1
 have b2:=b1.alloc b1.size (.cells #[.string ⟨#[97,97]⟩,.string ⟨#[49]⟩,.slice none 0 0,.slice (some ⟨g0 + 1,0,none⟩) 1 1,.slice none 0 0,.slice none 0 0,.slice none 0 0,.slice none 0 0,.bool false] 36)
 have i0:=i0.alloc (.cells #[.string ⟨#[97,97]⟩,.string ⟨#[49]⟩,.slice none 0 0,.slice (some ⟨g0 + 1,0,none⟩) 1 1,.slice none 0 0,.slice none 0 0,.slice none 0 0,.slice none 0 0,.bool false] 36)
 have i1:=i1.alloc (.cells #[.string ⟨#[97,97]⟩,.string ⟨#[49]⟩,.slice none 0 0,.slice (some ⟨g0 + 1,0,none⟩) 1 1,.slice none 0 0,.slice none 0 0,.slice none 0 0,.slice none 0 0,.bool false] 36)
 have i2:=Blk.Is.new W1 36 #[.string ⟨#[97,97]⟩,.string ⟨#[49]⟩,.slice none 0 0,.slice (some ⟨g0 + 1,0,none⟩) 1 1,.slice none 0 0,.slice none 0 0,.slice none 0 0,.slice none 0 0,.bool false]
 obtain ⟨W2,hW2⟩:∃ W,W1.alloc (.cells #[.string ⟨#[97,97]⟩,.string ⟨#[49]⟩,.slice none 0 0,.slice (some ⟨g0 + 1,0,none⟩) 1 1,.slice none 0 0,.slice none 0 0,.slice none 0 0,.slice none 0 0,.bool false] 36) = W:=⟨_,rfl⟩
 have s2:W2.heap.size = g0 + 3:=by rw [← hW2]; simp [s1]
 rw [hW2] at b2 i0 i1 i2
 rw [s1] at i2
 have b3:=b2.alloc b2.size (.cells #[.string ⟨#[97,97]⟩,.string ⟨#[49]⟩,.slice none 0 0,.slice (some ⟨g0 + 1,0,none⟩) 1 1,.slice none 0 0,.slice none 0 0,.slice none 0 0,.slice none 0 0,.bool false,.bool true,.bool false,.string ⟨#[98,98]⟩,.string ⟨#[49]⟩,.slice none 0 0,.slice none 0 0,.slice none 0 0,.slice none 0 0,.slice none 0 0,.slice none 0 0,.bool false,.bool false,.bool false] 38)
 have i0':=i0.alloc (.cells #[.string ⟨#[97,97]⟩,.string ⟨#[49]⟩,.slice none 0 0,.slice (some ⟨g0 + 1,0,none⟩) 1 1,.slice none 0 0,.slice none 0 0,.slice none 0 0,.slice none 0 0,.bool false,.bool true,.bool false,.string ⟨#[98,98]⟩,.string ⟨#[49]⟩,.slice none 0 0,.slice none 0 0,.slice none 0 0,.slice none 0 0,.slice none 0 0,.slice none 0 0,.bool false,.bool false,.bool false] 38)
 have i1':=i1.alloc (.cells #[.string ⟨#[97,97]⟩,.string ⟨#[49]⟩,.slice none 0 0,.slice (some ⟨g0 + 1,0,none⟩) 1 1,.slice none 0 0,.slice none 0 0,.slice none 0 0,.slice none 0 0,.bool false,.bool true,.bool false,.string ⟨#[98,98]⟩,.string ⟨#[49]⟩,.slice none 0 0,.slice none 0 0,.slice none 0 0,.slice none 0 0,.slice none 0 0,.slice none 0 0,.bool false,.bool false,.bool false] 38)
 have i3:=Blk.Is.new W2 38 #[.string ⟨#[97,97]⟩,.string ⟨#[49]⟩,.slice none 0 0,.slice (some ⟨g0 + 1,0,none⟩) 1 1,.slice none 0 0,.slice none 0 0,.slice none 0 0,.slice none 0 0,.bool false,.bool true,.bool false,.string ⟨#[98,98]⟩,.string ⟨#[49]⟩,.slice none 0 0,.slice none 0 0,.slice none 0 0,.slice none 0 0,.slice none 0 0,.slice none 0 0,.bool false,.bool false,.bool false]
 obtain ⟨W3,hW3⟩:∃ W,W2.alloc (.cells #[.string ⟨#[97,97]⟩,.string ⟨#[49]⟩,.slice none 0 0,.slice (some ⟨g0 + 1,0,none⟩) 1 1,.slice none 0 0,.slice none 0 0,.slice none 0 0,.slice none 0 0,.bool false,.bool true,.bool false,.string ⟨#[98,98]⟩,.string ⟨#[49]⟩,.slice none 0 0,.slice none 0 0,.slice none 0 0,.slice none 0 0,.slice none 0 0,.slice none 0 0,.bool false,.bool false,.bool false] 38) = W:=⟨_,rfl⟩
 rw [hW3] at b3 i0' i1' i3
 rw [s2] at i3
 have ca:=wrong_any _ awS W3 (aw_ens i0' i1' i3) aw_lim (hv.on b3) aw_few
 rw [aw_wr] at ca
 have HB:=Lib.hid b3
 have u0:=hW0
 have u1:=hW1
 have U2:=Lib.hid hW2
 have U3:=Lib.hid hW3
 have I2:=Lib.hid i2
 clear b0 i0 b1 i1 b2 i2 b3 i0' i1' i3 hv hW0 hW1 hW2 hW3
 go_enter Tryd.func11,Tryd.ntmps11
 go_upto_region 2 with fail
 rw [U2.out]
 have z0:=I2.out.at (i:=0) rfl
 have z1:=I2.out.at (i:=1) rfl
 have z2:=I2.out.at (i:=2) rfl
 have z3:=I2.out.at (i:=3) rfl
 have z4:=I2.out.at (i:=4) rfl
 have z5:=I2.out.at (i:=5) rfl
 have z6:=I2.out.at (i:=6) rfl
 have z7:=I2.out.at (i:=7) rfl
 have z8:=I2.out.at (i:=8) rfl
 have u3:=U3.out
 clear u0 u1
 go_wp2_with fail
 refine ca.mono ?_
 rintro e w1 ⟨v,rfl,ho,k1⟩
 have hb1:=Lib.hid (HB.out.trans (k1.mono HB.out.size))
 obtain ⟨ra,rc,rfl,_⟩:=Rl.own_slice ho (by decide)
 have y0:w1.cell? ⟨ra,0,none⟩ = some (.int .i64 1):=Rl.own_cell ho (i:=0) rfl
 have y1:w1.cell? ⟨ra,1,none⟩ = some (.string ⟨#[97,97]⟩):=Rl.own_cell ho (i:=1) rfl
 have y2:w1.cell? ⟨ra,2,none⟩ = some (.bool false):=Rl.own_cell ho (i:=2) rfl
 have y3:w1.cell? ⟨ra,3,none⟩ = some (.int .i64 0):=Rl.own_cell ho (i:=3) rfl
 have y4:w1.cell? ⟨ra,4,none⟩ = some (.string ⟨#[]⟩):=Rl.own_cell ho (i:=4) rfl
 have heq:=eqVi2 (1,[97,97],false,0,[]) (1,[97,97],false,0,[])
 rw [decide_eq_true rfl] at heq
 have e9:viV (1,[97,97],false,0,[]) = .agg #[.int .i64 1,.string ⟨#[97,97]⟩,.bool false,.int .i64 0,.string ⟨#[]⟩]:=rfl
 rw [e9] at heq
 have hg:=guardVi
 have hl:([(1,[97,97],false,0,[])]:List Vi).length = 1:=rfl
 rw [hl]
 clear ca ho k1 hl e9 u3 s0 s1 s2 z0 z1 z2 z3 z4 z5 z6 z7 z8
 go_wp2_with fail
 go_ret
 exact ⟨rfl,hb1.out⟩
end Sa
end Go.Proofs.YtgpcilepkmckeaaDoor

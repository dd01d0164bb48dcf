/-
The mathematics of states: which wholes are healthy; what fewer relations, holds make of what is wrong. Violations compared: SameWrong, slices.Index, slices.Contains, Within and the reference's. What every program must know of states: the law's awake.
-/
import Derived.Test.YtgpcilepkmckeaaGreatDoorEStaDef
import Derived.Test.YtgpcilepkmckeaaGreatDoorEIxSat
import Derived.Test.YtgpcilepkmckeaaGreatDoorEStaUnm
import Derived.Test.YtgpcilepkmckeaaGreatDoorERelUni
import Derived.BigQuiet
import Derived.Test.YtgpcilepkmckeaaGreatDoorEStaWrong
namespace Go.Proofs.YtgpcilepkmckeaaGreatDoor
open Go.RowKit
set_option linter.unusedSimpArgs false
set_option linter.unusedVariables false
namespace Sa
open Ver (Bs li S)
open Rl (At Pv Slc nA mem_getD)
open Rc (Pk nPk En nEn)
open Ix (sat)
def conf (l:List Pk):List En:=l.map fun p=>⟨p,true,false⟩
def done (s:List En):List Pk:=(s.filter fun x=>x.cfg).map En.pk
theorem getD_of {α:Type} {l:List α} {z:α} {i:Nat} (hi:i < l.length):l.getD i z = l[i]:=by
 rw [List.getD_eq_getElem?_getD,List.getElem?_eq_getElem hi]; rfl
theorem nodup_iff {l:List Pk}:(l.map Pk.nm).Nodup ↔ ∀ i,i < l.length → ∀ j,j < i → (l.getD j nPk).nm ≠ (l.getD i nPk).nm:=by
 unfold List.Nodup
 rw [List.pairwise_iff_getElem]
 constructor
 ·intro h i hi j hj
  have:=h j i (by rw [List.length_map]; omega) (by rw [List.length_map]; omega) hj
  rw [List.getElem_map,List.getElem_map] at this
  rwa [getD_of (by omega),getD_of hi]
 ·intro h i j hi hj hij
  rw [List.length_map] at hi hj
  have:=h j hj i hij
  rw [getD_of hi,getD_of hj] at this
  rwa [List.getElem_map,List.getElem_map]
end Sa
end Go.Proofs.YtgpcilepkmckeaaGreatDoor
namespace Go.Proofs.YtgpcilepkmckeaaGreatDoor
open Go.RowKit
set_option linter.unusedSimpArgs false
set_option linter.unusedVariables false
namespace Sa
open Ver (Bs li li_len S S_self S_size S_li)
open Rl (At Pv Ats Pvs Clss Slc LimA LimP LimC Vars aV nA mem_getD S_eq S_beq same_all drewn_below drewn_more)
set_option maxRecDepth 100000 in
theorem eqVi (x y:Vi) (w:World):(Op.equalIn 10000 58 (viV x) (viV y)).run Tryz.prog w = .ok (decide (x = y)) w:=by
 obtain ⟨a0,a1,a2,a3,a4⟩:=x
 obtain ⟨b0,b1,b2,b3,b4⟩:=y
 unfold viV
 have hu:Tryz.prog.underlying 58 = some (.struct (Tryz.prog.fieldsOf 58)):=by kernel_rfl
 have hp:Tryz.prog.stoodInHeld 58 = false:=by kernel_rfl
 rw [run_equalIn_struct w 9999 58 _ _ hu hp]
 have h1:=S_eq a1 b1
 have h2:=S_eq a4 b4
 simp only [go_sem,Tryz.underlying58]
 simp [go_sem,h1,h2]
 by_cases e0:a0 = b0 <;> by_cases e1:a1 = b1 <;> by_cases e2:a2 = b2 <;> by_cases e3:a3 = b3 <;> by_cases e4:a4 = b4 <;> simp [e0,e1,e2,e3,e4]
theorem eqVi2 (x y:Vi) (w:World):(binOp .eql 58 (viV x) (viV y)).run Tryz.prog w = .ok (.bool (decide (x = y))) w:=by
 have h:=eqVi x y w
 unfold viV at h ⊢
 rw [run_eql_struct,h]; rfl
theorem guardVi:Tryz.prog.eqGuardType Tryz.prog.depth 58 = false:=by kernel_rfl
end Sa
end Go.Proofs.YtgpcilepkmckeaaGreatDoor
namespace Go.Proofs.YtgpcilepkmckeaaGreatDoor
open Go.RowKit
set_option linter.unusedSimpArgs false
set_option linter.unusedVariables false
namespace Sa
open Ver (Bs S S_li)
open Rl (At Pv Slc Pvs Ats Clss Vars nA)
open Rc (Pk nPk En nEn EnC CAt Has Ens)
def awA:At:=([98,98],0,[])
def aw1:En:=⟨⟨[97,97],[49],[],[[awA]],[],[],[],[],false⟩,true,false⟩
def aw2:En:=⟨⟨[98,98],[49],[],[],[],[],[],[],false⟩,false,false⟩
def awS:List En:=[aw1,aw2]
theorem aw_wr:Sa.wr awS = [(1,[97,97],false,0,[])]:=by decide +kernel
theorem aw_few:Few awS:=by
 refine ⟨by decide,?_,?_,?_⟩
 all_goals
  intro x hx
  simp only [awS,List.mem_cons,List.not_mem_nil,or_false] at hx
  rcases hx with rfl | rfl <;> decide
theorem aw_lim:LimS awS:=by
 intro x hx
 simp only [awS,List.mem_cons,List.not_mem_nil,or_false] at hx
 rcases hx with rfl | rfl
 all_goals
  refine ⟨by decide,by decide,?_,?_,?_,?_,?_,?_⟩
  all_goals
   intro y hy
   first
    | (cases hy; done)
    | (simp only [aw1,List.mem_singleton] at hy; subst hy; intro z hz; simp only [List.mem_singleton] at hz; subst hz; exact ⟨by decide,by decide⟩)
theorem slc_nil {α:Type} (sz:Nat) (z:α) (P:World → Nat → Nat → α → Prop) (w:World):Slc sz z P w (.slice none 0 0) []:=⟨by simp,none,0,rfl,by simp,fun h=>absurd h (by simp)⟩
def c1 (b1:Nat):List Value:=[.string ⟨#[97,97]⟩,.string ⟨#[49]⟩,.slice none 0 0,.slice (some ⟨b1,0,none⟩) 1 1,.slice none 0 0,.slice none 0 0,.slice none 0 0,.slice none 0 0,.bool false]
def c2:List Value:=[.string ⟨#[98,98]⟩,.string ⟨#[49]⟩,.slice none 0 0,.slice none 0 0,.slice none 0 0,.slice none 0 0,.slice none 0 0,.slice none 0 0,.bool false]
theorem at_of {w:World} {b:Nat} {T:TypeId} {cs:Array Value} (h:Blk.Is w b T cs) {o:Nat} {xs:List Value} (hx:∀ j,j < xs.length → cs[o + j]? = xs[j]?):∀ j u,xs[j]? = some u → w.cell? ⟨b,o + j,none⟩ = some u:=fun j u hj =>
 h.at ((hx j (List.getElem?_eq_some_iff.1 hj).1).trans hj)
theorem aw_ens {w:World} {b0 b1 b3:Nat} (h0:Blk.Is w b0 56 #[.string ⟨#[98,98]⟩,.int .i64 0,.string ⟨#[]⟩]) (h1:Blk.Is w b1 50 #[.slice (some ⟨b0,0,none⟩) 1 1]) (h3:Blk.Is w b3 45 #[.string ⟨#[97,97]⟩,.string ⟨#[49]⟩,.slice none 0 0,.slice (some ⟨b1,0,none⟩) 1 1,.slice none 0 0,.slice none 0 0,.slice none 0 0,.slice none 0 0,.bool false,.bool true,.bool false,.string ⟨#[98,98]⟩,.string ⟨#[49]⟩,.slice none 0 0,.slice none 0 0,.slice none 0 0,.slice none 0 0,.slice none 0 0,.slice none 0 0,.bool false,.bool false,.bool false]):Ens w (.slice (some ⟨b3,0,none⟩) 2 2) awS:=by
 have nc:Clss w (.slice none 0 0) []:=slc_nil _ _ _ _
 have na:Ats w (.slice none 0 0) []:=slc_nil _ _ _ _
 have np:Pvs w (.slice none 0 0) []:=slc_nil _ _ _ _
 have ha:Ats w (.slice (some ⟨b0,0,none⟩) 1 1) [awA]:=⟨by decide,_,_,rfl,by decide,fun _=>⟨b0,0,rfl,fun i hi=>by
  have:i = 0:=by have:i < 1:=hi; omega
  subst this
  exact ⟨h0.at (i:=0) rfl,h0.at (i:=1) rfl,h0.at (i:=2) rfl⟩⟩⟩
 have hd:Clss w (.slice (some ⟨b1,0,none⟩) 1 1) [[awA]]:=⟨by decide,_,_,rfl,by decide,fun _=>⟨b1,0,rfl,fun i hi=>by
  have:i = 0:=by have:i < 1:=hi; omega
  subst this
  exact ⟨_,h1.at (i:=0) rfl,ha⟩⟩⟩
 refine ⟨by decide,some ⟨b3,0,none⟩,2,rfl,by decide,fun _=>⟨b3,0,rfl,fun i hi=>?_⟩⟩
 have hi2:i < 2:=hi
 rcases i with _ | _ | i
 ·refine ⟨c1 b1 ++ [.bool true,.bool false],⟨_,_,_,_,_,_,rfl,nc,hd,nc,na,na,np⟩,at_of h3 fun j hj=>?_⟩
  have hj11:j < 11:=hj
  rcases j with _ | _ | _ | _ | _ | _ | _ | _ | _ | _ | _ | j
  all_goals first | rfl | omega
 ·refine ⟨c2 ++ [.bool false,.bool false],⟨_,_,_,_,_,_,rfl,nc,nc,nc,na,na,np⟩,at_of h3 fun j hj=>?_⟩
  have hj11:j < 11:=hj
  rcases j with _ | _ | _ | _ | _ | _ | _ | _ | _ | _ | _ | j
  all_goals first | rfl | omega
 ·omega
set_option maxRecDepth 100000 in
set_option maxHeartbeats 4000000 in
theorem awake_any (w:World) (hv:Vars w) :
  Calls Tryz.prog 9 #[] w fun e w'=>e = .returned (.bool true) ∧ Below w.heap.size w w':=by
 have b0:=(Below.refl w.heap.size w).alloc (Nat.le_refl _) (.cells #[.string ⟨#[98,98]⟩,.int .i64 0,.string ⟨#[]⟩] 56)
 have i0:=Blk.Is.new w 56 #[.string ⟨#[98,98]⟩,.int .i64 0,.string ⟨#[]⟩]
 obtain ⟨g0,hg0⟩:∃ g,w.heap.size = g:=⟨_,rfl⟩
 obtain ⟨W0,hW0⟩:∃ W,w.alloc (.cells #[.string ⟨#[98,98]⟩,.int .i64 0,.string ⟨#[]⟩] 56) = W:=⟨_,rfl⟩
 have s0:W0.heap.size = g0 + 1:=by rw [← hW0,← hg0]; simp
 rw [hW0] at b0 i0
 rw [hg0] at i0
 have b1:=b0.alloc b0.size (.cells #[.slice (some ⟨g0,0,none⟩) 1 1] 50)
 have i0:=i0.alloc (.cells #[.slice (some ⟨g0,0,none⟩) 1 1] 50)
 have i1:=Blk.Is.new W0 50 #[.slice (some ⟨g0,0,none⟩) 1 1]
 obtain ⟨W1,hW1⟩:∃ W,W0.alloc (.cells #[.slice (some ⟨g0,0,none⟩) 1 1] 50) = W:=⟨_,rfl⟩
 have s1:W1.heap.size = g0 + 2:=by rw [← hW1]; simp [s0]
 rw [hW1] at b1 i0 i1
 rw [s0] at i1
 have b2:=b1.alloc b1.size (.cells #[.string ⟨#[97,97]⟩,.string ⟨#[49]⟩,.slice none 0 0,.slice (some ⟨g0 + 1,0,none⟩) 1 1,.slice none 0 0,.slice none 0 0,.slice none 0 0,.slice none 0 0,.bool false] 40)
 have i0:=i0.alloc (.cells #[.string ⟨#[97,97]⟩,.string ⟨#[49]⟩,.slice none 0 0,.slice (some ⟨g0 + 1,0,none⟩) 1 1,.slice none 0 0,.slice none 0 0,.slice none 0 0,.slice none 0 0,.bool false] 40)
 have i1:=i1.alloc (.cells #[.string ⟨#[97,97]⟩,.string ⟨#[49]⟩,.slice none 0 0,.slice (some ⟨g0 + 1,0,none⟩) 1 1,.slice none 0 0,.slice none 0 0,.slice none 0 0,.slice none 0 0,.bool false] 40)
 have i2:=Blk.Is.new W1 40 #[.string ⟨#[97,97]⟩,.string ⟨#[49]⟩,.slice none 0 0,.slice (some ⟨g0 + 1,0,none⟩) 1 1,.slice none 0 0,.slice none 0 0,.slice none 0 0,.slice none 0 0,.bool false]
 obtain ⟨W2,hW2⟩:∃ W,W1.alloc (.cells #[.string ⟨#[97,97]⟩,.string ⟨#[49]⟩,.slice none 0 0,.slice (some ⟨g0 + 1,0,none⟩) 1 1,.slice none 0 0,.slice none 0 0,.slice none 0 0,.slice none 0 0,.bool false] 40) = W:=⟨_,rfl⟩
 have s2:W2.heap.size = g0 + 3:=by rw [← hW2]; simp [s1]
 rw [hW2] at b2 i0 i1 i2
 rw [s1] at i2
 have b3:=b2.alloc b2.size (.cells #[.string ⟨#[97,97]⟩,.string ⟨#[49]⟩,.slice none 0 0,.slice (some ⟨g0 + 1,0,none⟩) 1 1,.slice none 0 0,.slice none 0 0,.slice none 0 0,.slice none 0 0,.bool false,.bool true,.bool false,.string ⟨#[98,98]⟩,.string ⟨#[49]⟩,.slice none 0 0,.slice none 0 0,.slice none 0 0,.slice none 0 0,.slice none 0 0,.slice none 0 0,.bool false,.bool false,.bool false] 45)
 have i0':=i0.alloc (.cells #[.string ⟨#[97,97]⟩,.string ⟨#[49]⟩,.slice none 0 0,.slice (some ⟨g0 + 1,0,none⟩) 1 1,.slice none 0 0,.slice none 0 0,.slice none 0 0,.slice none 0 0,.bool false,.bool true,.bool false,.string ⟨#[98,98]⟩,.string ⟨#[49]⟩,.slice none 0 0,.slice none 0 0,.slice none 0 0,.slice none 0 0,.slice none 0 0,.slice none 0 0,.bool false,.bool false,.bool false] 45)
 have i1':=i1.alloc (.cells #[.string ⟨#[97,97]⟩,.string ⟨#[49]⟩,.slice none 0 0,.slice (some ⟨g0 + 1,0,none⟩) 1 1,.slice none 0 0,.slice none 0 0,.slice none 0 0,.slice none 0 0,.bool false,.bool true,.bool false,.string ⟨#[98,98]⟩,.string ⟨#[49]⟩,.slice none 0 0,.slice none 0 0,.slice none 0 0,.slice none 0 0,.slice none 0 0,.slice none 0 0,.bool false,.bool false,.bool false] 45)
 have i3:=Blk.Is.new W2 45 #[.string ⟨#[97,97]⟩,.string ⟨#[49]⟩,.slice none 0 0,.slice (some ⟨g0 + 1,0,none⟩) 1 1,.slice none 0 0,.slice none 0 0,.slice none 0 0,.slice none 0 0,.bool false,.bool true,.bool false,.string ⟨#[98,98]⟩,.string ⟨#[49]⟩,.slice none 0 0,.slice none 0 0,.slice none 0 0,.slice none 0 0,.slice none 0 0,.slice none 0 0,.bool false,.bool false,.bool false]
 obtain ⟨W3,hW3⟩:∃ W,W2.alloc (.cells #[.string ⟨#[97,97]⟩,.string ⟨#[49]⟩,.slice none 0 0,.slice (some ⟨g0 + 1,0,none⟩) 1 1,.slice none 0 0,.slice none 0 0,.slice none 0 0,.slice none 0 0,.bool false,.bool true,.bool false,.string ⟨#[98,98]⟩,.string ⟨#[49]⟩,.slice none 0 0,.slice none 0 0,.slice none 0 0,.slice none 0 0,.slice none 0 0,.slice none 0 0,.bool false,.bool false,.bool false] 45) = W:=⟨_,rfl⟩
 rw [hW3] at b3 i0' i1' i3
 rw [s2] at i3
 have ca:=wrong_any _ awS W3 (aw_ens i0' i1' i3) aw_lim (hv.on b3) aw_few
 rw [aw_wr] at ca
 have HB:=Lib.hid b3
 have u0:=hW0
 have u1:=hW1
 have U2:=Lib.hid hW2
 have U3:=Lib.hid hW3
 have I2:=Lib.hid i2
 clear b0 i0 b1 i1 b2 i2 b3 i0' i1' i3 hv hW0 hW1 hW2 hW3
 go_enter Tryz.func9,Tryz.ntmps9
 go_upto_region 2 with fail
 rw [U2.out]
 have z0:=I2.out.at (i:=0) rfl
 have z1:=I2.out.at (i:=1) rfl
 have z2:=I2.out.at (i:=2) rfl
 have z3:=I2.out.at (i:=3) rfl
 have z4:=I2.out.at (i:=4) rfl
 have z5:=I2.out.at (i:=5) rfl
 have z6:=I2.out.at (i:=6) rfl
 have z7:=I2.out.at (i:=7) rfl
 have z8:=I2.out.at (i:=8) rfl
 have u3:=U3.out
 clear u0 u1
 go_wp2_with fail
 refine ca.mono ?_
 rintro e w1 ⟨v,rfl,ho,k1⟩
 have hb1:=Lib.hid (HB.out.trans (k1.mono HB.out.size))
 obtain ⟨ra,rc,rfl,_⟩:=Rl.own_slice ho (by decide)
 have y0:w1.cell? ⟨ra,0,none⟩ = some (.int .i64 1):=Rl.own_cell ho (i:=0) rfl
 have y1:w1.cell? ⟨ra,1,none⟩ = some (.string ⟨#[97,97]⟩):=Rl.own_cell ho (i:=1) rfl
 have y2:w1.cell? ⟨ra,2,none⟩ = some (.bool false):=Rl.own_cell ho (i:=2) rfl
 have y3:w1.cell? ⟨ra,3,none⟩ = some (.int .i64 0):=Rl.own_cell ho (i:=3) rfl
 have y4:w1.cell? ⟨ra,4,none⟩ = some (.string ⟨#[]⟩):=Rl.own_cell ho (i:=4) rfl
 have heq:=eqVi2 (1,[97,97],false,0,[]) (1,[97,97],false,0,[])
 rw [decide_eq_true rfl] at heq
 have e9:viV (1,[97,97],false,0,[]) = .agg #[.int .i64 1,.string ⟨#[97,97]⟩,.bool false,.int .i64 0,.string ⟨#[]⟩]:=rfl
 rw [e9] at heq
 have hg:=guardVi
 have hl:([(1,[97,97],false,0,[])]:List Vi).length = 1:=rfl
 rw [hl]
 clear ca ho k1 hl e9 u3 s0 s1 s2 z0 z1 z2 z3 z4 z5 z6 z7 z8
 go_wp2_with fail
 go_ret
 exact ⟨rfl,hb1.out⟩
end Sa
end Go.Proofs.YtgpcilepkmckeaaGreatDoor

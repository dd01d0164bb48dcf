/-
What every program must know of states: the law's awake. The packages of entries: the law's bare.
-/
import Derived.Test.YtgpcilepkmckeaaGreatDoorCStaWrong
import Derived.Test.YtgpcilepkmckeaaGreatDoorCStaVis
import Derived.Test.YtgpcilepkmckeaaGreatDoorCIxDef
namespace Go.Proofs.YtgpcilepkmckeaaGreatDoor
open Go.RowKit
set_option linter.unusedSimpArgs false
set_option linter.unusedVariables false
namespace Sa
open Ver (Bs S S_li)
open Rl (At Pv Slc Pvs Ats Clss Vars nA)
open Rc (Pk nPk En nEn EnC CAt Has Ens)
def awA:At:=([98,98],0,[])
def aw1:En:=⟨⟨[97,97],[49],[],[[awA]],[],[],[],[],false⟩,true,false⟩
def aw2:En:=⟨⟨[98,98],[49],[],[],[],[],[],[],false⟩,false,false⟩
def awS:List En:=[aw1,aw2]
theorem aw_wr:Sa.wr awS = [(1,[97,97],false,0,[])]:=by decide +kernel
theorem aw_few:Few awS:=by
 refine ⟨by decide,?_,?_,?_⟩
 all_goals
  intro x hx
  simp only [awS,List.mem_cons,List.not_mem_nil,or_false] at hx
  rcases hx with rfl | rfl <;> decide
theorem aw_lim:LimS awS:=by
 intro x hx
 simp only [awS,List.mem_cons,List.not_mem_nil,or_false] at hx
 rcases hx with rfl | rfl
 all_goals
  refine ⟨by decide,by decide,?_,?_,?_,?_,?_,?_⟩
  all_goals
   intro y hy
   first
    | (cases hy; done)
    | (simp only [aw1,List.mem_singleton] at hy; subst hy; intro z hz; simp only [List.mem_singleton] at hz; subst hz; exact ⟨by decide,by decide⟩)
theorem slc_nil {α:Type} (sz:Nat) (z:α) (P:World → Nat → Nat → α → Prop) (w:World):Slc sz z P w (.slice none 0 0) []:=⟨by simp,none,0,rfl,by simp,fun h=>absurd h (by simp)⟩
def c1 (b1:Nat):List Value:=[.string ⟨#[97,97]⟩,.string ⟨#[49]⟩,.slice none 0 0,.slice (some ⟨b1,0,none⟩) 1 1,.slice none 0 0,.slice none 0 0,.slice none 0 0,.slice none 0 0,.bool false]
def c2:List Value:=[.string ⟨#[98,98]⟩,.string ⟨#[49]⟩,.slice none 0 0,.slice none 0 0,.slice none 0 0,.slice none 0 0,.slice none 0 0,.slice none 0 0,.bool false]
theorem at_of {w:World} {b:Nat} {T:TypeId} {cs:Array Value} (h:Blk.Is w b T cs) {o:Nat} {xs:List Value} (hx:∀ j,j < xs.length → cs[o + j]? = xs[j]?):∀ j u,xs[j]? = some u → w.cell? ⟨b,o + j,none⟩ = some u:=fun j u hj =>
 h.at ((hx j (List.getElem?_eq_some_iff.1 hj).1).trans hj)
theorem aw_ens {w:World} {b0 b1 b3:Nat} (h0:Blk.Is w b0 56 #[.string ⟨#[98,98]⟩,.int .i64 0,.string ⟨#[]⟩]) (h1:Blk.Is w b1 50 #[.slice (some ⟨b0,0,none⟩) 1 1]) (h3:Blk.Is w b3 45 #[.string ⟨#[97,97]⟩,.string ⟨#[49]⟩,.slice none 0 0,.slice (some ⟨b1,0,none⟩) 1 1,.slice none 0 0,.slice none 0 0,.slice none 0 0,.slice none 0 0,.bool false,.bool true,.bool false,.string ⟨#[98,98]⟩,.string ⟨#[49]⟩,.slice none 0 0,.slice none 0 0,.slice none 0 0,.slice none 0 0,.slice none 0 0,.slice none 0 0,.bool false,.bool false,.bool false]):Ens w (.slice (some ⟨b3,0,none⟩) 2 2) awS:=by
 have nc:Clss w (.slice none 0 0) []:=slc_nil _ _ _ _
 have na:Ats w (.slice none 0 0) []:=slc_nil _ _ _ _
 have np:Pvs w (.slice none 0 0) []:=slc_nil _ _ _ _
 have ha:Ats w (.slice (some ⟨b0,0,none⟩) 1 1) [awA]:=⟨by decide,_,_,rfl,by decide,fun _=>⟨b0,0,rfl,fun i hi=>by
  have:i = 0:=by have:i < 1:=hi; omega
  subst this
  exact ⟨h0.at (i:=0) rfl,h0.at (i:=1) rfl,h0.at (i:=2) rfl⟩⟩⟩
 have hd:Clss w (.slice (some ⟨b1,0,none⟩) 1 1) [[awA]]:=⟨by decide,_,_,rfl,by decide,fun _=>⟨b1,0,rfl,fun i hi=>by
  have:i = 0:=by have:i < 1:=hi; omega
  subst this
  exact ⟨_,h1.at (i:=0) rfl,ha⟩⟩⟩
 refine ⟨by decide,some ⟨b3,0,none⟩,2,rfl,by decide,fun _=>⟨b3,0,rfl,fun i hi=>?_⟩⟩
 have hi2:i < 2:=hi
 rcases i with _ | _ | i
 ·refine ⟨c1 b1 ++ [.bool true,.bool false],⟨_,_,_,_,_,_,rfl,nc,hd,nc,na,na,np⟩,at_of h3 fun j hj=>?_⟩
  have hj11:j < 11:=hj
  rcases j with _ | _ | _ | _ | _ | _ | _ | _ | _ | _ | _ | j
  all_goals first | rfl | omega
 ·refine ⟨c2 ++ [.bool false,.bool false],⟨_,_,_,_,_,_,rfl,nc,nc,nc,na,na,np⟩,at_of h3 fun j hj=>?_⟩
  have hj11:j < 11:=hj
  rcases j with _ | _ | _ | _ | _ | _ | _ | _ | _ | _ | _ | j
  all_goals first | rfl | omega
 ·omega
set_option maxRecDepth 100000 in
set_option maxHeartbeats 4000000 in
theorem awake_any (w:World) (hv:Vars w) :
  Calls Tryz.prog 9 #[] w fun e w'=>e = .returned (.bool true) ∧ Below w.heap.size w w':=by
 have b0:=(Below.refl w.heap.size w).alloc (Nat.le_refl _) (.cells #[.string ⟨#[98,98]⟩,.int .i64 0,.string ⟨#[]⟩] 56)
 have i0:=Blk.Is.new w 56 #[.string ⟨#[98,98]⟩,.int .i64 0,.string ⟨#[]⟩]
 obtain ⟨g0,hg0⟩:∃ g,w.heap.size = g:=⟨_,rfl⟩
 obtain ⟨W0,hW0⟩:∃ W,w.alloc (.cells #[.string ⟨#[98,98]⟩,.int .i64 0,.string ⟨#[]⟩] 56) = W:=⟨_,rfl⟩
 have s0:W0.heap.size = g0 + 1:=by rw [← hW0,← hg0]; simp
 rw [hW0] at b0 i0
 rw [hg0] at i0
 have b1:=b0.alloc b0.size (.cells #[.slice (some ⟨g0,0,none⟩) 1 1] 50)
 have i0:=i0.alloc (.cells #[.slice (some ⟨g0,0,none⟩) 1 1] 50)
 have i1:=Blk.Is.new W0 50 #[.slice (some ⟨g0,0,none⟩) 1 1]
 obtain ⟨W1,hW1⟩:∃ W,W0.alloc (.cells #[.slice (some ⟨g0,0,none⟩) 1 1] 50) = W:=⟨_,rfl⟩
 have s1:W1.heap.size = g0 + 2:=by rw [← hW1]; simp [s0]
 rw [hW1] at b1 i0 i1
 rw [s0] at i1
 have b2:=b1.alloc b1.size (.cells #[.string ⟨#[97,97]⟩,.string ⟨#[49]⟩,.slice none 0 0,.slice (some ⟨g0 + 1,0,none⟩) 1 1,.slice none 0 0,.slice none 0 0,.slice none 0 0,.slice none 0 0,.bool false] 40)
 have i0:=i0.alloc (.cells #[.string ⟨#[97,97]⟩,.string ⟨#[49]⟩,.slice none 0 0,.slice (some ⟨g0 + 1,0,none⟩) 1 1,.slice none 0 0,.slice none 0 0,.slice none 0 0,.slice none 0 0,.bool false] 40)
 have i1:=i1.alloc (.cells #[.string ⟨#[97,97]⟩,.string ⟨#[49]⟩,.slice none 0 0,.slice (some ⟨g0 + 1,0,none⟩) 1 1,.slice none 0 0,.slice none 0 0,.slice none 0 0,.slice none 0 0,.bool false] 40)
 have i2:=Blk.Is.new W1 40 #[.string ⟨#[97,97]⟩,.string ⟨#[49]⟩,.slice none 0 0,.slice (some ⟨g0 + 1,0,none⟩) 1 1,.slice none 0 0,.slice none 0 0,.slice none 0 0,.slice none 0 0,.bool false]
 obtain ⟨W2,hW2⟩:∃ W,W1.alloc (.cells #[.string ⟨#[97,97]⟩,.string ⟨#[49]⟩,.slice none 0 0,.slice (some ⟨g0 + 1,0,none⟩) 1 1,.slice none 0 0,.slice none 0 0,.slice none 0 0,.slice none 0 0,.bool false] 40) = W:=⟨_,rfl⟩
 have s2:W2.heap.size = g0 + 3:=by rw [← hW2]; simp [s1]
 rw [hW2] at b2 i0 i1 i2
 rw [s1] at i2
 have b3:=b2.alloc b2.size (.cells #[.string ⟨#[97,97]⟩,.string ⟨#[49]⟩,.slice none 0 0,.slice (some ⟨g0 + 1,0,none⟩) 1 1,.slice none 0 0,.slice none 0 0,.slice none 0 0,.slice none 0 0,.bool false,.bool true,.bool false,.string ⟨#[98,98]⟩,.string ⟨#[49]⟩,.slice none 0 0,.slice none 0 0,.slice none 0 0,.slice none 0 0,.slice none 0 0,.slice none 0 0,.bool false,.bool false,.bool false] 45)
 have i0':=i0.alloc (.cells #[.string ⟨#[97,97]⟩,.string ⟨#[49]⟩,.slice none 0 0,.slice (some ⟨g0 + 1,0,none⟩) 1 1,.slice none 0 0,.slice none 0 0,.slice none 0 0,.slice none 0 0,.bool false,.bool true,.bool false,.string ⟨#[98,98]⟩,.string ⟨#[49]⟩,.slice none 0 0,.slice none 0 0,.slice none 0 0,.slice none 0 0,.slice none 0 0,.slice none 0 0,.bool false,.bool false,.bool false] 45)
 have i1':=i1.alloc (.cells #[.string ⟨#[97,97]⟩,.string ⟨#[49]⟩,.slice none 0 0,.slice (some ⟨g0 + 1,0,none⟩) 1 1,.slice none 0 0,.slice none 0 0,.slice none 0 0,.slice none 0 0,.bool false,.bool true,.bool false,.string ⟨#[98,98]⟩,.string ⟨#[49]⟩,.slice none 0 0,.slice none 0 0,.slice none 0 0,.slice none 0 0,.slice none 0 0,.slice none 0 0,.bool false,.bool false,.bool false] 45)
 have i3:=Blk.Is.new W2 45 #[.string ⟨#[97,97]⟩,.string ⟨#[49]⟩,.slice none 0 0,.slice (some ⟨g0 + 1,0,none⟩) 1 1,.slice none 0 0,.slice none 0 0,.slice none 0 0,.slice none 0 0,.bool false,.bool true,.bool false,.string ⟨#[98,98]⟩,.string ⟨#[49]⟩,.slice none 0 0,.slice none 0 0,.slice none 0 0,.slice none 0 0,.slice none 0 0,.slice none 0 0,.bool false,.bool false,.bool false]
 obtain ⟨W3,hW3⟩:∃ W,W2.alloc (.cells #[.string ⟨#[97,97]⟩,.string ⟨#[49]⟩,.slice none 0 0,.slice (some ⟨g0 + 1,0,none⟩) 1 1,.slice none 0 0,.slice none 0 0,.slice none 0 0,.slice none 0 0,.bool false,.bool true,.bool false,.string ⟨#[98,98]⟩,.string ⟨#[49]⟩,.slice none 0 0,.slice none 0 0,.slice none 0 0,.slice none 0 0,.slice none 0 0,.slice none 0 0,.bool false,.bool false,.bool false] 45) = W:=⟨_,rfl⟩
 rw [hW3] at b3 i0' i1' i3
 rw [s2] at i3
 have ca:=wrong_any _ awS W3 (aw_ens i0' i1' i3) aw_lim (hv.on b3) aw_few
 rw [aw_wr] at ca
 have HB:=Lib.hid b3
 have u0:=hW0
 have u1:=hW1
 have U2:=Lib.hid hW2
 have U3:=Lib.hid hW3
 have I2:=Lib.hid i2
 clear b0 i0 b1 i1 b2 i2 b3 i0' i1' i3 hv hW0 hW1 hW2 hW3
 go_enter Tryz.func9,Tryz.ntmps9
 go_upto_region 2 with fail
 rw [U2.out]
 have z0:=I2.out.at (i:=0) rfl
 have z1:=I2.out.at (i:=1) rfl
 have z2:=I2.out.at (i:=2) rfl
 have z3:=I2.out.at (i:=3) rfl
 have z4:=I2.out.at (i:=4) rfl
 have z5:=I2.out.at (i:=5) rfl
 have z6:=I2.out.at (i:=6) rfl
 have z7:=I2.out.at (i:=7) rfl
 have z8:=I2.out.at (i:=8) rfl
 have u3:=U3.out
 clear u0 u1
 go_wp2_with fail
 refine ca.mono ?_
 rintro e w1 ⟨v,rfl,ho,k1⟩
 have hb1:=Lib.hid (HB.out.trans (k1.mono HB.out.size))
 obtain ⟨ra,rc,rfl,_⟩:=Rl.own_slice ho (by decide)
 have y0:w1.cell? ⟨ra,0,none⟩ = some (.int .i64 1):=Rl.own_cell ho (i:=0) rfl
 have y1:w1.cell? ⟨ra,1,none⟩ = some (.string ⟨#[97,97]⟩):=Rl.own_cell ho (i:=1) rfl
 have y2:w1.cell? ⟨ra,2,none⟩ = some (.bool false):=Rl.own_cell ho (i:=2) rfl
 have y3:w1.cell? ⟨ra,3,none⟩ = some (.int .i64 0):=Rl.own_cell ho (i:=3) rfl
 have y4:w1.cell? ⟨ra,4,none⟩ = some (.string ⟨#[]⟩):=Rl.own_cell ho (i:=4) rfl
 have heq:=eqVi2 (1,[97,97],false,0,[]) (1,[97,97],false,0,[])
 rw [decide_eq_true rfl] at heq
 have e9:viV (1,[97,97],false,0,[]) = .agg #[.int .i64 1,.string ⟨#[97,97]⟩,.bool false,.int .i64 0,.string ⟨#[]⟩]:=rfl
 rw [e9] at heq
 have hg:=guardVi
 have hl:([(1,[97,97],false,0,[])]:List Vi).length = 1:=rfl
 rw [hl]
 clear ca ho k1 hl e9 u3 s0 s1 s2 z0 z1 z2 z3 z4 z5 z6 z7 z8
 go_wp2_with fail
 go_ret
 exact ⟨rfl,hb1.out⟩
end Sa
end Go.Proofs.YtgpcilepkmckeaaGreatDoor
namespace Go.Proofs.YtgpcilepkmckeaaGreatDoor
open Go.RowKit
set_option linter.unusedSimpArgs false
set_option linter.unusedVariables false
namespace Rc
open Ver (S)
theorem append_big {tS e:TypeId} {z:Value} {sz bytes:Nat} (hu:Tryz.prog.underlying tS = some (.slice e)) (hi:(Tryz.prog.info? e).map (fun i=>(i.zero,i.size,i.bytes)) = some (some z,sz,bytes)) (hz:z.cells.size = sz)
  {w:World} {ops:Array Oper} {rest:List Oper} {o:Oper} {a:Act} {Q:Exit → Act → World → Prop} (hgd:o.guard = none) (s x:Operand)
  (ho:o.op = .call { callee:=.builtin .append,args:=#[s,x],argTypes:=#[tS,tS] })
  (B:Nat) (v:Value) (n:Nat) (hv:a.eval s = v) (hown:∃ xs,w.ownsRow B e sz v n xs) (k:Nat) (c:Nat) (hx:a.eval x = .slice (some ⟨k,0,none⟩) 1 c) (news:List Value) (hnl:news.length = sz) (hc:∀ (j:Nat) u,news[j]? = some u → w.cell? ⟨k,j,none⟩ = some u)
  (ho1:∀ u ∈ news,u.oneCell' = true) (hn:(n + 1) * bytes ≤ 140737488355328) (hn2:n + 1 ≤ 4611686018427387904) (hB:B ≤ w.heap.size)
  (h:∀ v' w',(∀ xs,w.ownsRow B e sz v n xs → w'.ownsRow B e sz v' (n + 1) (xs ++ news)) → w.grownBy w' v.ownBlock → (∀ k,v'.ownBlock = some k → v.ownBlock = some k ∨ w.heap.size ≤ k) → wpList Tryz.prog ops Q rest (a.put o.dst v') w'):wpList Tryz.prog ops Q (o :: rest) a w:=by
 obtain ⟨i0,hi,hz0,hz1,hz2⟩:=info_parts hi
 have hsrc:Src Tryz.prog sz tS (.slice (some ⟨k,0,none⟩) 1 c) 1 news w:=by
  refine Src.ofSlice w hu ⟨k,0,none⟩ 1 c news (by rw [hnl,Nat.one_mul]) (fun j u hj=>?_) ho1
  have:=hc j u hj
  have e:(⟨k,0,none⟩:Addr).add j = ⟨k,j,none⟩:=by cases j <;> simp [Addr.add]
  rw [e]; exact this
 obtain ⟨xs,hown⟩:=hown
 refine wpList_plain hgd fun K hK=>?_
 obtain ⟨v',w',hr,h2,h3,h4⟩:=Own.run_append_src (P:=Tryz.prog) tS tS o.type B e i0 z sz bytes hu hi hz0 hz1 hz2 hz v n xs hown _ 1 news hsrc (by simp only [maxLen]; omega) hn hB
 unfold Oper.wp execOp
 simp only [ho,resolve,invoke,builtin,Sem.run_bind,Sem.run_pure,Result.andThen_ok,List.map_toArray,List.map_cons,List.map_nil,hv,hx,hr]
 refine hK _ _ (h v' w' (fun ys hys=>?_) h3 h4)
 have hxy:ys = xs:=by
  rcases hown.2 with ⟨e1,e2⟩ | ⟨g,cap,cur,e1,_,hh,_,_,_,ht⟩
  ·have h5:=hown.1
   have h6:=hys.1
   rw [e2,Nat.zero_mul] at h5 h6
   rw [List.eq_nil_of_length_eq_zero h5,List.eq_nil_of_length_eq_zero h6]
  ·subst e1
   rcases hys.2 with ⟨e3,_⟩ | ⟨g',cap',cur',e3,_,hh',_,_,_,ht'⟩
   ·cases e3
   ·simp only [Value.slice.injEq,Option.some.injEq,Addr.mk.injEq,and_true,true_and] at e3
    obtain ⟨rfl,rfl⟩:=e3
    rw [hh] at hh'
    cases hh'
    rw [← ht,← ht']
 rw [hxy]
 exact h2
end Rc
end Go.Proofs.YtgpcilepkmckeaaGreatDoor

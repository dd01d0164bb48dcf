/-
Packages, entries that came in. What the rows of package state list of variables; violations that came in. From a law's contract to its row, where the row lists variables: what is laid, the world's shape and the reach are handed to the contract; with the bound of the second form, and without.
-/
import Derived.Test.YtgpcilepkmckeaaGreatDoorERelArgs
import Derived.Test.YtgpcilepkmckeaaGreatDoorERecMem
import Derived.Test.YtgpcilepkmckeaaGreatDoorEStaDef
import Derived.LaidSub
import Derived.JoinedCond
import Derived.SizedLaws
import Derived.HandedShaped
import Derived.LaidLaws
namespace Go.Proofs.YtgpcilepkmckeaaGreatDoor
open Go.RowKit Go.ChangeShapes Go.WideShapes Go.Deep
set_option linter.unusedSimpArgs false
set_option linter.unusedVariables false
namespace Rc
open Rl (Wt clss_of ats_of pvs_of string_of slc_of)
section
variable {H:Type} {enc:TypeId × Value → H} {w:World}
theorem nine {α:Type}:∀ {l:List α},l.length = 9 → ∃ a b c d e f g h i,l = [a,b,c,d,e,f,g,h,i]
 | [a,b,c,d,e,f,g,h,i],_=>⟨a,b,c,d,e,f,g,h,i,rfl⟩
theorem elv {α:Type}:∀ {l:List α},l.length = 11 → ∃ a b c d e f g h i j k,l = [a,b,c,d,e,f,g,h,i,j,k]
 | [a,b,c,d,e,f,g,h,i,j,k],_=>⟨a,b,c,d,e,f,g,h,i,j,k,rfl⟩
theorem bool_of {n:Nat} {v:Value} {y:DataW H × List MemPlace} (h:DataW.trod enc Tryz.prog w 0 (fun _=>true) true n 4 [v] = some y):∃ k:Bool,v = .bool k:=by
 obtain ⟨k,hv,_⟩:=DataW.trod_bool Tryz.underlying4 h
 exact ⟨k,by simpa using hv⟩
set_option maxRecDepth 100000 in
theorem pk_of {n:Nat} {cs:List Value} {d:DataW H} {ps:List MemPlace} (h:DataW.trod enc Tryz.prog w 0 (fun _=>true) true n 40 cs = some (d,ps)) (hl:cs.length = 9) (hw:Wt 40 d):∃ p:Pk,PkC w cs p ∧ p.Lim:=by
 obtain ⟨xs,m,_,hx,_,hxl,hfs⟩:=DataW.trod_struct Tryz.underlying40 h
 obtain ⟨c0,c1,c2,c3,c4,c5,c6,c7,c8,rfl⟩:=nine hl
 obtain ⟨y0,y1,y2,y3,y4,y5,y6,y7,y8,rfl⟩:=nine hxl
 have cT:Tryz.prog.cellsOf 9 = 1:=by kernel_rfl
 have cB:Tryz.prog.cellsOf 4 = 1:=by kernel_rfl
 have cC:Tryz.prog.cellsOf 36 = 1:=by kernel_rfl
 have cA:Tryz.prog.cellsOf 37 = 1:=by kernel_rfl
 have cP:Tryz.prog.cellsOf 38 = 1:=by kernel_rfl
 have g0:=hfs 0 _ rfl
 have g1:=hfs 1 _ rfl
 have g2:=hfs 2 _ rfl
 have g3:=hfs 3 _ rfl
 have g4:=hfs 4 _ rfl
 have g5:=hfs 5 _ rfl
 have g6:=hfs 6 _ rfl
 have g7:=hfs 7 _ rfl
 have g8:=hfs 8 _ rfl
 simp [cT,cB,cC,cA,cP] at g0 g1 g2 g3 g4 g5 g6 g7 g8
 simp only [Prod.mk.injEq] at hx
 obtain ⟨rfl,_⟩:=hx
 obtain ⟨nm,rfl,hn⟩:=string_of (d:=y0.1) (ps:=y0.2) g0 (fun q hq=>hw q (by simp [DataW.weights,Tryz.underlying40,DataW.weightsEach,hq]))
 obtain ⟨vs,rfl,hv⟩:=string_of (d:=y1.1) (ps:=y1.2) g1 (fun q hq=>hw q (by simp [DataW.weights,Tryz.underlying40,DataW.weightsEach,hq]))
 obtain ⟨l2,h2,m2⟩:=clss_of (d:=y2.1) (ps:=y2.2) Tryz.underlying36 g2 (fun q hq=>hw q (by simp [DataW.weights,Tryz.underlying40,DataW.weightsEach,hq]))
 obtain ⟨l3,h3,m3⟩:=clss_of (d:=y3.1) (ps:=y3.2) Tryz.underlying36 g3 (fun q hq=>hw q (by simp [DataW.weights,Tryz.underlying40,DataW.weightsEach,hq]))
 obtain ⟨l4,h4,m4⟩:=clss_of (d:=y4.1) (ps:=y4.2) Tryz.underlying36 g4 (fun q hq=>hw q (by simp [DataW.weights,Tryz.underlying40,DataW.weightsEach,hq]))
 obtain ⟨l5,h5,m5⟩:=ats_of (d:=y5.1) (ps:=y5.2) Tryz.underlying37 g5 (fun q hq=>hw q (by simp [DataW.weights,Tryz.underlying40,DataW.weightsEach,hq]))
 obtain ⟨l6,h6,m6⟩:=ats_of (d:=y6.1) (ps:=y6.2) Tryz.underlying37 g6 (fun q hq=>hw q (by simp [DataW.weights,Tryz.underlying40,DataW.weightsEach,hq]))
 obtain ⟨l7,h7,m7⟩:=pvs_of (d:=y7.1) (ps:=y7.2) Tryz.underlying38 g7 (fun q hq=>hw q (by simp [DataW.weights,Tryz.underlying40,DataW.weightsEach,hq]))
 obtain ⟨b,rfl⟩:=bool_of (y:=y8) g8
 exact ⟨⟨nm,vs,l2,l3,l4,l5,l6,l7,b⟩,⟨_,_,_,_,_,_,rfl,⟨h2,h3,h4,h5,h6,h7⟩⟩,⟨hn,hv,m2,m3,m4,m5,m6,m7⟩⟩
set_option maxRecDepth 100000 in
theorem en_of {n:Nat} {cs:List Value} {d:DataW H} {ps:List MemPlace} (h:DataW.trod enc Tryz.prog w 0 (fun _=>true) true n 45 cs = some (d,ps)) (hl:cs.length = 11) (hw:Wt 45 d):∃ x:En,EnC w cs x ∧ x.pk.Lim:=by
 obtain ⟨xs,m,_,hx,_,hxl,hfs⟩:=DataW.trod_struct Tryz.underlying45 h
 obtain ⟨c0,c1,c2,c3,c4,c5,c6,c7,c8,c9,c10,rfl⟩:=elv hl
 obtain ⟨y0,y1,y2,rfl⟩:=Rl.three hxl
 have cB:Tryz.prog.cellsOf 4 = 1:=by kernel_rfl
 have cK:Tryz.prog.cellsOf 40 = 9:=by kernel_rfl
 have g0:=hfs 0 _ rfl
 have g1:=hfs 1 _ rfl
 have g2:=hfs 2 _ rfl
 simp [cB,cK] at g0 g1 g2
 simp only [Prod.mk.injEq] at hx
 obtain ⟨rfl,_⟩:=hx
 obtain ⟨p,hp,hL⟩:=pk_of (d:=y0.1) (ps:=y0.2) g0 rfl (fun q hq=>hw q (by simp [DataW.weights,Tryz.underlying45,DataW.weightsEach,hq]))
 obtain ⟨b1,rfl⟩:=bool_of (y:=y1) g1
 obtain ⟨b2,rfl⟩:=bool_of (y:=y2) g2
 obtain ⟨u1,u2,u3,u4,u5,u6,e,hh⟩:=hp
 simp only [List.cons.injEq,and_true] at e
 obtain ⟨rfl,rfl,rfl,rfl,rfl,rfl,rfl,rfl,rfl⟩:=e
 exact ⟨⟨p,b1,b2⟩,⟨_,_,_,_,_,_,rfl,hh⟩,hL⟩
theorem pks_of {t:TypeId} (ht:Tryz.prog.underlying t = some (.slice 40)) {n:Nat} {v:Value} {d:DataW H} {ps:List MemPlace} (h:DataW.trod enc Tryz.prog w 0 (fun _=>true) true n t [v] = some (d,ps)) (hw:Wt t d) :
  ∃ l,Pks w v l ∧ ∀ x ∈ l,x.Lim :=
 slc_of 9 nPk (CAt PkC) Pk.Lim ht (by kernel_rfl) (by omega) (by decide +kernel) (fun n k o cs d ps h hl hc hw=>by
  obtain ⟨p,hp,hL⟩:=pk_of h hl hw
  exact ⟨p,⟨cs,hp,fun j u hj=>(hc j (by rw [← hl]; exact (List.getElem?_eq_some_iff.1 hj).1)).trans hj⟩,hL⟩) h hw
theorem ens_of {t:TypeId} (ht:Tryz.prog.underlying t = some (.slice 45)) {n:Nat} {v:Value} {d:DataW H} {ps:List MemPlace} (h:DataW.trod enc Tryz.prog w 0 (fun _=>true) true n t [v] = some (d,ps)) (hw:Wt t d) :
  ∃ l,Ens w v l ∧ (∀ x ∈ l,x.pk.Lim) ∧ l.length * 184 ≤ 140737488355328:=by
 obtain ⟨l,h1,h2⟩:=slc_of 11 nEn (CAt EnC) (fun x=>x.pk.Lim) ht (by kernel_rfl) (by omega) (by decide +kernel) (fun n k o cs d ps h hl hc hw=>by
  obtain ⟨p,hp,hL⟩:=en_of h hl hw
  exact ⟨p,⟨cs,hp,fun j u hj=>(hc j (by rw [← hl]; exact (List.getElem?_eq_some_iff.1 hj).1)).trans hj⟩,hL⟩) h hw
 refine ⟨l,h1,h2,?_⟩
 obtain ⟨a0,cap0,e0⟩:=h1.shape
 rcases open_slice ht h with ⟨hcs,_⟩ | ⟨a,len,cap,m,n',D,Pl,hcs,_,hl,hm,hmm,hx,hat⟩
 ·obtain rfl:v = .slice none 0 0:=by simpa using hcs
  simp only [Value.slice.injEq] at e0
  rw [← e0.2.1]; omega
 ·obtain rfl:v = .slice (some a) len cap:=by simpa using hcs
  simp only [Value.slice.injEq] at e0
  simp only [Prod.mk.injEq] at hx
  obtain ⟨rfl,_⟩:=hx
  simp only [if_true] at hmm
  subst hmm
  have hrow:=hw.row ht
  rw [List.length_map,List.length_range] at hrow
  have hb:Tryz.prog.bytesOf 45 = 192:=by kernel_rfl
  rw [hb] at hrow
  unfold reachBytes at hrow
  rw [← e0.2.1]
  omega
end
end Rc
end Go.Proofs.YtgpcilepkmckeaaGreatDoor
namespace Go.Proofs.YtgpcilepkmckeaaGreatDoor
open Go Go.Lib Go.RowKit Go.ChangeShapes Go.WideShapes Go.Deep
set_option maxRecDepth 100000
set_option linter.unusedSimpArgs false
set_option linter.unusedVariables false
namespace Sa
open Rl (Wt Vars string_of int_of slc_of)
open Ver (S)
def listed : List (String × DataW Unit) := [("unicode/utf8.acceptRanges", Rows.laid_unicode_utf8_acceptRanges), ("chandler/version.signs", Rows.laid_chandler_version_signs), ("unicode/utf8.first", Rows.laid_unicode_utf8_first)]
theorem vars_of {W:World} (hL:laidMetH Tryz.prog listed W) (hSh:W.ShapedOpen Tryz.prog):Vars W :=
 Rl.vars_of (hL.filter (fun x => x.1 == "chandler/version.signs")) hSh
section
variable {H:Type} {enc:TypeId × Value → H} {w:World}
end
end Sa
end Go.Proofs.YtgpcilepkmckeaaGreatDoor
namespace Go.Proofs.YtgpcilepkmckeaaGreatDoor
open Go Go.ChangeShapes
variable {H:Type} {enc:TypeId × Value → H}
theorem laid_said {a:Assume} {C:Checked} {os:Os} {f:FuncId} {fn:Func} {s:ChangeSpec} {conds:List PathCond} {apart fresh handsOn again:Bool} {X:World → Array Value → Prop}
  (hX:∀ (w w':World) (args:Array Value),w.heap = w'.heap → X w args → X w' args)
  (own:ownKnob C.prog.godebug = none) (started:os.Started) (noInit:C.prog.inits.idxOf? f = none) (hfn:C.prog.funcs[f]? = some fn)
  (witness:∃ (w:World) (tape:Tape) (i:Input),w.os = os ∧ (w.forCall tape i).Shaped C.prog ∧ i.vars = [] ∧ Input.okWide C.prog (w.forCall tape i) .any w.heap.size f i ∧
   ((s.pre enc C.prog fn conds apart (w.forCall tape i).memory i.args ∧ X (w.forCall tape i).memory i.args) ∧ sizedMet enc C.prog fn (OpenSpec.ofChange s) apart (w.forCall tape i).memory i.args) ∧ a.holds C.prog (lone (Frame.enter C.prog f i.args .normal) [] (w.forCall tape i)))
  (contract:∀ (W:World) (base:Nat) (args:Array Value) (ds gs:List (DataW H)) (before:List MemPlace),
   (∀ (j:Nat) t v,fn.params[j]? = some t → args[j]? = some v → Value.okWide C.prog W .any base t v) →
   DataW.Whole enc C.prog fn.params.toList s.vars apart W args.toList ds gs before →
   conds.all (PathCond.test C.prog ⟨fn.params.toList,ds,s.plain.varTypes C.prog,gs⟩) = true →
   (DataW.weightsEach C.prog (fn.params.toList ++ s.plain.varTypes C.prog) (ds ++ gs)).all (· ≤ reachBytes) = true → X W args → W.ShapedOpen C.prog →
   a.holds C.prog (lone (Frame.enter C.prog f args .normal) [] W) →
   Calls C.prog f args W fun e W'=>∃ v,e = .returned v ∧ s.post enc C.prog fn apart fresh handsOn again W args v W') :
  ReturnsInHanded a C os f .any (fun w args=>(s.pre enc C.prog fn conds apart w args ∧ X w args) ∧ sizedMet enc C.prog fn (OpenSpec.ofChange s) apart w args) (s.post enc C.prog fn apart fresh handsOn again):=by
 refine returnsInHanded_of_calls own started noInit witness ?_
 intro w tape i _ hsh _ hok hpre hholds
 obtain ⟨_,_,_,fn',hfn',_,_,_,_,hval⟩:=hok
 have e:fn' = fn:=Option.some.inj (hfn'.symm.trans hfn)
 subst e
 obtain ⟨⟨⟨ds,gs,before,hw,hc⟩,hx⟩,hz⟩:=hpre
 have hw':=DataW.Whole.of_heap (w':=w.forCall tape i) (by rfl) hw
 refine (contract (w.forCall tape i) w.heap.size i.args ds gs before hval hw' hc (hz.weights hw) (hX _ _ _ (by rfl) hx) hsh hholds).mono fun e W' ⟨v,he,hp⟩=>?_
 subst he
 exact ChangeSpec.post_blind hp
end Go.Proofs.YtgpcilepkmckeaaGreatDoor

/-
What the rows of package state list of variables; violations that came in. From a law's contract to its row, where the row lists variables: what is laid, the world's shape and the reach are handed to the contract; with the bound of the second form, and without.
-/
import Derived.Test.YtgpcilepkmckeaaDoorARelTabs
import Derived.Test.YtgpcilepkmckeaaDoorARecArgs
import Derived.Test.YtgpcilepkmckeaaDoorAStaDef
import Derived.LaidSub
import Derived.JoinedCond
import Derived.SizedLaws
import Derived.HandedShaped
import Derived.LaidLaws
namespace Go.Proofs.YtgpcilepkmckeaaDoor
open Go Go.Lib Go.RowKit Go.ChangeShapes Go.WideShapes Go.Deep
set_option maxRecDepth 100000
set_option linter.unusedSimpArgs false
set_option linter.unusedVariables false
namespace Sa
open Rl (Wt Vars string_of int_of slc_of)
open Ver (S)
def listed : List (String × DataW Unit) := [("unicode/utf8.acceptRanges", Rows.laid_unicode_utf8_acceptRanges), ("chandler/version.signs", Rows.laid_chandler_version_signs), ("unicode/utf8.first", Rows.laid_unicode_utf8_first)]
theorem vars_of {W:World} (hL:laidMetH Tryd.prog listed W) (hSh:W.ShapedOpen Tryd.prog):Vars W :=
 Rl.vars_of (hL.filter (fun x => x.1 == "chandler/version.signs")) hSh
section
variable {H:Type} {enc:TypeId × Value → H} {w:World}
theorem five {α:Type}:∀ {l:List α},l.length = 5 → ∃ a b c d e,l = [a,b,c,d,e]
 | [a,b,c,d,e],_=>⟨a,b,c,d,e,rfl⟩
theorem vi_of {n k o:Nat} {cs:List Value} {d:DataW H} {ps:List MemPlace} (h:DataW.trod enc Tryd.prog w 0 (fun _=>true) true n 43 cs = some (d,ps)) (hl:cs.length = 5) (hc:∀ j,j < 5 → w.cell? ⟨k,o + j,none⟩ = cs[j]?) (hw:Wt 43 d):∃ x:Vi,ViAt w k o x ∧ True:=by
 obtain ⟨xs,m,_,hx,_,hxl,hfs⟩:=DataW.trod_struct Tryd.underlying43 h
 obtain ⟨v0,v1,v2,v3,v4,rfl⟩:=five hl
 obtain ⟨y0,y1,y2,y3,y4,rfl⟩:=five hxl
 have cT:Tryd.prog.cellsOf 9 = 1:=by kernel_rfl
 have cB:Tryd.prog.cellsOf 4 = 1:=by kernel_rfl
 have cI:Tryd.prog.cellsOf 3 = 1:=by kernel_rfl
 have g0:=hfs 0 _ rfl
 have g1:=hfs 1 _ rfl
 have g2:=hfs 2 _ rfl
 have g3:=hfs 3 _ rfl
 have g4:=hfs 4 _ rfl
 simp [cT,cB,cI] at g0 g1 g2 g3 g4
 simp only [Prod.mk.injEq] at hx
 obtain ⟨rfl,_⟩:=hx
 obtain ⟨a0,rfl⟩:=int_of (y:=y0) g0
 obtain ⟨a1,rfl,h1⟩:=string_of (d:=y1.1) (ps:=y1.2) g1 (fun q hq=>hw q (by simp [DataW.weights,Tryd.underlying43,DataW.weightsEach,hq]))
 obtain ⟨a2,rfl⟩:=Rc.bool_of (y:=y2) g2
 obtain ⟨a3,rfl⟩:=int_of (y:=y3) g3
 obtain ⟨a4,rfl,h4⟩:=string_of (d:=y4.1) (ps:=y4.2) g4 (fun q hq=>hw q (by simp [DataW.weights,Tryd.underlying43,DataW.weightsEach,hq]))
 exact ⟨(a0,a1,a2,a3,a4),⟨hc 0 (by omega),hc 1 (by omega),hc 2 (by omega),hc 3 (by omega),hc 4 (by omega)⟩,trivial⟩
theorem visa_of {t:TypeId} (ht:Tryd.prog.underlying t = some (.slice 43)) {n:Nat} {v:Value} {d:DataW H} {ps:List MemPlace} (h:DataW.trod enc Tryd.prog w 0 (fun _=>true) true n t [v] = some (d,ps)) (hw:Wt t d) :
  ∃ l,Vis w v l:=by
 obtain ⟨l,h1,_⟩:=slc_of 5 nVi ViAt (fun _=>True) ht (by kernel_rfl) (by omega) (by decide +kernel) (fun n k o cs d ps h hl hc hw=>vi_of h hl hc hw) h hw
 exact ⟨l,h1⟩
end
end Sa
end Go.Proofs.YtgpcilepkmckeaaDoor
namespace Go.Proofs.YtgpcilepkmckeaaDoor
open Go Go.ChangeShapes
variable {H:Type} {enc:TypeId × Value → H}
theorem laid_said {a:Assume} {C:Checked} {os:Os} {f:FuncId} {fn:Func} {s:ChangeSpec} {conds:List PathCond} {apart fresh handsOn again:Bool} {X:World → Array Value → Prop}
  (hX:∀ (w w':World) (args:Array Value),w.heap = w'.heap → X w args → X w' args)
  (own:ownKnob C.prog.godebug = none) (started:os.Started) (noInit:C.prog.inits.idxOf? f = none) (hfn:C.prog.funcs[f]? = some fn)
  (witness:∃ (w:World) (tape:Tape) (i:Input),w.os = os ∧ (w.forCall tape i).Shaped C.prog ∧ i.vars = [] ∧ Input.okWide C.prog (w.forCall tape i) .any w.heap.size f i ∧
   ((s.pre enc C.prog fn conds apart (w.forCall tape i).memory i.args ∧ X (w.forCall tape i).memory i.args) ∧ sizedMet enc C.prog fn (OpenSpec.ofChange s) apart (w.forCall tape i).memory i.args) ∧ a.holds C.prog (lone (Frame.enter C.prog f i.args .normal) [] (w.forCall tape i)))
  (contract:∀ (W:World) (base:Nat) (args:Array Value) (ds gs:List (DataW H)) (before:List MemPlace),
   (∀ (j:Nat) t v,fn.params[j]? = some t → args[j]? = some v → Value.okWide C.prog W .any base t v) →
   DataW.Whole enc C.prog fn.params.toList s.vars apart W args.toList ds gs before →
   conds.all (PathCond.test C.prog ⟨fn.params.toList,ds,s.plain.varTypes C.prog,gs⟩) = true →
   (DataW.weightsEach C.prog (fn.params.toList ++ s.plain.varTypes C.prog) (ds ++ gs)).all (· ≤ reachBytes) = true → X W args → W.ShapedOpen C.prog →
   a.holds C.prog (lone (Frame.enter C.prog f args .normal) [] W) →
   Calls C.prog f args W fun e W'=>∃ v,e = .returned v ∧ s.post enc C.prog fn apart fresh handsOn again W args v W') :
  ReturnsInHanded a C os f .any (fun w args=>(s.pre enc C.prog fn conds apart w args ∧ X w args) ∧ sizedMet enc C.prog fn (OpenSpec.ofChange s) apart w args) (s.post enc C.prog fn apart fresh handsOn again):=by
 refine returnsInHanded_of_calls own started noInit witness ?_
 intro w tape i _ hsh _ hok hpre hholds
 obtain ⟨_,_,_,fn',hfn',_,_,_,_,hval⟩:=hok
 have e:fn' = fn:=Option.some.inj (hfn'.symm.trans hfn)
 subst e
 obtain ⟨⟨⟨ds,gs,before,hw,hc⟩,hx⟩,hz⟩:=hpre
 have hw':=DataW.Whole.of_heap (w':=w.forCall tape i) (by rfl) hw
 refine (contract (w.forCall tape i) w.heap.size i.args ds gs before hval hw' hc (hz.weights hw) (hX _ _ _ (by rfl) hx) hsh hholds).mono fun e W' ⟨v,he,hp⟩=>?_
 subst he
 exact ChangeSpec.post_blind hp
end Go.Proofs.YtgpcilepkmckeaaDoor

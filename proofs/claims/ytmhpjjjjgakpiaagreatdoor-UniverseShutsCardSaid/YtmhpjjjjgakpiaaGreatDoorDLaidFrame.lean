/-
Texts that came in. From a law's contract to its row, where the row lists variables: what is laid, the world's shape and the reach are handed to the contract; with the bound of the second form, and without.
-/
import Derived.Test.YtmhpjjjjgakpiaaGreatDoorDStaTabs
import Derived.Test.YtmhpjjjjgakpiaaGreatDoorDIxMap
import Derived.Deep.SlicePairs
import Derived.SliceStrings
import Derived.SizedLaws
import Derived.JoinedCond
import Derived.HandedShaped
import Derived.LaidLaws
namespace Go.Proofs.YtmhpjjjjgakpiaaGreatDoor
open Go.RowKit Go.ChangeShapes Go.WideShapes Go.Deep
set_option linter.unusedSimpArgs false
set_option linter.unusedVariables false
namespace Un
open Rl (Wt spot)
open Ver (Bs S S_self)
section
variable {H:Type} {enc:TypeId × Value → H} {w:World}
theorem texts_of {n:Nat} {v:Value} {d:DataW H} {ps:List MemPlace} (h:DataW.trod enc Tryz.prog w 0 (fun _=>true) true n 32 [v] = some (d,ps)) (hw:Wt 32 d) :
  ∃ ls:List Bs,Txt.Texts w v (ls.map S) ∧ ∀ x ∈ ls,Ix.LimS x:=by
 rcases open_strings Tryz.underlying32 Tryz.underlying9 (by kernel_rfl) h with ⟨hcs,_⟩ | ⟨a,len,cap,ss,hcs,_,hl,hm,hss,hx,hcell,_⟩
 ·obtain rfl:v = .slice none 0 0:=by simpa using hcs
  exact ⟨[],⟨by simp,none,0,rfl,Nat.le_refl _,fun h=>absurd h (by simp)⟩,by simp⟩
 ·obtain rfl:v = .slice (some a) len cap:=by simpa using hcs
  simp only [Prod.mk.injEq] at hx
  obtain ⟨rfl,_⟩:=hx
  simp only [if_true] at hss
  have hrow:=hw.row Tryz.underlying32
  have hb:Tryz.prog.bytesOf 9 = 16:=by kernel_rfl
  have hlen:(ss.take len).length = len:=by rw [List.length_take]; omega
  rw [hb] at hrow
  unfold strs at hrow
  rw [List.length_map,List.length_map,hlen] at hrow
  unfold reachBytes at hrow
  have hmap:(((ss.take len).map fun t:ByteArray=>t.data.toList)).map S = ss.take len:=by
   rw [List.map_map]
   conv=>rhs; rw [← List.map_id (ss.take len)]
   refine List.map_congr_left fun t _=>S_self t
  refine ⟨(ss.take len).map fun t:ByteArray=>t.data.toList,?_,?_⟩
  ·rw [hmap]
   refine ⟨by rw [hlen]; omega,some a,cap,by rw [hlen],by rw [hlen]; exact hl,fun h0=>?_⟩
   rw [hlen] at h0
   obtain ⟨b,off,rfl⟩:∃ b off,a = ⟨b,off,none⟩:=by
    have:=hcell 0 (by omega)
    rw [show a.add 0 = a by cases a; rfl] at this
    exact spot this
   refine ⟨b,off,rfl,fun i hi=>?_⟩
   rw [hlen] at hi
   have:=hcell i (by omega)
   rw [Addr.add_mid] at this
   rw [this]
   simp [List.getD,hi]
  ·intro x hx
   obtain ⟨t,ht,rfl⟩:=List.mem_map.1 hx
   have h1:=hw.elem Tryz.underlying32 (d:=.lit (.string t.data.toList)) (List.mem_map.2 ⟨t,ht,rfl⟩)
   have:=h1 t.data.toList.length (by simp [DataW.weights])
   unfold reachBytes at this
   exact this
end
end Un
end Go.Proofs.YtmhpjjjjgakpiaaGreatDoor
namespace Go.Proofs.YtmhpjjjjgakpiaaGreatDoor
open Go Go.ChangeShapes
variable {H:Type} {enc:TypeId × Value → H}
theorem laid_said {a:Assume} {C:Checked} {os:Os} {f:FuncId} {fn:Func} {s:ChangeSpec} {conds:List PathCond} {apart fresh handsOn again:Bool} {X:World → Array Value → Prop}
  (hX:∀ (w w':World) (args:Array Value),w.heap = w'.heap → X w args → X w' args)
  (own:ownKnob C.prog.godebug = none) (started:os.Started) (noInit:C.prog.inits.idxOf? f = none) (hfn:C.prog.funcs[f]? = some fn)
  (witness:∃ (w:World) (tape:Tape) (i:Input),w.os = os ∧ (w.forCall tape i).Shaped C.prog ∧ i.vars = [] ∧ Input.okWide C.prog (w.forCall tape i) .any w.heap.size f i ∧
   ((s.pre enc C.prog fn conds apart (w.forCall tape i).memory i.args ∧ X (w.forCall tape i).memory i.args) ∧ sizedMet enc C.prog fn (OpenSpec.ofChange s) apart (w.forCall tape i).memory i.args) ∧ a.holds C.prog (lone (Frame.enter C.prog f i.args .normal) [] (w.forCall tape i)))
  (contract:∀ (W:World) (base:Nat) (args:Array Value) (ds gs:List (DataW H)) (before:List MemPlace),
   (∀ (j:Nat) t v,fn.params[j]? = some t → args[j]? = some v → Value.okWide C.prog W .any base t v) →
   DataW.Whole enc C.prog fn.params.toList s.vars apart W args.toList ds gs before →
   conds.all (PathCond.test C.prog ⟨fn.params.toList,ds,s.plain.varTypes C.prog,gs⟩) = true →
   (DataW.weightsEach C.prog (fn.params.toList ++ s.plain.varTypes C.prog) (ds ++ gs)).all (· ≤ reachBytes) = true → X W args → W.ShapedOpen C.prog →
   a.holds C.prog (lone (Frame.enter C.prog f args .normal) [] W) →
   Calls C.prog f args W fun e W'=>∃ v,e = .returned v ∧ s.post enc C.prog fn apart fresh handsOn again W args v W') :
  ReturnsInHanded a C os f .any (fun w args=>(s.pre enc C.prog fn conds apart w args ∧ X w args) ∧ sizedMet enc C.prog fn (OpenSpec.ofChange s) apart w args) (s.post enc C.prog fn apart fresh handsOn again):=by
 refine returnsInHanded_of_calls own started noInit witness ?_
 intro w tape i _ hsh _ hok hpre hholds
 obtain ⟨_,_,_,fn',hfn',_,_,_,_,hval⟩:=hok
 have e:fn' = fn:=Option.some.inj (hfn'.symm.trans hfn)
 subst e
 obtain ⟨⟨⟨ds,gs,before,hw,hc⟩,hx⟩,hz⟩:=hpre
 have hw':=DataW.Whole.of_heap (w':=w.forCall tape i) (by rfl) hw
 refine (contract (w.forCall tape i) w.heap.size i.args ds gs before hval hw' hc (hz.weights hw) (hX _ _ _ (by rfl) hx) hsh hholds).mono fun e W' ⟨v,he,hp⟩=>?_
 subst he
 exact ChangeSpec.post_blind hp
end Go.Proofs.YtmhpjjjjgakpiaaGreatDoor

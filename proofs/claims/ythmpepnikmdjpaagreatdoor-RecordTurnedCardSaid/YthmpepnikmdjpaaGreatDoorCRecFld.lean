/-
Packages, entries, values of fields in memory. Regions that draw their order: a load of one cell may be taken first where every world of the class has that cell; and what never looks at the world. The values of fields: has, keep, further; what the code's variables are.
-/
import Derived.Test.YthmpepnikmdjpaaGreatDoorCStzAwake
import Derived.Test.YthmpepnikmdjpaaGreatDoorCValLists
import Derived.OrdersHeld
import Derived.Deep.MidRow
import Derived.WalkKit
import Derived.Test.YthmpepnikmdjpaaGreatDoorCRecMath
import Derived.Test.YthmpepnikmdjpaaGreatDoorCVerRefParse
import Derived.Deep.WholeRow
import Derived.Deep.RegionHeld3
import Derived.BigFrame
namespace Go.Proofs.YthmpepnikmdjpaaGreatDoor
open Go.RowKit
set_option linter.unusedSimpArgs false
set_option linter.unusedVariables false
namespace Rc
open Ver (Bs li li_len S S_self S_size S_li)
open Rl (At Pv Ats Pvs Clss Slc LimA LimP LimC Vars)
open Va (Hi Vl VAt)
structure Has (w:World) (p:Pk) (u1 u2 u3 u4 u5 u6:Value):Prop where
 pre:Clss w u1 p.pre
 dep:Clss w u2 p.dep
 rcm:Clss w u3 p.rcm
 con:Ats w u4 p.con
 brk:Ats w u5 p.brk
 prv:Pvs w u6 p.prv
theorem Has.below {w w':World} {p:Pk} {u1 u2 u3 u4 u5 u6:Value} (h:Has w p u1 u2 u3 u4 u5 u6) (hb:Below w.heap.size w w'):Has w' p u1 u2 u3 u4 u5 u6 :=
 ⟨h.pre.below hb,h.dep.below hb,h.rcm.below hb,h.con.below hb,h.brk.below hb,h.prv.below hb⟩
def PkC (w:World) (cs:List Value) (p:Pk):Prop:=∃ u1 u2 u3 u4 u5 u6,cs = [.string (S p.nm),.string (S p.vs),u1,u2,u3,u4,u5,u6,.bool p.ess] ∧ Has w p u1 u2 u3 u4 u5 u6
def EnC (w:World) (cs:List Value) (x:En):Prop:=∃ u1 u2 u3 u4 u5 u6,cs = [.string (S x.pk.nm),.string (S x.pk.vs),u1,u2,u3,u4,u5,u6,.bool x.pk.ess,.bool x.cfg,.bool x.hld] ∧ Has w x.pk u1 u2 u3 u4 u5 u6
theorem PkC.below {w w':World} {cs:List Value} {p:Pk} (h:PkC w cs p) (hb:Below w.heap.size w w'):PkC w' cs p:=by
 obtain ⟨u1,u2,u3,u4,u5,u6,e,h1⟩:=h
 exact ⟨u1,u2,u3,u4,u5,u6,e,h1.below hb⟩
theorem EnC.below {w w':World} {cs:List Value} {p:En} (h:EnC w cs p) (hb:Below w.heap.size w w'):EnC w' cs p:=by
 obtain ⟨u1,u2,u3,u4,u5,u6,e,h1⟩:=h
 exact ⟨u1,u2,u3,u4,u5,u6,e,h1.below hb⟩
theorem PkC.len {w:World} {cs:List Value} {p:Pk} (h:PkC w cs p):cs.length = 9:=by
 obtain ⟨u1,u2,u3,u4,u5,u6,e,h1⟩:=h
 rw [e]; rfl
theorem EnC.len {w:World} {cs:List Value} {p:En} (h:EnC w cs p):cs.length = 11:=by
 obtain ⟨u1,u2,u3,u4,u5,u6,e,h1⟩:=h
 rw [e]; rfl
def CAt {α:Type} (C:World → List Value → α → Prop) (w:World) (k o:Nat) (x:α):Prop:=∃ cs,C w cs x ∧ ∀ j u,cs[j]? = some u → w.cell? ⟨k,o + j,none⟩ = some u
theorem CAt.below {α:Type} {C:World → List Value → α → Prop} (hC:∀ w w' cs x,C w cs x → Below w.heap.size w w' → C w' cs x) {w w':World} {k o:Nat} {x:α} (h:CAt C w k o x) (hb:Below w.heap.size w w'):CAt C w' k o x:=by
 obtain ⟨cs,h1,h2⟩:=h
 exact ⟨cs,hC _ _ _ _ h1 hb,fun j u hj=>Rl.cell_on (h2 j u hj) hb⟩
def Pks:World → Value → List Pk → Prop:=Slc 9 nPk (CAt PkC)
def Ens:World → Value → List En → Prop:=Slc 11 nEn (CAt EnC)
theorem Pks.below {w w':World} {v:Value} {l:List Pk} (h:Pks w v l) (hb:Below w.heap.size w w'):Pks w' v l :=
 Slc.below (P:=CAt PkC) (fun _ _ _ _ _ h hb=>CAt.below (C:=PkC) (fun _ _ _ _ h hb=>PkC.below h hb) h hb) h hb
theorem Ens.below {w w':World} {v:Value} {l:List En} (h:Ens w v l) (hb:Below w.heap.size w w'):Ens w' v l :=
 Slc.below (P:=CAt EnC) (fun _ _ _ _ _ h hb=>CAt.below (C:=EnC) (fun _ _ _ _ h hb=>EnC.below h hb) h hb) h hb
structure Pk.Lim (p:Pk):Prop where
 nm:p.nm.length ≤ 140737488351232
 vs:p.vs.length ≤ 140737488351232
 pre:LimC p.pre
 dep:LimC p.dep
 rcm:LimC p.rcm
 con:LimA p.con
 brk:LimA p.brk
 prv:LimP p.prv
theorem pk_read {w:World} {b o:Nat} {p:Pk} (h:CAt PkC w b o p):∃ a1 n1 c1 a2 n2 c2 a3 n3 c3 a4 n4 c4 a5 n5 c5 a6 n6 c6,(w.cell? ⟨b,o,none⟩ = some (.string (S p.nm)) ∧ w.cell? ⟨b,o + 1,none⟩ = some (.string (S p.vs)) ∧ w.cell? ⟨b,o + 2,none⟩ = some (.slice a1 n1 c1) ∧ w.cell? ⟨b,o + 3,none⟩ = some (.slice a2 n2 c2) ∧ w.cell? ⟨b,o + 4,none⟩ = some (.slice a3 n3 c3) ∧ w.cell? ⟨b,o + 5,none⟩ = some (.slice a4 n4 c4) ∧ w.cell? ⟨b,o + 6,none⟩ = some (.slice a5 n5 c5) ∧ w.cell? ⟨b,o + 7,none⟩ = some (.slice a6 n6 c6) ∧ w.cell? ⟨b,o + 8,none⟩ = some (.bool p.ess)) ∧ Has w p (.slice a1 n1 c1) (.slice a2 n2 c2) (.slice a3 n3 c3) (.slice a4 n4 c4) (.slice a5 n5 c5) (.slice a6 n6 c6):=by
 obtain ⟨cs,⟨u1,u2,u3,u4,u5,u6,rfl,h1⟩,h2⟩:=h
 obtain ⟨a1,c1,rfl⟩:=h1.pre.shape
 obtain ⟨a2,c2,rfl⟩:=h1.dep.shape
 obtain ⟨a3,c3,rfl⟩:=h1.rcm.shape
 obtain ⟨a4,c4,rfl⟩:=h1.con.shape
 obtain ⟨a5,c5,rfl⟩:=h1.brk.shape
 obtain ⟨a6,c6,rfl⟩:=h1.prv.shape
 exact ⟨_,_,_,_,_,_,_,_,_,_,_,_,_,_,_,_,_,_,⟨h2 0 _ rfl,h2 1 _ rfl,h2 2 _ rfl,h2 3 _ rfl,h2 4 _ rfl,h2 5 _ rfl,h2 6 _ rfl,h2 7 _ rfl,h2 8 _ rfl⟩,h1⟩
structure Vs (B:Nat) (w:World) (cs:Array Value) (xs:Vls):Prop where
 len:cs.size = 11
 at_:∀ i,i < 11 → ∃ v,cs[i]? = some v ∧ VAt B w v (xs i)
theorem Vs.on {B:Nat} {w w':World} {cs:Array Value} {xs:Vls} (h:Vs B w cs xs) (hc:Blk.Chg (fun k=>k < B) w w'):Vs B w' cs xs :=
 ⟨h.len,fun i hi=>by obtain ⟨v,h1,h2⟩:=h.at_ i hi; exact ⟨v,h1,h2.on hc⟩⟩
theorem Vs.below {B:Nat} {w w':World} {cs:Array Value} {xs:Vls} (h:Vs B w cs xs) (hb:Below w.heap.size w w'):Vs B w' cs xs :=
 ⟨h.len,fun i hi=>by obtain ⟨v,h1,h2⟩:=h.at_ i hi; exact ⟨v,h1,h2.below hb⟩⟩
theorem Vs.mono {B B':Nat} {w:World} {cs:Array Value} {xs:Vls} (h:Vs B w cs xs) (hB:B' ≤ B):Vs B' w cs xs :=
 ⟨h.len,fun i hi=>by obtain ⟨v,h1,h2⟩:=h.at_ i hi; exact ⟨v,h1,h2.mono hB⟩⟩
theorem Vs.eq {B:Nat} {w:World} {cs:Array Value} {xs ys:Vls} (h:Vs B w cs xs) (he:∀ i,i < 11 → ys i = xs i):Vs B w cs ys :=
 ⟨h.len,fun i hi=>by obtain ⟨v,h1,h2⟩:=h.at_ i hi; exact ⟨v,h1,by rw [he i hi]; exact h2⟩⟩
theorem Vs.set {B:Nat} {w:World} {cs:Array Value} {xs ys:Vls} (h:Vs B w cs xs) {k:Nat} (hk:k < 11) {v:Value} {x:Vl} (hv:VAt B w v x) (he:∀ i,i < 11 → ys i = if i = k then x else xs i):Vs B w (cs.setIfInBounds k v) ys:=by
 refine ⟨by rw [Array.size_setIfInBounds]; exact h.len,fun i hi=>?_⟩
 rw [he i hi]
 by_cases e:i = k
 ·subst e
  rw [if_pos rfl]
  exact ⟨v,Array.getElem?_setIfInBounds_self_of_lt (by rw [h.len]; exact hi),hv⟩
 ·rw [if_neg e]
  obtain ⟨u,h1,h2⟩:=h.at_ i hi
  exact ⟨u,by rw [Array.getElem?_setIfInBounds_ne (fun e2=>e e2.symm)]; exact h1,h2⟩
theorem Vs.no (B:Nat) (w:World):Vs B w (Array.replicate 11 .nilIface) no :=
 ⟨rfl,fun i hi=>⟨.nilIface,by rw [Array.getElem?_replicate,if_pos hi],rfl⟩⟩
end Rc
end Go.Proofs.YthmpepnikmdjpaaGreatDoor
namespace Go.Proofs.YthmpepnikmdjpaaGreatDoor
open Go.RowKit
namespace Held
theorem run_load_one {P:Program} {w:World} {b o:Nat} {v:Value} {ty:TypeId} {d:TypeDesc} (hc:w.cell? ⟨b,o,none⟩ = some v) (hu:P.underlying ty = some d) (hd:d.isRow = false):(Instr.loadAt ty (.pointer (some ⟨b,o,none⟩))).run P w = .ok v w:=by
 have hagg:(isAgg ty).run P w = .ok false w:=by
  unfold isAgg
  rw [Sem.run_bind,run_underlying hu w]
  cases d <;> simp_all
 simp only [Instr.loadAt,Instr.sureAddr,Sem.run_bind,Sem.run_pure,Result.andThen_ok,loadVar,hagg]
 simp [hc]
theorem load1 {P:Program} {ops:Array Oper} {S:World → Prop} {op:Oper} {a:Act} (hw:Region.wanted op (yielded ops a.tmps) = true) (ty:TypeId) (x:Operand) (ho:op.op = .load ty x)
  (b o:Nat) (hx:a.eval x = .pointer (some ⟨b,o,none⟩)) (v:Value) (d:TypeDesc) (hS:∀ w,S w → w.cell? ⟨b,o,none⟩ = some v)
  (hu:P.underlying ty = some d) (hd:d.isRow = false):YieldsIf P ops S op v a :=
 .inl ⟨hw,fun w hw'=>by
  unfold execOp
  simp only [ho,hx]
  rw [Sem.run_bind,run_load_one (hS w hw') hu hd]
  rfl⟩
theorem run_index_one {P:Program} {T e:TypeId} {n:Nat} {d:TypeDesc} (hu:P.underlying T = some (.array n e)) (he:P.underlying e = some d) (hd:d.isRow = false) (hsz:(P.info? e).map (·.size) = some 1) {cs:Array Value} {j:Nat} (hj:j < n) {v:Value} (hv:cs[j]? = some v) (w:World) :
  (Instr.index T (.agg cs) (.int .i64 j)).run P w = .ok v w:=by
 have hs:∀ w,(sizeOf e).run P w = .ok 1 w:=fun w=>by
  cases hq:P.info? e with
  | none=>simp [hq] at hsz
  | some i =>
   have:i.size = 1:=by simpa [hq] using hsz
   simp [sizeOf,typeInfo,hq,this]
 have hj':(0:Int) ≤ j ∧ (j:Int) < (n:Nat):=by omega
 have ha:∀ w,(isAgg e).run P w = .ok false w:=fun w=>by
  unfold isAgg
  simp only [Sem.run_bind,run_underlying he,Result.andThen_ok]
  cases d <;> simp_all
 simp only [Instr.index,asIntOf,Sem.run_bind,Sem.run_pure,Result.andThen_ok,run_underlying hu,hj',and_self,if_true,hs,Int.toNat_natCast,Go.part,ha]
 simp [hv]
end Held
end Go.Proofs.YthmpepnikmdjpaaGreatDoor
namespace Go.Proofs.YthmpepnikmdjpaaGreatDoor
open Go.RowKit
set_option linter.unusedSimpArgs false
set_option linter.unusedVariables false
namespace Rc
open Ver (Bs li li_len S S_self S_size S_li)
open Rl (At Pv Ats Pvs Clss Slc LimA LimP LimC Vars)
open Va (Hi Vl VAt wrT)
open Stz (sameB sameS)
def Nms (w:World):Prop:=∀ i,i < 11 → w.cell? ⟨0,i,none⟩ = some (.string (S (nmAt i)))
theorem Nms.on {w w':World} (h:Nms w) (hb:Below w.heap.size w w'):Nms w':=fun i hi=>Rl.cell_on (h i hi) hb
theorem kind_no (x:Vl):(x.kind.toList != [110,111,110,101]) = !isNo x:=by
 cases x <;> (simp only [Va.Vl.kind,isNo]; decide +kernel)
set_option maxRecDepth 100000 in
set_option maxHeartbeats 2000000 in
theorem has_any (cs:Array Value) (hn:cs.size = 11) (i:Nat) (hi:i < 11) (B:Nat) (v:Value) (x:Vl) (w:World) (hv:cs[i]? = some v) (h:VAt B w v x) :
  Calls Tryz.prog 103 #[.agg cs,.int .i64 i] w fun e w'=>e = .returned (.bool (!isNo x)) ∧ Below w.heap.size w w':=by
 have hb0:=(Below.refl w.heap.size w).alloc (Nat.le_refl _) (.cells cs 99)
 have i0:=Blk.Is.new w 99 cs
 have hx:=(h.below hb0)
 have ck:=Va.kind_x hx
 have hq:=kind_no x
 have c0:=i0.at hv
 have hi1:(i:Int) < 11:=by omega
 have hi2:(0:Int) ≤ i:=by omega
 generalize x.kind = K at *
 generalize isNo x = N at *
 clear h hx i0
 go_enter Tryz.func103,Tryz.ntmps103
 go_wp2_with fail
 refine ck.mono ?_
 rintro e w1 ⟨rfl,k1⟩
 have hb1:=hb0.trans (k1.mono hb0.size)
 clear ck k1 hb0 c0
 go_wp2_with fail
 go_ret
 exact ⟨by rw [← hq]; rfl,hb1⟩
theorem same_S (a b:Bs):sameS (S a) (S b) = sameB a b:=rfl
def nmV:Array Value:=#[.string (S (nmAt 0)),.string (S (nmAt 1)),.string (S (nmAt 2)),.string (S (nmAt 3)),.string (S (nmAt 4)),.string (S (nmAt 5)),.string (S (nmAt 6)),.string (S (nmAt 7)),.string (S (nmAt 8)),.string (S (nmAt 9)),.string (S (nmAt 10))]
theorem nmV_at {i:Nat} (hi:i < 11):nmV[i]? = some (.string (S (nmAt i))):=by
 match i,hi with
 | 0,_=>rfl
 | 1,_=>rfl
 | 2,_=>rfl
 | 3,_=>rfl
 | 4,_=>rfl
 | 5,_=>rfl
 | 6,_=>rfl
 | 7,_=>rfl
 | 8,_=>rfl
 | 9,_=>rfl
 | 10,_=>rfl
theorem index_nm (i:Nat) (hi:i < 11) (w:World):(Instr.index 163 (.agg nmV) (.int .i64 i)).run Tryz.prog w = .ok (.string (S (nmAt i))) w :=
 Held.run_index_one (e:=9) (n:=11) (by kernel_rfl) Tryz.underlying9 rfl (by kernel_rfl) hi (nmV_at hi) w
theorem keepN_succ (xs:Vls) (nm:Bs) (x:Vl) (k i:Nat):keepN xs nm x (k + 1) i = if i = k ∧ sameB nm (nmAt k) = true ∧ isNo (xs k) = true then x else keepN xs nm x k i:=by
 unfold keepN
 by_cases h3:i = k
 ·subst h3
  by_cases h2:sameB nm (nmAt i) = true ∧ isNo (xs i) = true
  ·rw [if_pos ⟨by omega,h2⟩,if_pos ⟨rfl,h2⟩]
  ·rw [if_neg (show ¬ (i < i + 1 ∧ _ ∧ _) from fun h=>h2 h.2),if_neg (show ¬ (i = i ∧ _ ∧ _) from fun h=>h2 h.2),if_neg (show ¬ (i < i ∧ _ ∧ _) from fun h=>h2 h.2)]
 ·rw [if_neg (show ¬ (i = k ∧ _ ∧ _) from fun h=>h3 h.1)]
  by_cases h1:i < k
  ·by_cases h2:sameB nm (nmAt i) = true ∧ isNo (xs i) = true
   ·rw [if_pos ⟨by omega,h2⟩,if_pos ⟨h1,h2⟩]
   ·rw [if_neg (show ¬ (i < k + 1 ∧ _ ∧ _) from fun h=>h2 h.2),if_neg (show ¬ (i < k ∧ _ ∧ _) from fun h=>h2 h.2)]
  ·rw [if_neg (show ¬ (i < k + 1 ∧ _ ∧ _) from fun h=>absurd h.1 (by omega)),if_neg (show ¬ (i < k ∧ _ ∧ _) from fun h=>h1 h.1)]
theorem range_nms {w:World} (h:Nms w):w.rangeAt 0 0 nmV.toList:=fun j v hj=>by
 rw [Nat.zero_add]
 have hj2:nmV[j]? = some v:=by rw [← Array.getElem?_toList]; exact hj
 have hlt:j < 11:=by
  have:=(Array.getElem?_eq_some_iff.1 hj2).1
  exact this
 rw [nmV_at hlt] at hj2
 cases hj2
 exact h j hlt
theorem range_vals {w:World} {g:Nat} {T:TypeId} {cs:Array Value} (hg:Blk.Is w g T cs):w.rangeAt g 0 cs.toList:=fun j v hj=>by
 rw [Nat.zero_add]
 exact hg.at (by rw [← Array.getElem?_toList]; exact hj)
theorem valsD:Tryz.prog.underlying 99 = some (.array 11 97):=by kernel_rfl
theorem valsSz {cs:Array Value} (hn:cs.size = 11):(Tryz.prog.info? 99).map (·.size) = some cs.toList.length:=by rw [Array.length_toList,hn]; kernel_rfl
set_option maxRecDepth 100000 in
set_option maxHeartbeats 4000000 in
theorem keep_any (g:Nat) (cs:Array Value) (xs:Vls) (nm:Bs) (B:Nat) (v:Value) (x:Vl) (w:World) (hnl:nm.length ≤ 4611686018427387904) (hg:Blk.Is w g 99 cs) (hV:Vs B w cs xs) (hx:VAt B w v x) (hgB:g < B) (hN:Nms w) :
  Calls Tryz.prog 101 #[.pointer (some ⟨g,0,none⟩),.string (S nm),.agg #[v]] w fun e w'=>e = .returned (.tuple #[]) ∧ ∃ cs',Blk.Is w' g 99 cs' ∧ Vs B w' cs' (keep xs nm x) ∧ Blk.Chg (fun k=>k = g) w w':=by
 have hb0:=(Below.refl w.heap.size w).alloc (Nat.le_refl _) (.cells #[v] 97)
 have i0:=Blk.Is.new w 97 #[v]
 have hx1:=hx.one
 have hrn:World.rangeAt (w.alloc (.cells #[v] 97)) 0 0 nmV.toList:=range_nms (hN.on hb0)
 have HV:=Lib.hid (hV.below hb0)
 have HX:=Lib.hid (hx.below hb0)
 have HG:=Lib.hid (hg.alloc (.cells #[v] 97))
 have HI:=Lib.hid i0
 have HR:=Lib.hid hrn
 have HB:=Lib.hid hb0
 have hgs:g < w.heap.size:=hg.lt
 have hne:g ≠ w.heap.size:=by omega
 obtain ⟨b0,hb0'⟩:∃ b0,w.heap.size = b0:=⟨_,rfl⟩
 rw [hb0'] at HI hne
 obtain ⟨W,hW⟩:∃ W,w.alloc (.cells #[v] 97) = W:=⟨_,rfl⟩
 rw [hW] at HV HX HG HI HR HB
 clear hrn hx hg i0 hb0 hV hN
 go_enter Tryz.func101,Tryz.ntmps101
 go_wp2_with (refine wpList_load_mid rfl 163 (.global 0) rfl 0 0 rfl nmV.toList _ HR.out (by kernel_rfl:Tryz.prog.underlying 163 = some (.array 11 9)) rfl (by kernel_rfl) ?_)
 -- THE LOOP
 clear hW hb0'
 go_loopg [9] 11 (fun gf s9 wx=>∃ (k:Nat) (cs':Array Value),s9 = .int .i64 k ∧ Hid (Blk.Is wx g 99 cs') ∧ Hid (Vs B wx cs' (keepN xs nm x k)) ∧ Hid (Blk.Is wx b0 97 #[v]) ∧ Hid (Blk.Chg (fun j=>j = g) W wx) ∧ Hid (VAt B wx v x) ∧ k ≤ 11 ∧ 11 ≤ k + gf)
 case atStart =>
  refine ⟨0,cs,rfl,HG,Lib.hid (HV.out.eq fun i hi=>?_),HI,Lib.hid (Blk.Chg.refl _ _),HX,by omega,by omega⟩
  unfold keepN; rw [if_neg (by omega)]
 case round =>
  obtain ⟨k,cs',rfl,HG2,HV2,HI2,HC,HX2,hk,hfu⟩:=hrel
  by_cases hlt:k < 11
  ·obtain ⟨g',rfl⟩:∃ g',gk = g' + 1:=⟨gk - 1,by omega⟩
   have hlt':(k:Int) < 11:=by omega
   have hk0:(0:Int) ≤ k:=by omega
   have hidx:=fun w=>index_nm k hlt w
   have cs1:=Stz.same_any (S nm) (S (nmAt k)) wr (by rw [S_size]; omega)
   rw [same_S] at cs1
   generalize hT:sameB nm (nmAt k) = T at *
   have HTT:=Lib.hid hT
   generalize S (nmAt k) = K at *
   clear hT
   cases T with
   | false =>
    have hstep:∀ i,i < 11 → keepN xs nm x (k + 1) i = keepN xs nm x k i:=fun i hi=>by
     rw [keepN_succ,if_neg (fun h=>by rw [HTT.out] at h; exact absurd h.2.1 (by simp))]
    have HST:=Lib.hid hstep
    clear hstep
    go_wp2_with fail
    refine cs1.mono ?_
    rintro e w1 ⟨rfl,q1,rfl⟩
    have kb:=Va.below_drewN wr q1
    have g1:=Rl.is_on HG2.out kb
    have i1:=Rl.is_on HI2.out kb
    have c1:=HC.out.trans (Blk.Chg.ofBelow' kb)
    have x1:=HX2.out.below kb
    have v1:=(HV2.out.below kb).eq HST.out
    have R:=Lib.hid (⟨g1,i1,c1,x1,v1⟩:_ ∧ _ ∧ _ ∧ _ ∧ _)
    clear kb g1 i1 c1 x1 v1 cs1
    generalize wr.drewN q1 = wd at *
    go_wp2_with fail
    go_roundg g'
    case measure=>omega
    case rel=>exact ⟨k + 1,cs',by go_num,R.out.1,R.out.2.2.2.2,R.out.2.1,R.out.2.2.1,R.out.2.2.2.1,by omega,by omega⟩
   | true =>
    have hkk:keepN xs nm x k k = xs k:=by unfold keepN; rw [if_neg (fun h=>absurd h.1 (by omega))]
    obtain ⟨vk,hcsk,hvk⟩:=HV2.out.at_ k hlt
    rw [hkk] at hvk
    have HVK:=Lib.hid hvk
    have HKK:=Lib.hid hkk
    have HCK:=Lib.hid hcsk
    clear hkk hcsk hvk
    have H:=fun m=>(⟨Rl.is_on HG2.out (Va.below_drewN wr m),Rl.is_on HI2.out (Va.below_drewN wr m),HC.out.trans (Blk.Chg.ofBelow' (Va.below_drewN wr m)),HX2.out.below (Va.below_drewN wr m),HV2.out.below (Va.below_drewN wr m),HVK.out.below (Va.below_drewN wr m)⟩:Blk.Is (wr.drewN m) g 99 cs' ∧ Blk.Is (wr.drewN m) b0 97 #[v] ∧ Blk.Chg (fun j=>j = g) W (wr.drewN m) ∧ VAt B (wr.drewN m) v x ∧ Vs B (wr.drewN m) cs' (keepN xs nm x k) ∧ VAt B (wr.drewN m) vk (xs k))
    have HH:=Lib.hid H
    clear H
    go_wp2_with fail
    refine cs1.mono ?_
    rintro e w1 ⟨rfl,q1,rfl⟩
    have R:=Lib.hid (HH.out q1)
    have RG:=Lib.hid (range_vals R.out.1)
    have SZ:=Lib.hid (valsSz HV2.out.len)
    clear cs1 HH
    generalize wr.drewN q1 = wd at *
    have ch:=has_any cs' HV2.out.len k hlt B vk (xs k) wd HCK.out R.out.2.2.2.2.2
    go_wp2_with (refine BigFrame.wpList_want rfl fun KK hKK=>wp_load_mid 99 (.tmp 18) rfl g 0 rfl cs'.toList _ RG.out valsD rfl SZ.out (hKK _ _ ?_))
    refine ch.mono ?_
    rintro e w2 ⟨rfl,kb⟩
    have g1:=Rl.is_on R.out.1 kb
    have i1:=Rl.is_on R.out.2.1 kb
    have c1:=R.out.2.2.1.trans (Blk.Chg.ofBelow' kb)
    have x1:=R.out.2.2.2.1.below kb
    have v1:=R.out.2.2.2.2.1.below kb
    have R2:=Lib.hid (⟨g1,i1,c1,x1,v1⟩:_ ∧ _ ∧ _ ∧ _ ∧ _)
    clear kb g1 i1 c1 x1 v1 ch RG SZ
    cases hno:isNo (xs k) with
    | false =>
     have hstep:∀ i,i < 11 → keepN xs nm x (k + 1) i = keepN xs nm x k i:=fun i hi=>by
      rw [keepN_succ,if_neg (fun h=>by rw [hno] at h; exact absurd h.2.2 (by simp))]
     have HST:=Lib.hid hstep
     clear hstep hno
     go_wp2_with fail
     go_roundg g'
     case measure=>omega
     case rel=>exact ⟨k + 1,cs',by go_num,R2.out.1,Lib.hid (R2.out.2.2.2.2.eq HST.out),R2.out.2.1,R2.out.2.2.1,R2.out.2.2.2.1,by omega,by omega⟩
    | true =>
     have hstep:∀ i,i < 11 → keepN xs nm x (k + 1) i = if i = k then x else keepN xs nm x k i:=fun i hi=>by
      rw [keepN_succ]
      by_cases h3:i = k
      ·rw [if_pos ⟨h3,HTT.out,hno⟩,if_pos h3]
      ·rw [if_neg (fun h=>h3 h.1),if_neg h3]
     have HST:=Lib.hid hstep
     have hck:w2.drew.cell? ⟨g,k,none⟩ = some vk:=R2.out.1.at HCK.out
     have hfr:w2.drew.frozen? ⟨g,k,none⟩ = false:=R2.out.1.free k
     have hcv:w2.drew.cell? ⟨b0,0,none⟩ = some v:=R2.out.2.1.at (i:=0) rfl
     have hi5:=(R2.out.2.1.drew).setOther (a:=⟨g,k,none⟩) v (fun e=>hne e.symm)
     have hcv5:(w2.drew.setCell ⟨g,k,none⟩ v).cell? ⟨b0,0,none⟩ = some v:=hi5.at (i:=0) rfl
     have hg5:=(R2.out.1.drew).set k v
     have hch5:Blk.Chg (fun j=>j = g) w2 (w2.drew.setCell ⟨g,k,none⟩ v):=((Blk.Chg.refl _ w2).drew).setCell (by rfl) v
     have hlt5:Blk.Chg (fun j=>j < B) w2 (w2.drew.setCell ⟨g,k,none⟩ v):=hch5.mono fun j _ e=>by rw [e]; exact hgB
     have hv5:=(R2.out.2.2.2.2.on hlt5).set hlt (R2.out.2.2.2.1.on hlt5) HST.out
     have R5:=Lib.hid (⟨hg5,hv5,hi5,R2.out.2.2.1.trans hch5,R2.out.2.2.2.1.on hlt5⟩:_ ∧ _ ∧ _ ∧ _ ∧ _)
     have hI:=R2.out.2.2.2.1.ok.is
     clear hstep hno hi5 hg5 hch5 hlt5 hv5
     rcases hI with rfl | ⟨t0,y0,rfl⟩
     ·skip
      go_wp2_with fail
      go_region_held3 (fun u=>u.cell? ⟨b0,0,none⟩ = some .nilIface)
       (first | exact hcv | exact hcv5 | assumption)
       (first
        | fail)
      clear hck hfr hcv hcv5
      have hw5:w2.drew.setCell ⟨g,k,none⟩ .nilIface = (w2.setCell ⟨g,k,none⟩ .nilIface).drew:=rfl
      rw [hw5] at R5
      clear hw5
      generalize (w2.setCell ⟨g,k,none⟩ .nilIface).drew = w5 at *
      go_wp2_with fail
      go_roundg g'
      case measure=>omega
      case rel=>exact ⟨k + 1,_,by go_num,Lib.hid R5.out.1,Lib.hid R5.out.2.1,Lib.hid R5.out.2.2.1,Lib.hid R5.out.2.2.2.1,Lib.hid R5.out.2.2.2.2,by omega,by omega⟩
     ·skip
      go_wp2_with fail
      go_region_held3 (fun u=>u.cell? ⟨b0,0,none⟩ = some (.iface t0 y0))
       (first | exact hcv | exact hcv5 | assumption)
       (first
        | fail)
      clear hck hfr hcv hcv5
      have hw5:w2.drew.setCell ⟨g,k,none⟩ (.iface t0 y0) = (w2.setCell ⟨g,k,none⟩ (.iface t0 y0)).drew:=rfl
      rw [hw5] at R5
      clear hw5
      generalize (w2.setCell ⟨g,k,none⟩ (.iface t0 y0)).drew = w5 at *
      go_wp2_with fail
      go_roundg g'
      case measure=>omega
      case rel=>exact ⟨k + 1,_,by go_num,Lib.hid R5.out.1,Lib.hid R5.out.2.1,Lib.hid R5.out.2.2.1,Lib.hid R5.out.2.2.2.1,Lib.hid R5.out.2.2.2.2,by omega,by omega⟩
  ·have hge:¬ (k:Int) < 11:=by omega
   obtain rfl:k = 11:=by omega
   have hfin:=HC.out
   have hfull:=(Blk.Chg.ofBelow' (S:=fun j=>j = g) HB.out).trans hfin
   have HF:=Lib.hid hfull
   clear hfin hfull
   go_wp2_with fail
   go_end0
   exact ⟨rfl,cs',HG2.out,HV2.out,HF.out⟩
end Rc
end Go.Proofs.YthmpepnikmdjpaaGreatDoor

/-
What is reached shuts: its mathematics, and the closure of UniverseShuts. The closure of UniverseShuts: is it reached? What the rows of package relation list of variables: the variable signs of package version; the variable of the library that Cut names.
-/
import Derived.Test.YtmhpjjjjgakpiaaGreatDoorDUniAwake
import Derived.Test.YtmhpjjjjgakpiaaGreatDoorDUniLight
import Derived.Test.YtmhpjjjjgakpiaaGreatDoorDStaYMet
import Derived.Test.YtmhpjjjjgakpiaaGreatDoorDRecSame
import Derived.Deep.RegionHeld3
import Derived.Deep.MidRow
import Derived.Test.YtmhpjjjjgakpiaaGreatDoorDTextTexts
import Derived.Test.YtmhpjjjjgakpiaaGreatDoorDStaMath
import Derived.Test.YtmhpjjjjgakpiaaGreatDoorDIxUniq
import Derived.Test.YtmhpjjjjgakpiaaGreatDoorDIxIns
import Derived.Test.YtmhpjjjjgakpiaaGreatDoorDReg
import Derived.OrdersHeld
import Derived.Test.YtmhpjjjjgakpiaaGreatDoorDStaYHea
import Derived.Test.YtmhpjjjjgakpiaaGreatDoorRows
import Derived.Test.YtmhpjjjjgakpiaaGreatDoorDVerRefParse
import Derived.Shelf.Vars
import Derived.HandedShaped
import Derived.LaidLaws
import Derived.LaidMore
import Derived.Lib.LaidU8
namespace Go.Proofs.YtmhpjjjjgakpiaaGreatDoor
open Go.RowKit
set_option linter.unusedSimpArgs false
set_option linter.unusedVariables false
namespace Un
open Ver (Bs S S_size)
open Rl (At Vars mem_getD nA)
open Rc (Pk nPk En nEn Pks Ens PkV PkC CAt)
open Ix (sat insAll)
open Sa (heaB metR Hea Fed Peace Whol)
def inB (X:List Pk) (q:Pk):Bool:=X.any fun y=>Rc.eqP q y
theorem inB_iff {X:List Pk} {q:Pk}:inB X q = true ↔ q ∈ X:=by
 unfold inB
 rw [List.any_eq_true]
 constructor
 ·rintro ⟨y,hy,h⟩
  rw [(Rc.eqP_iff q y).1 h]; exact hy
 ·exact fun h=>⟨q,h,(Rc.eqP_iff q q).2 rfl⟩
theorem inW_mem {W:List Bs} {A:List Pk} {q:Pk}:q ∈ inW W A ↔ q ∈ A ∧ q.nm ∈ W:=by
 unfold inW
 rw [List.mem_filter,decide_eq_true_eq]
theorem asks_mem {p:Pk} {c:List At} {a:At} {t:Nat} (ht:t < 3) (hc:c ∈ (three p).getD t []) (ha:a ∈ c):a ∈ asks p:=by
 unfold asks
 rw [List.mem_flatten]
 refine ⟨c,?_,ha⟩
 rw [List.mem_append,List.mem_append]
 match t,ht with
 | 0,_=>exact .inl hc
 | 1,_=>exact .inr (.inl hc)
 | 2,_=>exact .inr (.inr hc)
theorem shut_in {W:List Bs} {A:List Pk} (h:Shut A W) {p q:Pk} {c:List At} {t:Nat} (hp:p ∈ inW W A) (ht:t < 3) (hc:c ∈ (three p).getD t []) (hq:q ∈ A) (hm:metR [q] c = true):inB (inW W A) q = true:=by
 rw [inB_iff,inW_mem]
 unfold metR at hm
 rw [List.any_eq_true] at hm
 obtain ⟨a,ha,hs⟩:=hm
 have hs:sat q a = true:=by simpa using hs
 exact ⟨hq,h p (inW_mem.1 hp).1 (inW_mem.1 hp).2 a (asks_mem ht hc ha) q hq hs⟩
theorem fed_iff {l:List Pk}:Fed l ↔ ∀ p ∈ l,(∀ c ∈ p.pre,metR l c = true) ∧ ∀ c ∈ p.dep,metR l c = true:=by
 unfold Fed
 constructor
 ·intro h p hp
  obtain ⟨i,hi,rfl⟩:=List.mem_iff_getElem.1 hp
  have:=h i hi
  rwa [Sa.getD_of hi] at this
 ·exact fun h i hi=>h _ (mem_getD hi)
theorem peace_iff {l:List Pk}:Peace l ↔ l.Pairwise fun p q=>Ix.against p q = false ∧ Ix.against q p = false:=by
 unfold Peace
 rw [List.pairwise_iff_getElem]
 constructor
 ·intro h i j hi hj hij
  have h1:=h i hi j hj (by omega)
  have h2:=h j hj i hi (by omega)
  rw [Sa.getD_of hi,Sa.getD_of hj] at h1 h2
  exact ⟨h1,h2⟩
 ·intro h p hp j hj hne
  rw [Sa.getD_of hp,Sa.getD_of hj]
  rcases Nat.lt_or_gt_of_ne hne with hlt | hlt
  ·exact (h j p hj hp hlt).2
  ·exact (h p j hp hj hlt).1
theorem hea_part {W:List Bs} {A T:List Pk} (h:Shut A W) (hT:∀ p ∈ T,p ∈ A) (hh:heaB T = true):heaB (T.filter (inB (inW W A))) = true:=by
 have hb:=Sa.heaB_iff.1 hh
 obtain ⟨⟨h1,h2⟩,h3,h4⟩:=hb
 rw [fed_iff] at h3
 rw [peace_iff] at h4
 have key:∀ (p:Pk),p ∈ T.filter (inB (inW W A)) → ∀ (c:List At) (t:Nat),t < 3 → c ∈ (three p).getD t [] → metR T c = true → metR (T.filter (inB (inW W A))) c = true:=fun p hp c t ht hc hm=>by
  unfold metR at hm ⊢
  rw [List.any_eq_true] at hm ⊢
  obtain ⟨a,ha,hq⟩:=hm
  rw [List.any_eq_true] at hq
  obtain ⟨q,hqT,hs⟩:=hq
  refine ⟨a,ha,List.any_eq_true.2 ⟨q,List.mem_filter.2 ⟨hqT,?_⟩,hs⟩⟩
  have hpX:=inB_iff.1 (List.mem_filter.1 hp).2
  rw [inB_iff,inW_mem]
  exact ⟨hT q hqT,h p (inW_mem.1 hpX).1 (inW_mem.1 hpX).2 a (asks_mem ht hc ha) q (hT q hqT) hs⟩
 refine Sa.heaB_iff.2 ⟨⟨fun p hp=>h1 p (List.mem_filter.1 hp).1,(List.filter_sublist.map Pk.nm).nodup h2⟩,fed_iff.2 fun p hp=>?_,peace_iff.2 (h4.sublist List.filter_sublist)⟩
 have h5:=h3 p (List.mem_filter.1 hp).1
 exact ⟨fun c hc=>key p hp c 0 (by omega) hc (h5.1 c hc),fun c hc=>key p hp c 1 (by omega) hc (h5.2 c hc)⟩
end Un
end Go.Proofs.YtmhpjjjjgakpiaaGreatDoor
namespace Go.Proofs.YtmhpjjjjgakpiaaGreatDoor
open Go.RowKit
set_option linter.unusedSimpArgs false
set_option linter.unusedVariables false
namespace Un
open Ver (Bs S S_size)
open Rl (At Vars mem_getD nA)
open Rc (Pk nPk En nEn Pks Ens PkV PkC CAt Has)
theorem inB_no {X:List Pk} {q:Pk} (h:∀ j,j < X.length → Rc.eqP q (X.getD j nPk) = false):inB X q = false:=by
 unfold inB
 rw [List.any_eq_false]
 intro y hy
 obtain ⟨j,hj,rfl⟩:=List.mem_iff_getElem.1 hy
 have:=h j hj
 rw [Sa.getD_of hj] at this
 simp [this]
theorem inB_yes {X:List Pk} {q:Pk} {j:Nat} (hj:j < X.length) (h:Rc.eqP q (X.getD j nPk) = true):inB X q = true:=by
 unfold inB
 exact List.any_eq_true.2 ⟨_,mem_getD hj,h⟩
set_option maxRecDepth 100000 in
set_option maxHeartbeats 16000000 in
theorem in_any (v vx:Value) (xb:Nat) (X:List Pk) (q:Pk) (w:World) (hc:w.cell? ⟨xb,0,none⟩ = some vx) (hX:Pks w vx X) (hq:PkV w v q) (hl:X.length ≤ 60000) :
  Calls Tryz.prog 17 #[v,.pointer (some ⟨xb,0,none⟩)] w fun e w'=>e = .returned (.bool (inB X q)) ∧ Below w.heap.size w w':=by
 obtain ⟨v1,v2,v3,v4,v5,v6,rfl,hhq⟩:=hq
 obtain ⟨m1,r1,rfl⟩:=hhq.pre.shape
 obtain ⟨m2,r2,rfl⟩:=hhq.dep.shape
 obtain ⟨m3,r3,rfl⟩:=hhq.rcm.shape
 obtain ⟨m4,r4,rfl⟩:=hhq.con.shape
 obtain ⟨m5,r5,rfl⟩:=hhq.brk.shape
 obtain ⟨m6,r6,rfl⟩:=hhq.prv.shape
 obtain ⟨t1,ht1⟩:∃ t,q.pre.length = t:=⟨_,rfl⟩
 obtain ⟨t2,ht2⟩:∃ t,q.dep.length = t:=⟨_,rfl⟩
 obtain ⟨t3,ht3⟩:∃ t,q.rcm.length = t:=⟨_,rfl⟩
 obtain ⟨t4,ht4⟩:∃ t,q.con.length = t:=⟨_,rfl⟩
 obtain ⟨t5,ht5⟩:∃ t,q.brk.length = t:=⟨_,rfl⟩
 obtain ⟨t6,ht6⟩:∃ t,q.prv.length = t:=⟨_,rfl⟩
 rw [ht1,ht2,ht3,ht4,ht5,ht6] at hhq ⊢
 clear ht1 ht2 ht3 ht4 ht5 ht6
 obtain ⟨xa,xc,rfl⟩:=hX.shape
 obtain ⟨G,hG⟩:∃ G,inB X q = G:=⟨_,rfl⟩
 have HG:=Lib.hid hG
 rw [hG]
 obtain ⟨n,hn⟩:∃ n,X.length = n:=⟨_,rfl⟩
 have HN:=Lib.hid hn
 rw [hn] at hc hl
 have hb0:=(Below.refl w.heap.size w).alloc (Nat.le_refl _) (.cells #[.string (S q.nm),.string (S q.vs),.slice m1 t1 r1,.slice m2 t2 r2,.slice m3 t3 r3,.slice m4 t4 r4,.slice m5 t5 r5,.slice m6 t6 r6,.bool q.ess] 40)
 have i0:=Blk.Is.new w 40 #[.string (S q.nm),.string (S q.vs),.slice m1 t1 r1,.slice m2 t2 r2,.slice m3 t3 r3,.slice m4 t4 r4,.slice m5 t5 r5,.slice m6 t6 r6,.bool q.ess]
 obtain ⟨WA,hWA⟩:∃ WA,w.alloc (.cells #[.string (S q.nm),.string (S q.vs),.slice m1 t1 r1,.slice m2 t2 r2,.slice m3 t3 r3,.slice m4 t4 r4,.slice m5 t5 r5,.slice m6 t6 r6,.bool q.ess] 40) = WA:=⟨_,rfl⟩
 rw [hWA] at hb0 i0
 have hc0:=Rl.cell_on hc hb0
 have HX:=Lib.hid (hX.below hb0)
 rw [hn] at HX
 have HQ:=Lib.hid (hhq.below hb0)
 have HB0:=Lib.hid hb0
 have I0:=Lib.hid i0
 have BA:=Lib.hid (Below.refl WA.heap.size WA)
 have hu:=hWA
 clear hG hn hX hhq hb0 i0 hWA hc
 go_enter Tryz.func17,Tryz.ntmps17
 go_wp2_with fail
 clear hu hc0
 go_loopg [8] n (fun gf s8 wx=>∃ k:Nat,s8 = .int .i64 k ∧ Hid (Below WA.heap.size WA wx) ∧ Hid (∀ j,j < k → Rc.eqP q (X.getD j nPk) = false) ∧ k ≤ n ∧ n ≤ k + gf)
 case atStart=>exact ⟨0,rfl,BA,Lib.hid (fun j hj=>absurd hj (by omega)),by omega,by omega⟩
 case round =>
  rename World=>wk
  obtain ⟨k,rfl,HB,HE,hkn,hfu⟩:=hrel
  by_cases hlt:k < n
  ·obtain ⟨g',rfl⟩:∃ g',gk = g' + 1:=⟨gk - 1,by omega⟩
   have hlt':(k:Int) < (n:Int):=by omega
   have hk0:(0:Int) ≤ k:=by omega
   have hltl:k < X.length:=by rw [HN.out]; exact hlt
   obtain ⟨_,a',cap',e1,_,hcells⟩:=HX.out
   rw [HN.out] at e1
   simp only [Value.slice.injEq,true_and] at e1
   obtain ⟨rfl,rfl⟩:=e1
   obtain ⟨kbp,offp,rfl,hcl2⟩:=hcells (by omega)
   obtain ⟨g1,h1,l1,g2,h2,l2,g3,h3,l3,g4,h4,l4,g5,h5,l5,g6,h6,l6,⟨y0,y1,y2,y3,y4,y5,y6,y7,y8⟩,hhp⟩:=Rc.pk_read (hcl2 k hltl)
   rw [Nat.mul_comm 9 k] at y0 y1 y2 y3 y4 y5 y6 y7 y8
   replace y0:=Rl.cell_on y0 HB.out
   replace y1:=Rl.cell_on y1 HB.out
   replace y2:=Rl.cell_on y2 HB.out
   replace y3:=Rl.cell_on y3 HB.out
   replace y4:=Rl.cell_on y4 HB.out
   replace y5:=Rl.cell_on y5 HB.out
   replace y6:=Rl.cell_on y6 HB.out
   replace y7:=Rl.cell_on y7 HB.out
   replace y8:=Rl.cell_on y8 HB.out
   obtain ⟨p,hp⟩:∃ p,X.getD k nPk = p:=⟨_,rfl⟩
   rw [hp] at y0 y1 y8 hhp
   clear hcells hcl2
   have hb2:=(Below.refl wk.heap.size wk).alloc (Nat.le_refl _) (.cells #[.string (S p.nm),.string (S p.vs),.slice g1 h1 l1,.slice g2 h2 l2,.slice g3 h3 l3,.slice g4 h4 l4,.slice g5 h5 l5,.slice g6 h6 l6,.bool p.ess] 40)
   have i2:=Blk.Is.new wk 40 #[.string (S p.nm),.string (S p.vs),.slice g1 h1 l1,.slice g2 h2 l2,.slice g3 h3 l3,.slice g4 h4 l4,.slice g5 h5 l5,.slice g6 h6 l6,.bool p.ess]
   obtain ⟨V0,hV0⟩:∃ V0,wk.alloc (.cells #[.string (S p.nm),.string (S p.vs),.slice g1 h1 l1,.slice g2 h2 l2,.slice g3 h3 l3,.slice g4 h4 l4,.slice g5 h5 l5,.slice g6 h6 l6,.bool p.ess] 40) = V0:=⟨_,rfl⟩
   rw [hV0] at hb2 i2
   have hb9:=HB.out.trans (hb2.mono HB.out.size)
   have hu:=hV0
   have z0:=i2.at (i:=0) rfl
   have z1:=i2.at (i:=1) rfl
   have z2:=i2.at (i:=2) rfl
   have z3:=i2.at (i:=3) rfl
   have z4:=i2.at (i:=4) rfl
   have z5:=i2.at (i:=5) rfl
   have z6:=i2.at (i:=6) rfl
   have z7:=i2.at (i:=7) rfl
   have z8:=i2.at (i:=8) rfl
   have i9:=Rl.is_on I0.out hb9
   have x0:=i9.at (i:=0) rfl
   have x1:=i9.at (i:=1) rfl
   have x2:=i9.at (i:=2) rfl
   have x3:=i9.at (i:=3) rfl
   have x4:=i9.at (i:=4) rfl
   have x5:=i9.at (i:=5) rfl
   have x6:=i9.at (i:=6) rfl
   have x7:=i9.at (i:=7) rfl
   have x8:=i9.at (i:=8) rfl
   have cs:=Rc.ysame_any (.agg #[.string (S q.nm),.string (S q.vs),.slice m1 t1 r1,.slice m2 t2 r2,.slice m3 t3 r3,.slice m4 t4 r4,.slice m5 t5 r5,.slice m6 t6 r6,.bool q.ess]) (.agg #[.string (S p.nm),.string (S p.vs),.slice g1 h1 l1,.slice g2 h2 l2,.slice g3 h3 l3,.slice g4 h4 l4,.slice g5 h5 l5,.slice g6 h6 l6,.bool p.ess]) q p V0 ⟨_,_,_,_,_,_,rfl,HQ.out.below hb9⟩ ⟨_,_,_,_,_,_,rfl,hhp.below hb9⟩
   have HB9:=Lib.hid hb9
   obtain ⟨B,hB⟩:∃ B,Rc.eqP q p = B:=⟨_,rfl⟩
   rw [hB] at cs
   have HBB:=Lib.hid hB
   have HP:=Lib.hid hp
   have HKL:=Lib.hid hltl
   clear hb2 i2 i9 hV0 hb9 hhp hB hp hltl
   cases B with
   | true =>
    have hg:G = true:=by rw [← HG.out]; exact inB_yes HKL.out (by rw [HP.out]; exact HBB.out)
    subst hg
    clear HG HE HBB HP
    go_wp2_with fail
    refine cs.mono ?_
    rintro e w9 ⟨rfl,k9⟩
    have K9:=Lib.hid (HB0.out.trans ((HB9.out.trans (k9.mono HB9.out.size)).mono HB0.out.size))
    clear cs k9
    go_wp2_with fail
    go_ret
    exact ⟨rfl,K9.out⟩
   | false =>
    have HE2:Hid (∀ j,j < k + 1 → Rc.eqP q (X.getD j nPk) = false):=Lib.hid fun j hj=>by
     by_cases e:j = k
     ·rw [e,HP.out]; exact HBB.out
     ·exact HE.out j (by omega)
    clear HE HBB HP
    go_wp2_with fail
    refine cs.mono ?_
    rintro e w9 ⟨rfl,k9⟩
    have K9:=Lib.hid (HB9.out.trans (k9.mono HB9.out.size))
    clear cs k9
    go_wp2_with fail
    go_roundg g'
    case measure=>omega
    case rel=>exact ⟨k + 1,by go_num,K9,HE2,by omega,by omega⟩
  ·have hge:¬ (k:Int) < (n:Int):=by omega
   obtain rfl:n = k:=by omega
   have hg:G = false:=by rw [← HG.out]; exact inB_no fun j hj=>HE.out j (by rw [← HN.out]; exact hj)
   subst hg
   have K9:=Lib.hid (HB0.out.trans (HB.out.mono HB0.out.size))
   clear HG HE
   go_wp2_with fail
   go_ret
   exact ⟨rfl,K9.out⟩
end Un
end Go.Proofs.YtmhpjjjjgakpiaaGreatDoor
namespace Go.Proofs.YtmhpjjjjgakpiaaGreatDoor
open Go Go.Lib Go.RowKit
set_option maxRecDepth 100000
set_option linter.unusedSimpArgs false
namespace Rl
open Ver (MaxLen Signs)
def listed : List (String × DataW Unit) := [("chandler/version.signs", Rows.laid_chandler_version_signs)]
theorem maxLen_of {w:World} (h:w.ShapedOpen Tryz.prog):MaxLen w :=
 cell_of_shapedOpen_int (P:=Tryz.prog) (g:=1) (t:=3) (zero:=#[.int .i64 0]) (k:=.i64) h (by decide +kernel) (by kernel_rfl) rfl (by kernel_rfl) (by kernel_rfl) Tryz.underlying3
theorem signs_of_laid {W:World} (h:laidMetH Tryz.prog listed W):Signs W:=by
 intro i hi
 rw [MakeChecks.laidMetH_plain _ _ _ (by kernel_rfl)] at h
 obtain ⟨g,t,cs,fuel,p,hg,hty,hvar,hd⟩:=Lib.laidMet.reads h (.head _)
 have hgn : Tryz.prog.globalNamed "chandler/version.signs" = some 0 := by kernel_rfl
 have htn:(Tryz.prog.globals[0]?).map (·.type) = some 178:=by kernel_rfl
 obtain rfl:=Option.some.inj (hgn.symm.trans hg)
 obtain rfl:=Option.some.inj (htn.symm.trans hty)
 have hu:Tryz.prog.underlying 178 = some (.array 6 9):=by kernel_rfl
 have hc:Tryz.prog.cellsOf 9 = 1:=by kernel_rfl
 obtain ⟨fuel',d,q,hdi,he⟩:=Lib.array_elem hu hd i hi
 obtain ⟨s,hs1,hs2,_⟩:=DataW.trod_string (by kernel_rfl:Tryz.prog.underlying 9 = some .string) he
 rw [hc,Nat.mul_one] at hs1
 have hcell:cs.toList[i]? = some (.string s):=by
  have:=congrArg (·[0]?) hs1
  simpa [List.getElem?_take,List.getElem?_drop] using this
 rw [World.var?_cell hg hvar i,← Array.getElem?_toList,hcell]
 simp only [Prod.mk.injEq] at hs2
 obtain ⟨rfl,_⟩:=hs2
 have hS:∀ l:List UInt8,s.data.toList = l → s = ⟨l.toArray⟩:=fun l e=>by
  apply ByteArray.ext
  rw [← e]
 have hcase:i = 0 ∨ i = 1 ∨ i = 2 ∨ i = 3 ∨ i = 4 ∨ i = 5:=by omega
 rcases hcase with rfl | rfl | rfl | rfl | rfl | rfl
 all_goals
  simp only [Rows.laid_chandler_version_signs,List.getElem?_cons_zero,List.getElem?_cons_succ,Option.some.injEq,DataW.lit.injEq,Lit.string.injEq] at hdi
  rw [hS _ hdi.symm]
  rfl
theorem vars_of {W:World} (hL:laidMetH Tryz.prog listed W) (hSh:W.ShapedOpen Tryz.prog):Vars W:=⟨maxLen_of hSh,signs_of_laid hL⟩
end Rl
end Go.Proofs.YtmhpjjjjgakpiaaGreatDoor

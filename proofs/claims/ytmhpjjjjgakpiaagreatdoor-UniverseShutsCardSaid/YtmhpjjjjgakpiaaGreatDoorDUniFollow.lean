/-
follow: all that is reached from the names that have entered.
-/
import Derived.Test.YtmhpjjjjgakpiaaGreatDoorDUniAsk
import Derived.Test.YtmhpjjjjgakpiaaGreatDoorDUniNamed
import Derived.Test.YtmhpjjjjgakpiaaGreatDoorDUniSeq
namespace Go.Proofs.YtmhpjjjjgakpiaaGreatDoor
open Go.RowKit
set_option linter.unusedSimpArgs false
set_option linter.unusedVariables false
namespace Un
open Ver (Bs S S_size)
open Rl (At Vars mem_getD)
open Rc (Pk nPk PkC Has In Acc)
open Ix (Idx Few LimS sat rising)
theorem chg_cell {Q:Nat → Prop} {w w':World} {g o:Nat} {v:Value} (h:Blk.Chg Q w w') (hc:w.cell? ⟨g,o,none⟩ = some v) (hn:¬ Q g):w'.cell? ⟨g,o,none⟩ = some v:=by
 have hlt:g < w.heap.size:=Nat.lt_of_not_le fun hge=>by
  unfold World.cell? at hc
  simp only [Array.getElem?_eq_none hge] at hc
  cases hc
 have e:=h.block g hlt hn
 unfold World.cell? at hc ⊢
 rw [← hc]
 simp only [e]
theorem acc_in {e:TypeId} {B L:Nat} {w:World} {v:Value} {xs:List Pk} (h:Acc PkC 9 e B L w v xs) {k:Nat} (hk:k < xs.length) :
  ∃ g cap cs b m,v = .slice (some ⟨g,0,none⟩) xs.length cap ∧ B ≤ g ∧ g < w.heap.size ∧ cs.length = 9 ∧ (∀ (j:Nat) u,cs[j]? = some u → w.cell? ⟨g,9 * k + j,none⟩ = some u) ∧ L ≤ b ∧ In b m w (fun u=>PkC u cs (xs.getD k nPk)) ∧ m ≤ w.heap.size:=by
 obtain ⟨l,h1,h2,h3⟩:=h
 obtain ⟨g,cap,e1,_⟩:=Rl.own_slice h2 (by omega)
 have hl:l.length = xs.length:=by rw [← h1,List.length_map]
 obtain ⟨p,hp⟩:∃ p,l[k]? = some p:=⟨l[k],List.getElem?_eq_getElem (by omega)⟩
 have hmem:p ∈ l:=List.mem_iff_getElem?.2 ⟨k,hp⟩
 have hx:xs.getD k nPk = p.2:=by
  rw [List.getD_eq_getElem?_getD,← h1,List.getElem?_map,hp]; rfl
 obtain ⟨b,m,hb,hi,hm,_⟩:=(h3 p hmem).has
 have hlt:=Rl.own_lt h2 (k:=g) (by rw [e1]; rfl)
 refine ⟨g,cap,p.1,b,m,e1,hlt.1,hlt.2,(h3 p hmem).len,fun j u hj=>?_,hb,by rw [hx]; exact hi,hm⟩
 have hj9:j < 9:=by rw [← (h3 p hmem).len]; exact (List.getElem?_eq_some_iff.1 hj).1
 rw [e1] at h2
 refine Rl.own_cell h2 ?_
 rw [Rc.flat_row 9 (l.map (·.1)) k j p.1 (fun r hr=>by
  obtain ⟨q,hq,rfl⟩:=List.mem_map.1 hr
  exact (h3 q hq).len) (by rw [List.getElem?_map,hp]; rfl) hj9]
 exact hj
/-! ### what follows -/
theorem ent1_pre (NX W:List Bs) (n:Bs):∃ t,ent1 NX W n = W ++ t:=by
 unfold ent1
 split
 ·exact ⟨_,rfl⟩
 ·exact ⟨[],by simp⟩
theorem ent_pre (NX:List Bs):∀ (ns W:List Bs),∃ t,ent NX W ns = W ++ t
 | [],W=>⟨[],by simp [ent]⟩
 | n :: r,W=>by
  obtain ⟨t1,h1⟩:=ent1_pre NX W n
  obtain ⟨t2,h2⟩:=ent_pre NX r (ent1 NX W n)
  refine ⟨t1 ++ t2,?_⟩
  show ent NX (ent1 NX W n) r = _
  rw [h2,h1,List.append_assoc]
def askAll (xs ps:List Pk):List Bs:=ps.flatMap (askNms xs)
theorem askAll_snoc (xs ps:List Pk) (p:Pk):askAll xs (ps ++ [p]) = askAll xs ps ++ askNms xs p:=by
 unfold askAll
 rw [List.flatMap_append]
 simp
structure Fw (xs:List Pk) (NX W0:List Bs) (R:Bs → Prop) (i:Nat) (W:List Bs):Prop where
 has:∀ n ∈ W0,n ∈ W
 rch:∀ n ∈ W,R n
 done:∀ j nm,j < i → W[j]? = some nm → ∀ n ∈ askAll xs (ofNm xs nm),n ∈ NX → n ∈ W
theorem Fw.step {xs:List Pk} {NX W0:List Bs} {R:Bs → Prop} {i:Nat} {W:List Bs} (h:Fw xs NX W0 R i W) (hR:∀ p ∈ xs,R p.nm → ∀ a ∈ asks p,∀ q ∈ xs,sat q a = true → R q.nm) {nm:Bs} (hi:W[i]? = some nm) :
  Fw xs NX W0 R (i + 1) (ent NX W (askAll xs (ofNm xs nm))):=by
 obtain ⟨t,ht⟩:=ent_pre NX (askAll xs (ofNm xs nm)) W
 have hil:=(List.getElem?_eq_some_iff.1 hi).1
 refine ⟨fun n hn=>ent_mem.2 (.inl (h.has n hn)),fun n hn=>?_,fun j m hj hm n hn hx=>?_⟩
 ·rcases ent_mem.1 hn with hn | ⟨hn,_⟩
  ·exact h.rch n hn
  ·obtain ⟨p,hp,hn⟩:=List.mem_flatMap.1 hn
   obtain ⟨hp1,hp2⟩:=List.mem_filter.1 hp
   rw [decide_eq_true_eq] at hp2
   obtain ⟨a,ha,q,hq,hs,rfl⟩:=ask_mem.1 hn
   exact hR p hp1 (by rw [hp2]; exact h.rch nm (List.mem_of_getElem? hi)) a ha q hq hs
 ·rw [ht,List.getElem?_append_left (by omega)] at hm
  by_cases e:j = i
  ·subst e
   rw [hi] at hm
   obtain rfl:=Option.some.inj hm
   exact ent_mem.2 (.inr ⟨hn,hx⟩)
  ·exact ent_mem.2 (.inl (h.done j m (by omega) hm n hn hx))
theorem Fw.shut {xs:List Pk} {NX W0:List Bs} {R:Bs → Prop} {W:List Bs} (h:Fw xs NX W0 R W.length W) (hX:∀ n,n ∈ NX ↔ ∃ p ∈ xs,p.nm = n):Shut xs W:=fun p hp hn a ha q hq hs=>by
 obtain ⟨j,hj⟩:=List.mem_iff_getElem?.1 hn
 exact h.done j _ (List.getElem?_eq_some_iff.1 hj).1 hj _ (List.mem_flatMap.2 ⟨p,List.mem_filter.2 ⟨hp,by simp⟩,ask_mem.2 ⟨a,ha,q,hq,hs,rfl⟩⟩) ((hX _).2 ⟨q,hq,rfl⟩)
set_option maxRecDepth 100000 in
set_option maxHeartbeats 32000000 in
theorem follow_any (wb ob pb M:Nat) (v:Value) (NX W:List Bs) (xs:List Pk) (w0 w:World) (R:Bs → Prop)
  (h:WL w M wb ob pb v NX W) (hI:Idx w0 pb xs) (hb0:Below w0.heap.size w0 w) (hlow:w0.heap.size ≤ wb ∧ w0.heap.size ≤ ob ∧ w0.heap.size ≤ M)
  (hL:∀ x ∈ xs,x.Lim) (hF:∀ x ∈ xs,Few x) (hn:xs.length ≤ 60000) (hv:Vars w0) (hsz:∀ x ∈ xs,(clsOf x).length ≤ 60000)
  (hX:∀ n,n ∈ NX ↔ ∃ p ∈ xs,p.nm = n) (hR0:∀ n ∈ W,R n) (hR:∀ p ∈ xs,R p.nm → ∀ a ∈ asks p,∀ q ∈ xs,sat q a = true → R q.nm) :
  Calls Tryz.prog 30 #[.pointer (some ⟨wb,0,none⟩)] w fun e w'=>∃ v' WF,e = .returned v' ∧ Txt.Texts w' v' ((rising WF).map S) ∧ WF.Nodup ∧ (∀ n ∈ W,n ∈ WF) ∧ (∀ n ∈ WF,R n) ∧ (∀ n ∈ WF,n ∈ NX) ∧ Shut xs WF ∧ Below w0.heap.size w0 w':=by
 have hNX:=h.few
 have HW:=Lib.hid h
 have HI:=Lib.hid hI
 have HB0:=Lib.hid hb0
 have HLOW:=Lib.hid hlow
 have HL:=Lib.hid hL
 have HFE:=Lib.hid hF
 have HXN:=Lib.hid hn
 have HV0:=Lib.hid hv
 have HSZ:=Lib.hid hsz
 have HX:=Lib.hid hX
 have HRR:=Lib.hid hR
 have FW0:Hid (Fw xs NX W R 0 W):=⟨fun n hn=>hn,hR0,fun j m hj=>absurd hj (by omega)⟩
 obtain ⟨NL,hNL⟩:∃ NL,NX.length = NL:=⟨_,rfl⟩
 have HNL:=Lib.hid hNL
 rw [hNL] at hNX
 clear h hI hb0 hlow hL hF hn hv hsz hX hR0 hR hNL
 go_enter Tryz.func30,Tryz.ntmps30
 go_wp2_with fail
 go_loopg [3] NL (fun gf s3 wx=>∃ (k:Nat) (vx:Value) (WK:List Bs),s3 = .int .i64 k ∧ Hid (WL wx M wb ob pb vx NX WK) ∧ Hid (Fw xs NX W R k WK) ∧ Hid (Below w0.heap.size w0 wx) ∧ k ≤ WK.length ∧ NL ≤ k + gf)
 case atStart=>exact ⟨0,v,W,rfl,HW,FW0,HB0,by omega,by omega⟩
 case round =>
  rename World=>wk
  obtain ⟨k,vx,WK,rfl,HY,HFW,HZ,hkn,hfu⟩:=hrel
  have hWKn:WK.length ≤ NL:=by rw [← HNL.out]; exact Ix.len_le HY.out.nd HY.out.sub
  obtain ⟨va,vc,hvx,_⟩:=Rl.own_shape HY.out.row
  obtain ⟨L,hWL⟩:∃ L,WK.length = L:=⟨_,rfl⟩
  rw [hWL] at hvx hWKn hkn
  subst hvx
  have HWL:=Lib.hid hWL
  have q0:=HY.out.blk.at (i:=0) rfl
  have q1:=HY.out.blk.at (i:=1) rfl
  clear hWL
  by_cases hlt:k < L
  ·obtain ⟨g',rfl⟩:∃ g',gk = g' + 1:=⟨gk - 1,by omega⟩
   have hlt':(k:Int) < (L:Int):=by omega
   have hk0:(0:Int) ≤ k:=by omega
   have hkl:k < WK.length:=by rw [HWL.out]; exact hlt
   have hrow:=HY.out.row
   rw [HWL.out] at hrow
   obtain ⟨gb,gc,e2,_⟩:=Rl.own_slice hrow (by omega)
   simp only [Value.slice.injEq,true_and] at e2
   obtain ⟨rfl,rfl⟩:=e2
   obtain ⟨nm,hnm⟩:∃ nm,WK[k]? = some nm:=⟨WK[k],List.getElem?_eq_getElem hkl⟩
   have x0:=Rl.own_cell hrow (i:=k) (u:=.string (S nm)) (by unfold tx; rw [List.getElem?_map,hnm]; rfl)
   have Q0:Hid (∀ u,Below wk.heap.size wk u → u.cell? ⟨wb,0,none⟩ = some (.pointer (some ⟨pb,0,none⟩))):=fun u hu=>Rl.cell_on q0 hu
   have Q1:Hid (∀ u,Below wk.heap.size wk u → u.cell? ⟨wb,1,none⟩ = some (.slice (some ⟨gb,0,none⟩) L vc)):=fun u hu=>Rl.cell_on q1 hu
   have QN:Hid (∀ u,Below wk.heap.size wk u → u.cell? ⟨gb,k,none⟩ = some (.string (S nm))):=fun u hu=>Rl.cell_on x0 hu
   have hnx:nm ∈ NX:=HY.out.sub nm (List.mem_of_getElem? hnm)
   have hlim:LimS nm:=by
    obtain ⟨p,hp,rfl⟩:=(HX.out nm).1 hnx
    exact (HL.out p hp).nm
   obtain ⟨PL,hPL⟩:∃ PL,ofNm xs nm = PL:=⟨_,rfl⟩
   have hpl1:ofNms xs [nm] = PL:=by rw [← hPL]; unfold ofNms; simp
   have hpm:∀ p ∈ PL,p ∈ xs:=fun p hp=>by rw [← hPL] at hp; exact (List.mem_filter.1 hp).1
   have hpn:PL.length ≤ 60000:=by rw [← hPL]; exact Nat.le_trans (List.length_filter_le _ _) HXN.out
   obtain ⟨LL,hLL⟩:∃ LL,PL.length = LL:=⟨_,rfl⟩
   have CN:Hid (∀ u,Below wk.heap.size wk u → ∀ tv,Txt.Texts u tv ([nm].map S) → Calls Tryz.prog 21 #[.pointer (some ⟨pb,0,none⟩),tv] u fun e w'=>∃ v',e = .returned v' ∧ Acc PkC 9 40 u.heap.size u.heap.size w' v' PL ∧ Below u.heap.size u w'):=fun u hu tv ht=>by
    have:=named_any pb xs tv [nm] u (Idx.below HI.out (HZ.out.trans (hu.mono HZ.out.size))) HFE.out HXN.out ht (fun n hn=>by rw [List.mem_singleton.1 hn]; exact hlim) (by rw [hpl1]; exact hpn)
    rw [hpl1] at this
    exact this
   rw [hLL] at hpn
   have HLL:=Lib.hid hLL
   have HPM:=Lib.hid hpm
   have FW9:Hid (Fw xs NX W R (k + 1) (ent NX WK (askAll xs PL))):=by rw [← hPL]; exact HFW.out.step HRR.out hnm
   clear hrow hnm hnx hlim hPL hpl1 hpm hLL hkl
   go_upto_region 4 with fail
   clear q0 q1 x0
   refine wp_region_held (S:=fun u=>Below wk.heap.size wk u) (by kernel_rfl) ?_
   have hS0:Below wk.heap.size wk wk.drew:=(Below.refl _ _).drew
   change wpAnyH _ _ _ _ _ 15 _ _ wk.drew
   generalize wk.drew = u0 at *
   refine wpAnyH_take (i:=0) (v:=.pointer (some ⟨wb,0,none⟩)) rfl (by kernel_rfl) (by kernel_rfl) (by kernel_rfl) (fun _ _ _ h=>h) (.inl ⟨rfl,fun w _=>rfl⟩) hS0 ?_
   simp only [Act.put,List.getElem_toArray,List.getElem_cons_zero,List.getElem_cons_succ,List.setIfInBounds_toArray,List.set_cons_zero,List.set_cons_succ]
   refine wpAnyH_take (i:=1) (v:=.pointer (some ⟨wb,0,none⟩)) rfl (by kernel_rfl) (by kernel_rfl) (by kernel_rfl) (fun _ _ _ h=>h) (.inl ⟨rfl,fun w _=>rfl⟩) hS0 ?_
   simp only [Act.put,List.getElem_toArray,List.getElem_cons_zero,List.getElem_cons_succ,List.setIfInBounds_toArray,List.set_cons_zero,List.set_cons_succ]
   refine wpAnyH_take (i:=2) (v:=.pointer (some ⟨wb,0,none⟩)) rfl (by kernel_rfl) (by kernel_rfl) (by kernel_rfl) (fun _ _ _ h=>h) (.inl ⟨rfl,fun w _=>rfl⟩) hS0 ?_
   simp only [Act.put,List.getElem_toArray,List.getElem_cons_zero,List.getElem_cons_succ,List.setIfInBounds_toArray,List.set_cons_zero,List.set_cons_succ]
   refine wpAnyH_take (i:=3) (v:=.pointer (some ⟨pb,0,none⟩)) rfl (by kernel_rfl) (by kernel_rfl) (by kernel_rfl) (fun _ _ _ h=>h) (Held.load1 rfl 55 (.tmp 17) rfl wb 0 rfl _ _ Q0.out Tryz.underlying55 rfl) hS0 ?_
   simp only [Act.put,List.getElem_toArray,List.getElem_cons_zero,List.getElem_cons_succ,List.setIfInBounds_toArray,List.set_cons_zero,List.set_cons_succ]
   refine wpAnyH_take (i:=4) (v:=.pointer (some ⟨wb,0,none⟩)) rfl (by kernel_rfl) (by kernel_rfl) (by kernel_rfl) (fun _ _ _ h=>h) (.inl ⟨rfl,fun w _=>rfl⟩) hS0 ?_
   simp only [Act.put,List.getElem_toArray,List.getElem_cons_zero,List.getElem_cons_succ,List.setIfInBounds_toArray,List.set_cons_zero,List.set_cons_succ]
   refine wpAnyH_take (i:=5) (v:=.pointer (some ⟨wb,0,none⟩)) rfl (by kernel_rfl) (by kernel_rfl) (by kernel_rfl) (fun _ _ _ h=>h) (.inl ⟨rfl,fun w _=>rfl⟩) hS0 ?_
   simp only [Act.put,List.getElem_toArray,List.getElem_cons_zero,List.getElem_cons_succ,List.setIfInBounds_toArray,List.set_cons_zero,List.set_cons_succ]
   refine wpAnyH_take (i:=6) (v:=.pointer (some ⟨wb,1,none⟩)) rfl (by kernel_rfl) (by kernel_rfl) (by kernel_rfl) (fun _ _ _ h=>h) (.inl ⟨rfl,fun w _=>rfl⟩) hS0 ?_
   simp only [Act.put,List.getElem_toArray,List.getElem_cons_zero,List.getElem_cons_succ,List.setIfInBounds_toArray,List.set_cons_zero,List.set_cons_succ]
   refine wpAnyH_take (i:=7) (v:=.slice (some ⟨gb,0,none⟩) L vc) rfl (by kernel_rfl) (by kernel_rfl) (by kernel_rfl) (fun _ _ _ h=>h) (Held.load1 rfl 32 (.tmp 21) rfl wb 1 rfl _ _ Q1.out Tryz.underlying32 rfl) hS0 ?_
   simp only [Act.put,List.getElem_toArray,List.getElem_cons_zero,List.getElem_cons_succ,List.setIfInBounds_toArray,List.set_cons_zero,List.set_cons_succ]
   refine wpAnyH_take (i:=8) (v:=.int .i64 k) rfl (by kernel_rfl) (by kernel_rfl) (by kernel_rfl) (fun _ _ _ h=>h) (.inl ⟨rfl,fun w _=>rfl⟩) hS0 ?_
   simp only [Act.put,List.getElem_toArray,List.getElem_cons_zero,List.getElem_cons_succ,List.setIfInBounds_toArray,List.set_cons_zero,List.set_cons_succ]
   refine wpAnyH_take (i:=9) (v:=.pointer (some ⟨gb,k,none⟩)) rfl (by kernel_rfl) (by kernel_rfl) (by kernel_rfl) (fun _ _ _ h=>h) (.inl ⟨rfl,fun w _=>by simp [execOp,go_sem,Addr.add,hlt'] <;> first | omega | (intro h; omega) | (intro h; simp [h])⟩) hS0 ?_
   simp only [Act.put,List.getElem_toArray,List.getElem_cons_zero,List.getElem_cons_succ,List.setIfInBounds_toArray,List.set_cons_zero,List.set_cons_succ]
   refine wpAnyH_take (i:=10) (v:=.string (S nm)) rfl (by kernel_rfl) (by kernel_rfl) (by kernel_rfl) (fun _ _ _ h=>h) (Held.load1 rfl 9 (.tmp 24) rfl gb k rfl _ _ QN.out Tryz.underlying9 rfl) hS0 ?_
   simp only [Act.put,List.getElem_toArray,List.getElem_cons_zero,List.getElem_cons_succ,List.setIfInBounds_toArray,List.set_cons_zero,List.set_cons_succ]
   refine wpAnyH_take (i:=14) (v:=.int .i64 0) rfl (by kernel_rfl) (by kernel_rfl) (by kernel_rfl) (fun _ _ _ h=>h) (.inl ⟨rfl,fun w _=>rfl⟩) hS0 ?_
   simp only [Act.put,List.getElem_toArray,List.getElem_cons_zero,List.getElem_cons_succ,List.setIfInBounds_toArray,List.set_cons_zero,List.set_cons_succ]
   refine wpAnyH_all (rs:=[11]) (by kernel_rfl) (by simp) ?_
   intro i hi
   obtain rfl:=List.mem_singleton.1 hi
   refine Reg.wpOp_list rfl ?_
   go_wp2_with fail
   change _ ∧ _
   have i1:=Blk.Is.new u0 9 #[.string (S nm)]
   have hS1:Below wk.heap.size wk (u0.alloc (.cells #[.string (S nm)] 9)):=hS0.alloc hS0.size _
   have hz1:(u0.alloc (.cells #[.string (S nm)] 9)).heap.size = u0.heap.size + 1:=by simp
   generalize u0.alloc (.cells #[.string (S nm)] 9) = u1 at *
   refine ⟨hS1,?_⟩
   have TX:=one_text i1 1 (Nat.le_refl _)
   have cx:=CN.out u1 hS1 _ TX.here
   have hs3:=hS1.size
   refine wpAnyH_all (rs:=[12]) (by kernel_rfl) (by simp) ?_
   intro i hi
   obtain rfl:=List.mem_singleton.1 hi
   refine Reg.wpOp_list rfl ?_
   go_wp2_with fail
   refine cx.mono ?_
   rintro e u2 ⟨v3,rfl,hacc,k2⟩
   go_wp2_with fail
   change _ ∧ _
   have hS2:Below wk.heap.size wk u2:=hS1.trans (k2.mono hS1.size)
   refine ⟨hS2,?_⟩
   clear cx
   obtain ⟨aa,ac,hve⟩:=hacc.shape
   rw [HLL.out] at hve
   subst hve
   refine wpAnyH_all (rs:=[13]) (by kernel_rfl) (by simp) ?_
   intro i hi
   obtain rfl:=List.mem_singleton.1 hi
   refine Reg.wpOp_list rfl ?_
   go_wp2_with fail
   change _ ∧ _
   refine ⟨hS2,?_⟩
   refine wpAnyH_done (by kernel_rfl) ?_ _

   have HU2:=Lib.hid hS2
   have HACC:=Lib.hid hacc
   have HY2:=Lib.hid (HY.out.below hS2)
   have HZ2:Hid (Below w0.heap.size w0 u2):=HZ.out.trans (hS2.mono HZ.out.size)
   have HOW:Hid (∀ q,Own3 wb ob (.slice (some ⟨gb,0,none⟩) L vc) q → q < u1.heap.size):=fun q hq=>Nat.lt_of_lt_of_le (HY.out.lt q hq) hS1.size
   clear hS0 hS1 hS2 hacc TX i1 hz1 hs3 k2
   go_wp2_with fail
   go_loopg [29] LL (fun gf s29 wx=>∃ (j:Nat) (vy:Value),s29 = .int .i64 j ∧ Hid (WL wx M wb ob pb vy NX (ent NX WK (askAll xs (PL.take j)))) ∧ Hid (Blk.Chg (Own3 wb ob (.slice (some ⟨gb,0,none⟩) L vc)) u2 wx) ∧ Hid (∀ q,vy.ownBlock = some q → (Value.slice (some ⟨gb,0,none⟩) L vc).ownBlock = some q ∨ u2.heap.size ≤ q) ∧ Hid (Below w0.heap.size w0 wx) ∧ j ≤ LL ∧ LL ≤ j + gf)
   case atStart=>exact ⟨0,_,rfl,HY2,Lib.hid (Blk.Chg.refl _ _),Lib.hid (fun j hj=>.inl hj),HZ2,by omega,by omega⟩
   case round =>
    rename World=>wj
    obtain ⟨j,vy,rfl,HQ,HC,HV,HZJ,hjn,hfj⟩:=hrel
    by_cases hlj:j < LL
    ·obtain ⟨g2,rfl⟩:∃ g2,gk = g2 + 1:=⟨gk - 1,by omega⟩
     have hlj':(j:Int) < (LL:Int):=by omega
     have hj0:(0:Int) ≤ j:=by omega
     have hjl:j < PL.length:=by rw [HLL.out]; exact hlj
     obtain ⟨rg,rc,cs,bb,mm,e3,hg1,hg2,hc9,hcell,hbL,hin,hmm⟩:=acc_in HACC.out hjl
     rw [HLL.out] at e3
     simp only [Value.slice.injEq,true_and] at e3
     obtain ⟨rfl,rfl⟩:=e3
     have hmp:=HPM.out _ (mem_getD (z:=nPk) hjl)
     have htk:=take_snoc (z:=nPk) hjl
     obtain ⟨p,hp⟩:∃ p,PL.getD j nPk = p:=⟨_,rfl⟩
     rw [hp] at hin hmp htk
     obtain ⟨u1',u2',u3',u4',u5',u6',hcs,hhas⟩:=in_pkc hin
     have hh:=hhas.here
     obtain ⟨s1,t1,e1⟩:=hh.pre.shape
     generalize p.pre.length = m1 at e1
     obtain ⟨s2,t2,e2⟩:=hh.dep.shape
     generalize p.dep.length = m2 at e2
     obtain ⟨s3,t3,e3⟩:=hh.rcm.shape
     generalize p.rcm.length = m3 at e3
     obtain ⟨s4,t4,e4⟩:=hh.con.shape
     generalize p.con.length = m4 at e4
     obtain ⟨s5,t5,e5⟩:=hh.brk.shape
     generalize p.brk.length = m5 at e5
     obtain ⟨s6,t6,e6⟩:=hh.prv.shape
     generalize p.prv.length = m6 at e6
     subst e1 e2 e3 e4 e5 e6
     subst hcs
     have hno:¬ Own3 wb ob (.slice (some ⟨gb,0,none⟩) L vc) rg:=fun hq=>by have:=HOW.out rg hq; omega
     have y0:=chg_cell HC.out (hcell 0 _ rfl) hno
     have y1:=chg_cell HC.out (hcell 1 _ rfl) hno
     have y2:=chg_cell HC.out (hcell 2 _ rfl) hno
     have y3:=chg_cell HC.out (hcell 3 _ rfl) hno
     have y4:=chg_cell HC.out (hcell 4 _ rfl) hno
     have y5:=chg_cell HC.out (hcell 5 _ rfl) hno
     have y6:=chg_cell HC.out (hcell 6 _ rfl) hno
     have y7:=chg_cell HC.out (hcell 7 _ rfl) hno
     have y8:=chg_cell HC.out (hcell 8 _ rfl) hno
     rw [Nat.add_zero] at y0
     rw [Nat.mul_comm 9 j] at y0 y1 y2 y3 y4 y5 y6 y7 y8
     have hb2:=(Below.refl wj.heap.size wj).alloc (Nat.le_refl _) (.cells #[.string (S p.nm),.string (S p.vs),.slice s1 m1 t1,.slice s2 m2 t2,.slice s3 m3 t3,.slice s4 m4 t4,.slice s5 m5 t5,.slice s6 m6 t6,.bool p.ess] 40)
     have i2:=Blk.Is.new wj 40 #[.string (S p.nm),.string (S p.vs),.slice s1 m1 t1,.slice s2 m2 t2,.slice s3 m3 t3,.slice s4 m4 t4,.slice s5 m5 t5,.slice s6 m6 t6,.bool p.ess]
     obtain ⟨V0,hV0⟩:∃ V0,wj.alloc (.cells #[.string (S p.nm),.string (S p.vs),.slice s1 m1 t1,.slice s2 m2 t2,.slice s3 m3 t3,.slice s4 m4 t4,.slice s5 m5 t5,.slice s6 m6 t6,.bool p.ess] 40) = V0:=⟨_,rfl⟩
     rw [hV0] at hb2 i2
     have z0:=i2.at (i:=0) rfl
     have z1:=i2.at (i:=1) rfl
     have z2:=i2.at (i:=2) rfl
     have z3:=i2.at (i:=3) rfl
     have z4:=i2.at (i:=4) rfl
     have z5:=i2.at (i:=5) rfl
     have z6:=i2.at (i:=6) rfl
     have z7:=i2.at (i:=7) rfl
     have z8:=i2.at (i:=8) rfl
     have hz0:Below w0.heap.size w0 V0:=HZJ.out.trans (hb2.mono HZJ.out.size)
     obtain ⟨WJ,hWJ⟩:∃ WJ,ent NX WK (askAll xs (PL.take j)) = WJ:=⟨_,rfl⟩
     have hnext:ent NX WK (askAll xs (PL.take (j + 1))) = ent NX WJ (askNms xs p):=by rw [htk,askAll_snoc,ent_app,hWJ]
     rw [hWJ] at HQ
     have hhV:=(hhas.on (HC.out.mono fun q _ hq=>.inl (by have:=HOW.out q hq; omega))).on (Blk.Chg.ofBelow' hb2)
     have hap:Apart bb mm wb ob vy:=fun q hq=>by
      rcases hq with hq | hq | hq
      ·have:=HOW.out q (.inl hq)
       exact .inl (by omega)
      ·have:=HOW.out q (.inr (.inl hq))
       exact .inl (by omega)
      ·rcases HV.out q hq with h1 | h1
       ·have:=HOW.out q (.inr (.inr h1))
        exact .inl (by omega)
       ·exact .inr (by omega)
     have hsm:mm ≤ V0.heap.size:=by
      have h1:=HC.out.size
      have h2:=hb2.size
      omega
     have ck:=ask_any wb ob pb M vy NX WJ xs p s1 m1 t1 s2 m2 t2 s3 m3 t3 s4 m4 t4 s5 m5 t5 s6 m6 t6 w0 V0 bb mm (HQ.out.below hb2) HI.out hz0 HLOW.out hhV hsm hap HL.out HFE.out HXN.out HV0.out (HL.out p hmp) (HSZ.out p hmp)
     have HNJ:=Lib.hid hnext
     have HBJ:=Lib.hid hb2
     have HZ0:=Lib.hid hz0
     have HQ0:=HQ
     obtain ⟨bx,hbx⟩:∃ bx,wj.heap.size = bx:=⟨_,rfl⟩
     rw [hbx] at z0 z1 z2 z3 z4 z5 z6 z7 z8
     have hu:=hV0
     clear hg1 hg2 hc9 hcell hbL hin hmm hmp htk hp hhas hh hno hb2 i2 hV0 hz0 hWJ hnext hhV hap hsm hjl
     go_wp2_with fail
     clear hu z0 z1 z2 z3 z4 z5 z6 z7 z8 y0 y1 y2 y3 y4 y5 y6 y7 y8 hbx
     refine ck.mono ?_
     rintro e w5 ⟨rfl,v5,f1,f2,f3⟩
     have hlowz:=HQ0.out.low HLOW.out.1 HLOW.out.2.1 HLOW.out.2.2
     have hz5:Below w0.heap.size w0 w5:=HZ0.out.trans (f2.below hlowz HZ0.out.size)
     have c5:Blk.Chg (Own3 wb ob (.slice (some ⟨gb,0,none⟩) L vc)) u2 w5:=chg_on (HC.out.trans (Blk.Chg.ofBelow' HBJ.out)) HV.out f2
     have hv5:∀ z,v5.ownBlock = some z → (Value.slice (some ⟨gb,0,none⟩) L vc).ownBlock = some z ∨ u2.heap.size ≤ z:=fun z hz=>by
      rcases f3 z hz with h1 | h1
      ·exact HV.out z h1
      ·have h2:=HC.out.size
       have h3:=HBJ.out.size
       exact .inr (by omega)
     have F1:=Lib.hid f1
     have C5:=Lib.hid c5
     have HV5:=Lib.hid hv5
     have HZ5:=Lib.hid hz5
     clear ck f1 f2 f3 hlowz hz5 c5 hv5 HQ HQ0 HC HV HZJ HZ0
     go_wp2_with fail
     go_roundg g2
     case measure=>omega
     case rel=>exact ⟨j + 1,v5,by go_num,by rw [HNJ.out]; exact F1,C5,HV5,HZ5,by omega,by omega⟩
    ·have hge:¬ (LL:Int) < (LL:Int):=by omega
     obtain rfl:LL = j:=by omega
     have hfull:PL.take LL = PL:=List.take_of_length_le (Nat.le_of_eq HLL.out)
     rw [hfull] at HQ
     obtain ⟨WN,hWN⟩:∃ WN,ent NX WK (askAll xs PL) = WN:=⟨_,rfl⟩
     rw [hWN] at HQ FW9
     have hlen:k + 1 ≤ WN.length:=by
      obtain ⟨t,ht⟩:=ent_pre NX (askAll xs PL) WK
      rw [← hWN,ht,List.length_append,HWL.out]
      omega
     clear hfull hWN HC HV
     go_wp2_with fail
     go_roundg g'
     case measure=>omega
     case rel=>exact ⟨k + 1,vy,WN,by go_num,HQ,FW9,HZJ,by omega,by omega⟩
  ·have hge:¬ (L:Int) < (L:Int):=by omega
   obtain rfl:L = k:=by omega
   have hsh:Shut xs WK:=by
    have:=HFW.out
    rw [← HWL.out] at this
    exact this.shut HX.out
   have hrow:=HY.out.row
   rw [HWL.out] at hrow
   have htx:Txt.Texts wk (.slice va L vc) (WK.map S):=Txt.Texts.owned (by rw [List.length_map,HWL.out,tx_map]; exact hrow) (by rw [List.length_map,HWL.out]; omega)
   have hb2:=(Below.refl wk.heap.size wk).alloc (Nat.le_refl _) (.cells #[.slice va L vc] 32)
   have i2:=Blk.Is.new wk 32 #[.slice va L vc]
   have hsz2:(wk.alloc (.cells #[.slice va L vc] 32)).heap.size = wk.heap.size + 1:=by simp
   have cv:=values_any va L vc wk
   have cs:=sortedVals_any wk.heap.size (.slice va L vc) WK (by rw [HWL.out]; omega) (wk.alloc (.cells #[.slice va L vc] 32)) (by omega) (i2.at (i:=0) rfl) (htx.below hb2) (fun q hq=>by have:=(Rl.own_lt hrow hq).2; omega)
   have HSH:=Lib.hid hsh
   have HB2:=Lib.hid hb2
   have hlr:(rising WK).length = WK.length:=by unfold rising; exact List.length_mergeSort _
   have HLR:=Lib.hid hlr
   clear hsh hrow htx hb2 i2 hsz2 hlr
   go_wp2_with fail
   refine cv.mono ?_
   rintro e w4 ⟨rfl,rfl⟩
   clear cv
   go_wp2_with fail
   refine cs.mono ?_
   rintro e w5 ⟨v5,rfl,ho5,k5⟩
   have ht5:Txt.Texts w5 v5 ((rising WK).map S):=Txt.Texts.owned (by rw [List.length_map,HLR.out,tx_map]; exact ho5) (by rw [List.length_map,HLR.out,HWL.out]; omega)
   have hb5:Below w0.heap.size w0 w5:=(HZ.out.trans (HB2.out.mono HZ.out.size)).trans (k5.mono (Nat.le_trans HZ.out.size HB2.out.size))
   have HT5:=Lib.hid ht5
   clear cs ho5 k5 ht5 q0 q1
   go_wp2_with fail
   go_ret
   exact ⟨_,WK,rfl,HT5.out,HY.out.nd,HFW.out.has,HFW.out.rch,HY.out.sub,HSH.out,hb5⟩
end Un
end Go.Proofs.YtmhpjjjjgakpiaaGreatDoor

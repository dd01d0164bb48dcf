/-
Meets: the places of those that meet an atom. Whether packages may be does not speak of their order; whoever meets an atom meets its name alone. Names: the names that packages have, rising. The reference's insertion: packages put one after the other where they belong.
-/
import Derived.Test.YtmhpjjjjgakpiaaGreatDoorDIxUniq
import Derived.Test.YtmhpjjjjgakpiaaGreatDoorDIxSat
import Derived.StillTail
import Derived.StillTailTactics
import Derived.Carry
import Derived.Test.YtmhpjjjjgakpiaaGreatDoorShelfKeys
import Derived.Test.YtmhpjjjjgakpiaaGreatDoorDTextTexts
import Derived.Maps.OwnSet
import Derived.Sort.KeysCollected
import Derived.CallsIn
import Derived.Test.YtmhpjjjjgakpiaaGreatDoorDIxOrd
namespace Go.Proofs.YtmhpjjjjgakpiaaGreatDoor
open Go.RowKit
set_option linter.unusedSimpArgs false
set_option linter.unusedVariables false
namespace Ix
open Ver (S)
open Rl (At Vars aV mem_getD)
open Rc (Pk nPk)
theorem stands_of_sat {p:Pk} {a:At} (h:sat p a = true):stands p a.1 = true:=by
 unfold sat at h
 unfold stands
 simp only [Bool.and_eq_true,Bool.or_eq_true,decide_eq_true_eq] at h ⊢
 rcases h.2 with h | h
 ·exact .inl h.1
 ·refine .inr ?_
  obtain ⟨v,h1,h2⟩:=List.any_eq_true.1 h
  refine List.any_eq_true.2 ⟨v,h1,?_⟩
  unfold pmeets at h2
  simp only [Bool.and_eq_true,decide_eq_true_eq] at h2 ⊢
  exact h2.1
def mt (xs:List Pk) (a:At):List Nat:=pl (fun i=>sat (xs.getD i nPk) a) xs.length
theorem mt_eq (xs:List Pk) (a:At):(gK xs xs.length true a.1).filter (fun i=>sat (xs.getD i nPk) a) = mt xs a:=by
 unfold mt gK pl
 rw [List.filter_filter]
 refine List.filter_congr fun i _=>?_
 cases h:sat (xs.getD i nPk) a with
 | false=>rfl
 | true=>rw [Bool.true_and]; exact stands_of_sat h
set_option maxRecDepth 100000 in
set_option maxHeartbeats 8000000 in
theorem meets_any (pb:Nat) (xs:List Pk) (a:At) (w:World) (h:Idx w pb xs) (hL:∀ x ∈ xs,x.Lim) (hn:xs.length ≤ 60000) (ha:LimAt a) (hv:Vars w) :
  Calls Tryz.prog 79 #[.pointer (some ⟨pb,0,none⟩),aV a] w fun e w'=>∃ v,e = .returned v ∧ w'.ownsRow w.heap.size 3 1 v (mt xs a).length (ints (mt xs a)) ∧ Below w.heap.size w w':=by
 obtain ⟨l,hl⟩:∃ l,gK xs xs.length true a.1 = l:=⟨_,rfl⟩
 have hres:l.filter (fun i=>sat (xs.getD i nPk) a) = mt xs a:=by rw [← hl]; exact mt_eq xs a
 have hlt:∀ i ∈ l,i < xs.length:=fun i hi=>by rw [← hl] at hi; exact pl_lt hi
 obtain ⟨pv,bn,bs,hi,hp,_,hr⟩:=h
 obtain ⟨n0,hd,_,hm,hrow⟩:=hr
 obtain ⟨pa,pcap,rfl⟩:=hp.shape
 obtain ⟨M,hrow⟩:=hrow a.1
 rw [hl] at hrow
 -- the atom's box
 have hb1:=(Below.refl w.heap.size w).alloc (Nat.le_refl _) (.cells #[.string (S a.1),.int .i64 a.2.1,.string (S a.2.2)] 54)
 have i1:=Blk.Is.new w 54 #[.string (S a.1),.int .i64 a.2.1,.string (S a.2.2)]
 obtain ⟨g,hg⟩:∃ g,w.heap.size = g:=⟨_,rfl⟩
 obtain ⟨W,hW⟩:∃ W,w.alloc (.cells #[.string (S a.1),.int .i64 a.2.1,.string (S a.2.2)] 54) = W:=⟨_,rfl⟩
 have hsz:W.heap.size = g + 1:=by rw [← hW,← hg]; simp
 rw [hW,hg] at i1
 rw [hW] at hb1
 obtain ⟨XL,hXL⟩:∃ XL,xs.length = XL:=⟨_,rfl⟩
 have HXL:=Lib.hid hXL
 have hi':=Rl.is_on hi hb1
 rw [hXL] at hi'
 have HI:=Lib.hid hi'
 have HP:=Lib.hid (hp.below hb1)
 have HM:=Lib.hid (hm.below hb1)
 have HR:=Lib.hid (Own.owns_below hrow hb1)
 have HA:=Lib.hid i1
 have HV:=Lib.hid (hv.on hb1)
 have HL:=Lib.hid hL
 have HLT:=Lib.hid hlt
 have HRES:=Lib.hid hres
 have HLA:=Lib.hid ha
 have HB1:=Lib.hid hb1
 obtain ⟨N,hN⟩:∃ N,l.length = N:=⟨_,rfl⟩
 have HN:=Lib.hid hN
 have hN1:N ≤ 60000:=by
  rw [← hN,← hl]
  unfold gK pl
  exact Nat.le_trans (List.length_filter_le _ _) (by rw [List.length_range]; exact hn)
 obtain ⟨sa,scap,he,_⟩:=Rl.own_shape hrow
 rw [hN] at he
 have u0:=i1.at (i:=0) rfl
 have hu:=hW
 unfold aV
 clear hi hi' hp hm hrow hL hlt hres ha hv hb1 i1 hN hXL hl hW
 go_enter Tryz.func79,Tryz.ntmps79
 rw [hg]
 go_wp2_with fail
 clear hu u0
 have hbd:=(Below.refl W.heap.size W).drew
 have q0:=(Rl.is_on HI.out hbd).at (i:=2) rfl
 have q1:=(Rl.is_on HA.out hbd).at (i:=0) rfl
 have hrun:=(HM.out.below hbd).look (nm:=a.1) HLA.out.1
 rw [he] at hrun
 go_region
 generalize W.drew = Vd at *
 have HE:=Lib.hid he
 clear q0 q1 hrun he
 rw [hsz] at hbd
 have BD:=Lib.hid hbd
 have HGS:Hid (W.heap.size = g + 1):=hsz
 have HWG:Hid (w.heap.size = g):=hg
 clear hbd hg
 have hfr:∀ k,k < N → (l.take (k + 1)).filter (fun i=>sat (xs.getD i nPk) a) = (l.take k).filter (fun i=>sat (xs.getD i nPk) a) ++ (if sat (xs.getD (l.getD k 0) nPk) a = true then [l.getD k 0] else []):=fun k hk=>by
  have hk':k < l.length:=by rw [HN.out]; exact hk
  rw [List.take_succ_eq_append_getElem hk',List.filter_append]
  congr 1
  have:l.getD k 0 = l[k]:=by rw [List.getD_eq_getElem?_getD,List.getElem?_eq_getElem hk']; rfl
  rw [this,List.filter_cons]
  split <;> rfl
 have HFR:=Lib.hid hfr
 obtain ⟨fl,hfl⟩:∃ fl:Nat → List Nat,fl = fun k=>(l.take k).filter (fun i=>sat (xs.getD i nPk) a):=⟨_,rfl⟩
 have FLs:Hid (∀ k,k < N → fl (k + 1) = fl k ++ (if sat (xs.getD (l.getD k 0) nPk) a = true then [l.getD k 0] else [])):=by rw [hfl]; exact hfr
 have FLN:Hid (fl N = mt xs a):=by
  rw [hfl,← HRES.out]
  show (l.take N).filter _ = _
  rw [List.take_of_length_le (Nat.le_of_eq HN.out)]
 have FL0:Hid (fl 0 = []):=by rw [hfl]; rfl
 have FLL:Hid (∀ k,(fl k).length ≤ k):=fun k=>by rw [hfl]; exact Nat.le_trans (List.length_filter_le _ _) (by rw [List.length_take]; omega)
 clear hfr HFR hfl HRES
 go_wp2_with fail
 go_loopg [5,18] N (fun gf s5 s18 wx=>∃ (k:Nat) (ra:Option Addr) (rc:Nat),s5 = .slice ra (fl k).length rc ∧ s18 = .int .i64 k ∧ Hid (wx.ownsRow (g + 1) 3 1 (.slice ra (fl k).length rc) (fl k).length (ints (fl k))) ∧ Hid (Below (g + 1) W wx) ∧ k ≤ N ∧ N ≤ k + gf)
 case atStart=>exact ⟨0,none,0,by rw [FL0.out]; rfl,rfl,by rw [FL0.out]; exact World.ownsRow_nil _ _ _ _,BD,by omega,by omega⟩
 case round =>
  obtain ⟨k,ra,rc,rfl,rfl,HO,HB,hkn,hfu⟩:=hrel
  by_cases hlk:k < N
  ·obtain ⟨g',rfl⟩:∃ g',gk = g' + 1:=⟨gk - 1,by omega⟩
   have hlk':(k:Int) < (N:Int):=by omega
   have hk0:(0:Int) ≤ k:=by omega
   have hkl:k < l.length:=by rw [HN.out]; exact hlk
   have hBW:Below W.heap.size W wr:=by rw [hsz]; exact HB.out
   have hrow:=Own.owns_below HR.out hBW
   obtain ⟨rb,c2,e2,_⟩:=Rl.own_slice hrow (by rw [HN.out]; omega)
   rw [HN.out] at e2
   have e3:=HE.out.symm.trans e2
   simp only [Value.slice.injEq,true_and] at e3
   obtain ⟨rfl,rfl⟩:=e3
   rw [e2,HN.out] at hrow
   obtain ⟨i,hik⟩:∃ i,l.getD k 0 = i:=⟨_,rfl⟩
   have hget:l[k]? = some i:=by rw [← hik]; exact Rl.at_getD hkl
   have hil:i < XL:=by rw [← HXL.out]; exact HLT.out i (List.mem_of_getElem? hget)
   have y0:=Rl.own_cell hrow (i:=k) (u:=.int .i64 (i:Int)) (by unfold ints; rw [List.getElem?_map,hget]; rfl)
   have hFS:=FLs.out k hlk
   rw [hik] at hFS
   have hbd:=(Below.refl wr.heap.size wr).drew
   have hBd:Below (g + 1) W wr.drew:=HB.out.trans (hbd.mono (by rw [← HGS.out]; exact hBW.size))
   have hOd:=Own.owns_below HO.out hbd
   have hBd':Below W.heap.size W wr.drew:=by rw [hsz]; exact hBd
   have q0:=(Rl.is_on HI.out hBd').at (i:=0) rfl
   have hA:=Rl.is_on HA.out hBd'
   have d0:=hA.at (i:=0) rfl
   have d1:=hA.at (i:=1) rfl
   have d2:=hA.at (i:=2) rfl
   obtain ⟨_,a',cap',e1,_,hcells⟩:=HP.out.below hBd'
   rw [HXL.out] at e1 hcells
   simp only [Value.slice.injEq,true_and] at e1
   obtain ⟨rfl,rfl⟩:=e1
   obtain ⟨kb,off,rfl,hcl2⟩:=hcells (by omega)
   obtain ⟨a1,n1,c1,a2,n2,c2,a3,n3,c3,a4,n4,c4,a5,n5,c5,a6,n6,c6,⟨x0,x1,x2,x3,x4,x5,x6,x7,x8⟩,hh⟩:=Rc.pk_read (hcl2 i hil)
   rw [Nat.mul_comm 9 i] at x0 x1 x2 x3 x4 x5 x6 x7 x8
   have hlim:=HL.out _ (mem_getD (z:=nPk) (by rw [HXL.out]; exact hil))
   obtain ⟨x,hx⟩:∃ x,xs.getD i nPk = x:=⟨_,rfl⟩
   rw [hx] at x0 x1 x8 hh hlim hFS
   have hi0:(0:Int) ≤ i:=by omega
   have hilt:(i:Int) < (XL:Int):=by omega
   have ca:=satisfies_any (.agg #[.string (S x.nm),.string (S x.vs),.slice a1 n1 c1,.slice a2 n2 c2,.slice a3 n3 c3,.slice a4 n4 c4,.slice a5 n5 c5,.slice a6 n6 c6,.bool x.ess]) x a wr.drew ⟨_,_,_,_,_,_,rfl,hh⟩ hlim HLA.out (HV.out.on hBd')
   unfold aV at ca
   have BD1:=Lib.hid hBd
   have OD1:=Lib.hid hOd
   have HFS:=Lib.hid hFS
   clear hbd hBd hOd hBd' hA hcells hcl2 hx hh hlim hFS hget hik hkl hrow e2 hBW hsz HO HB
   go_wp2_with fail
   clear y0
   go_still_tail 8,(by kernel_rfl)
   change wpList _ _ _ _ _ wr.drew
   generalize wr.drew = Vd at *
   go_wp2_with fail
   refine ca.mono ?_
   rintro e w1 ⟨rfl,k1⟩
   clear ca q0 d0 d1 d2 x0 x1 x2 x3 x4 x5 x6 x7 x8
   have hsz2:g + 1 ≤ Vd.heap.size:=by rw [← HGS.out]; exact Nat.le_trans (by rw [HGS.out]; exact Nat.le_refl _) BD1.out.size
   have hb1:=BD1.out.trans (k1.mono hsz2)
   have ho1:=Own.owns_below OD1.out k1
   have hz1:=Nat.le_trans hsz2 k1.size
   cases hw:sat x a with
   | false =>
    rw [hw] at HFS
    have hE:fl (k + 1) = fl k:=by rw [HFS.out]; simp
    rw [← hE] at ho1 ⊢
    have B1:=Lib.hid hb1
    have O1:=Lib.hid ho1
    clear hb1 ho1 hsz2 hz1 HFS BD1 OD1 k1 hE hw
    go_wp2_with fail
    go_roundg g'
    case measure=>omega
    case rel=>exact ⟨k + 1,ra,rc,rfl,by go_num,O1,B1,by omega,by omega⟩
   | true =>
    rw [hw] at HFS
    have hE:fl (k + 1) = fl k ++ [i]:=by rw [HFS.out]; simp
    have hlen:(fl (k + 1)).length = (fl k).length + 1:=by rw [hE,List.length_append]; rfl
    have hxs2:ints (fl (k + 1)) = ints (fl k) ++ [.int .i64 (i:Int)]:=by rw [hE,ints_app]
    have hk70:(fl k).length + 1 ≤ 70000:=by have:=FLL.out k; omega
    have hbA:Below w1.heap.size w1 (w1.alloc (.cells #[.int .i64 (i:Int)] 3)):=(Below.refl _ _).alloc (Nat.le_refl _) _
    have iA:=Blk.Is.new w1 3 #[.int .i64 (i:Int)]
    obtain ⟨W1,hW1⟩:∃ W1,w1.alloc (.cells #[.int .i64 (i:Int)] 3) = W1:=⟨_,rfl⟩
    rw [hW1] at hbA iA
    have HROW:=Lib.hid (Own.owns_below ho1 hbA)
    have HC0:=Lib.hid (iA.at (i:=0) rfl)
    have HBA:=Lib.hid (hb1.trans (hbA.mono hz1))
    have HZ:=Lib.hid (Nat.le_trans hz1 hbA.size)
    have HLEN:=Lib.hid hlen
    have HXS2:=Lib.hid hxs2
    obtain ⟨m,hm⟩:∃ m,(fl k).length = m:=⟨_,rfl⟩
    rw [hm] at HROW HLEN hk70 ⊢
    obtain ⟨XS,hXS⟩:∃ XS,ints (fl k) = XS:=⟨_,rfl⟩
    rw [hXS] at HROW HXS2
    have HK70:=Lib.hid hk70
    clear hbA iA hb1 ho1 hsz2 hz1 HFS BD1 OD1 k1 hE hw hlen hxs2 hm hXS hk70
    go_wp2_with (at_builtin; refine append_int rfl (.tmp 31) (.tmp 33) rfl (g + 1) (.slice ra m rc) m XS rfl HROW.out w1.heap.size 1 rfl (.int .i64 (i:Int)) HC0.out rfl HK70.out HZ.out ?_; intro v' w4 o4 g4 l4; have b4:=Own.below_grown HBA.out HROW.out g4 HZ.out; obtain ⟨a4,c4,rfl,_⟩:=Rl.own_shape o4; have O4:=Lib.hid o4; have B4:=Lib.hid b4; clear o4 b4 g4 l4)
    rw [← HXS2.out,← HLEN.out] at O4
    go_roundg g'
    case measure=>omega
    case rel=>exact ⟨k + 1,a4,c4,by rw [HLEN.out],by go_num,O4,B4,by omega,by omega⟩
  ·obtain rfl:k = N:=by omega
   have hge:¬ (k:Int) < (k:Int):=by omega
   rw [FLN.out] at HO ⊢
   have hfin:=Rl.own_mono HO.out (Nat.le_succ g)
   have hbf:Below g w wr:=by
    have h1:=HB1.out
    rw [HWG.out] at h1
    exact h1.trans (HB.out.mono (Nat.le_succ g))
   clear HO HB hsz
   go_wp2_with fail
   go_ret
   exact ⟨_,rfl,hfin,hbf⟩
end Ix
end Go.Proofs.YtmhpjjjjgakpiaaGreatDoor
namespace Go.Proofs.YtmhpjjjjgakpiaaGreatDoor
open Go.RowKit
set_option linter.unusedSimpArgs false
set_option linter.unusedVariables false
namespace Ix
open Ver (Bs cmpV sameV holdsV)
open Rl (At isV may)
open Rc (Pk mayAll twice again mayK eachK orI nmsOf)
theorem orI_all:∀ {l:List Int},(∀ x ∈ l,x = 0) → orI l = 0
 | [],_=>rfl
 | y :: r,h=>by
  unfold orI
  rw [if_neg (by have:=h y (by simp); simpa using this)]
  exact orI_all fun x hx=>h x (List.mem_cons_of_mem _ hx)
/-! ### the names -/
theorem nms_mem:∀ (l:List Pk) (ns:List Bs) (x:Bs),x ∈ nmsOf l ns ↔ x ∈ ns ∨ ∃ p ∈ l,p.nm = x
 | [],ns,x=>by unfold nmsOf; simp
 | p :: r,ns,x=>by
  unfold nmsOf
  rw [nms_mem r]
  by_cases h:p.nm ∈ ns
  ·rw [if_pos h]
   constructor
   ·rintro (h1 | ⟨q,h1,h2⟩)
    ·exact .inl h1
    ·exact .inr ⟨q,List.mem_cons_of_mem _ h1,h2⟩
   ·rintro (h1 | ⟨q,h1,h2⟩)
    ·exact .inl h1
    ·rcases List.mem_cons.1 h1 with rfl | h1
     ·exact .inl (h2 ▸ h)
     ·exact .inr ⟨q,h1,h2⟩
  ·rw [if_neg h,List.mem_append,List.mem_singleton]
   constructor
   ·rintro ((h1 | h1) | ⟨q,h1,h2⟩)
    ·exact .inl h1
    ·exact .inr ⟨p,by simp,h1.symm⟩
    ·exact .inr ⟨q,List.mem_cons_of_mem _ h1,h2⟩
   ·rintro (h1 | ⟨q,h1,h2⟩)
    ·exact .inl (.inl h1)
    ·rcases List.mem_cons.1 h1 with rfl | h1
     ·exact .inl (.inr h2.symm)
     ·exact .inr ⟨q,h1,h2⟩
theorem nms_nodup:∀ (l:List Pk) (ns:List Bs),ns.Nodup → (nmsOf l ns).Nodup
 | [],ns,h=>h
 | p :: r,ns,h=>by
  unfold nmsOf
  refine nms_nodup r _ ?_
  split
  ·exact h
  ·rename_i hn
   rw [List.nodup_append]
   refine ⟨h,by simp,fun a ha b hb e=>?_⟩
   have:b = p.nm:=by simpa using hb
   exact hn (this ▸ e ▸ ha)
theorem len_le:∀ {a b:List Bs},a.Nodup → (∀ x ∈ a,x ∈ b) → a.length ≤ b.length
 | [],_,_,_=>Nat.zero_le _
 | x :: r,b,hn,hs=>by
  rw [List.nodup_cons] at hn
  have hx:x ∈ b:=hs x (by simp)
  have h:=len_le (b:=b.erase x) hn.2 fun y hy=>by
   exact (List.mem_erase_of_ne (show y ≠ x from fun e=>hn.1 (e ▸ hy))).2 (hs y (List.mem_cons_of_mem _ hy))
  rw [List.length_erase_of_mem hx] at h
  have:0 < b.length:=List.length_pos_of_mem hx
  simp only [List.length_cons]
  omega
end Ix
end Go.Proofs.YtmhpjjjjgakpiaaGreatDoor
namespace Go.Proofs.YtmhpjjjjgakpiaaGreatDoor
open Go.RowKit
set_option linter.unusedSimpArgs false
set_option linter.unusedVariables false
namespace Ix
open Ver (Bs S)
open Rc (Pk)
open Go.Shelf Go.Sort
def rising (ns:List Bs):List Bs:=ns.mergeSort leB
theorem keys_any (mb:Option Nat) (W:World):CallsIn Fence.wide 5 Tryz.prog 45 #[.map mb] W fun e w'=>e = .returned (.func (.func 75) #[] #[.pointer (some ⟨W.heap.size,0,none⟩)]) ∧ w' = W.alloc (.cells #[.map mb] 86) :=
 AnyZ.keys_in Tryz.keysPl Fence.wide 5 trivial rfl mb W
theorem sortsS (m:Nat):AnyZ.SortsIn Tryz.prog Tryz.sortedStr_ren Fence.wide m :=
 ⟨fun blk off cap ss W hH hblk hsz=>callsIn_wide.2 (AnyM.slices_Sort_string Tryz.sortStrs blk off cap ss W hH hblk hsz),
  fun p cap W=>callsIn_wide.2 (AnyM.slices_Sort_string_none Tryz.sortStrs p cap W)⟩
theorem collected {D:DataW Value} {ns:List Bs} (hn:ns.Nodup) (hm:∀ x,x ∈ ns ↔ Maps.has D (.string x) = true):Collected D (fun _=>false) ns :=
 ⟨hn,fun x=>by rw [hm x]; simp⟩
set_option maxHeartbeats 1000000 in
theorem sorted_any (b n:Nat) (D:DataW Value) (w:World) (ns:List Bs) (hown:w.ownsMap Tryz.prog 9 RV b n D) (hn:n ≤ 60000) (hnd:ns.Nodup) (hm:∀ x,x ∈ ns ↔ Maps.has D (.string x) = true) :
  Calls Tryz.prog 44 #[.func (.func 75) #[] #[.pointer (some ⟨w.heap.size,0,none⟩)]] (w.alloc (.cells #[.map (some b)] 86)) fun e w'=>∃ v,e = .returned v ∧ w'.ownsRow w.heap.size 9 1 v ns.length (((rising ns).map S).map Value.string) ∧ Below w.heap.size w w':=by
 have hbl:=hown.lt
 have hsz:Maps.size D ≤ n:=hown.size_le
 have hseq:SeqGives Fence.wide 2 Tryz.prog 75 #[.pointer (some ⟨w.heap.size,0,none⟩)] encStr (fun ss=>ss.Perm (strKeys D)) (Maps.size D) (w.alloc (.cells #[.map (some b)] 86)) :=
  AnyZ.keys_gives (ρ:=Tryz.keysPl_ren) { Tryz.keysPl with } Fence.wide _ trivial rfl (by omega) w.heap.size b n D _ (by simp) (by simp) (by
   obtain ⟨es,clock,hb,Ft,hs,hD⟩:=hown
   exact ⟨es,clock,(Below.heap_alloc _ _ b hbl).trans hb,Ft,hs,hD⟩)
 have h:=AnyZ.sorted_in Tryz.sortedStr Fence.wide 5 trivial trivial trivial trivial rfl (by omega) (sortsS _) (enters_of Tryz.func74 (by kernel_rfl) rfl) 75 #[.pointer (some ⟨w.heap.size,0,none⟩)] trivial (enters_of Tryz.func75 (by kernel_rfl) rfl) _ _ (by unfold maxLen; omega) (by omega) _ hseq
 refine (callsIn_wide.1 h).mono ?_
 rintro e w' ⟨v,ss,rfl,hS,hrow,_,hb⟩
 have hp:=(collected hnd hm).perm hown law Tryz.underlying9 (fun _=>rfl)
 have e1:ss.mergeSort leB = rising ns:=mergeSort_of_perm (hS.trans hp.symm)
 have hb0:Below w.heap.size w (w.alloc (.cells #[.map (some b)] 86)):=(Below.refl _ _).alloc (Nat.le_refl _) _
 refine ⟨v,rfl,?_,hb0.trans (hb.mono hb0.size)⟩
 have hl:ss.length = ns.length:=(hS.trans hp.symm).length_eq
 have e2:((rising ns).map S).map Value.string = (ss.mergeSort leB).map encStr:=by rw [← e1,List.map_map]; rfl
 rw [e2,← hl]
 exact Rl.own_mono hrow hb0.size
set_option maxRecDepth 100000 in
set_option maxHeartbeats 4000000 in
theorem names_any (pb:Nat) (xs:List Pk) (w:World) (ns:List Bs) (h:Idx w pb xs) (hnd:ns.Nodup) (hm:∀ x,x ∈ ns ↔ gK xs xs.length false x ≠ []) (hl:ns.length ≤ 60000) :
  Calls Tryz.prog 22 #[.pointer (some ⟨pb,0,none⟩)] w fun e w'=>∃ v,e = .returned v ∧ Txt.Texts w' v ((rising ns).map S) ∧ Below w.heap.size w w':=by
 obtain ⟨pv,bn,bs,hi,hp,hr,_⟩:=h
 obtain ⟨n0,hd,hn0,⟨D,ho,_,hks⟩,_⟩:=hr
 obtain ⟨pa,pc,rfl⟩:=hp.shape
 have q0:=hi.at (i:=1) rfl
 have ck:=callsIn_wide.1 (keys_any (some bn) w)
 have cs:=sorted_any bn n0 D w ns ho hn0 hnd fun x=>by rw [hks x,hm x]; simp
 have hlen:(rising ns).length = ns.length:=by unfold rising; exact List.length_mergeSort _
 have CS:=Lib.hid cs
 have HLE:=Lib.hid hlen
 have HL:=Lib.hid hl
 clear hi hp ho hks hm hnd cs hlen hl
 go_enter Tryz.func22,Tryz.ntmps22
 go_wp2_with fail
 refine ck.mono ?_
 rintro e w1 ⟨rfl,rfl⟩
 clear ck
 go_wp2_with fail
 refine CS.out.mono ?_
 rintro e w2 ⟨v,rfl,hrow,k2⟩
 have hT:Txt.Texts w2 v ((rising ns).map S):=Txt.Texts.owned (by rw [List.length_map,HLE.out]; exact hrow) (by rw [List.length_map,HLE.out]; have:=HL.out; omega)
 have HT:=Lib.hid hT
 clear hT hrow q0
 go_wp2_with fail
 go_ret
 exact ⟨_,rfl,HT.out,k2⟩
end Ix
end Go.Proofs.YtmhpjjjjgakpiaaGreatDoor
namespace Go.Proofs.YtmhpjjjjgakpiaaGreatDoor
open Go.RowKit
set_option linter.unusedSimpArgs false
set_option linter.unusedVariables false
namespace Ix
open Ver (Bs Tri orr sgn)
open Rl (isV)
open Rc (Pk)
def ahead (p x:Pk):Bool:=decide (cmpP x p ≤ 0)
def slot (p:Pk) (l:List Pk):Nat:=(l.takeWhile (ahead p)).length
def ins (p:Pk) (l:List Pk):List Pk:=l.take (slot p l) ++ [p] ++ l.drop (slot p l)
def insAll:List Pk → List Pk → List Pk
 | [],out=>out
 | p :: r,out=>insAll r (ins p out)
theorem ins_perm (p:Pk) (l:List Pk):(ins p l).Perm (p :: l):=by
 unfold ins
 rw [List.append_assoc]
 refine (List.perm_append_comm).trans ?_
 rw [List.append_assoc,List.singleton_append]
 refine List.Perm.cons p ?_
 refine List.perm_append_comm.trans ?_
 rw [List.take_append_drop]
theorem insAll_perm:∀ (l out:List Pk),(insAll l out).Perm (l ++ out)
 | [],out=>List.Perm.refl _
 | p :: r,out=>by
  unfold insAll
  refine (insAll_perm r _).trans ?_
  refine ((ins_perm p out).append_left r).trans ?_
  exact List.perm_middle
def Rise (l:List Pk):Prop:=l.Pairwise fun p q=>cmpP p q ≤ 0
theorem take_tw {p:Pk} (l:List Pk):l.take (slot p l) = l.takeWhile (ahead p):=by
 unfold slot
 exact (List.prefix_iff_eq_take.1 (List.takeWhile_prefix _)).symm
theorem drop_tw {p:Pk} (l:List Pk):l.drop (slot p l) = l.dropWhile (ahead p):=by
 have h:=List.takeWhile_append_dropWhile (p:=ahead p) (l:=l)
 have e:(l.takeWhile (ahead p) ++ l.dropWhile (ahead p)).drop (slot p l) = l.dropWhile (ahead p):=by
  unfold slot
  exact List.drop_left
 rwa [h] at e
theorem rise_ins {p:Pk} {l:List Pk} (h:Rise l) (hp:isV p.vs = true) (hl:∀ x ∈ l,isV x.vs = true):Rise (ins p l):=by
 unfold ins Rise
 rw [take_tw,drop_tw]
 have hsplit:=List.takeWhile_append_dropWhile (p:=ahead p) (l:=l)
 unfold Rise at h
 rw [← hsplit,List.pairwise_append] at h
 obtain ⟨h1,h2,h3⟩:=h
 have ht:∀ x ∈ l.takeWhile (ahead p),cmpP x p ≤ 0:=fun x hx=>by
  have:=List.all_eq_true.1 (List.all_takeWhile (l:=l) (p:=ahead p)) x hx
  unfold ahead at this
  simpa using this
 have hd:∀ x ∈ l.dropWhile (ahead p),cmpP p x ≤ 0:=by
  cases hdw:l.dropWhile (ahead p) with
  | nil=>intro x hx; cases hx
  | cons y r =>
   have hy:¬ ahead p y = true:=by
    have:=List.head_dropWhile_not (p:=ahead p) (l:=l) (by rw [hdw]; simp)
    simpa [hdw] using this
   have hyp:cmpP p y ≤ 0:=by
    unfold ahead at hy
    rw [decide_eq_true_eq] at hy
    have:=cmpP_turn p y
    omega
   intro x hx
   rcases List.mem_cons.1 hx with rfl | hx
   ·exact hyp
   ·rw [hdw,List.pairwise_cons] at h2
    have hyx:=h2.1 x hx
    have hyl:y ∈ l:=(List.dropWhile_suffix (ahead p)).mem (by rw [hdw]; simp)
    have hxl:x ∈ l:=(List.dropWhile_suffix (ahead p)).mem (by rw [hdw]; exact List.mem_cons_of_mem _ hx)
    have t:=cmpP_tri hp (hl y hyl) (hl x hxl)
    have a1:=one_cmpP p y
    have a2:=one_cmpP y x
    unfold Tri One at *
    omega
 rw [List.append_assoc,List.pairwise_append]
 refine ⟨h1,?_,fun x hx y hy=>?_⟩
 ·rw [List.singleton_append,List.pairwise_cons]
  exact ⟨hd,h2⟩
 ·rw [List.singleton_append,List.mem_cons] at hy
  rcases hy with rfl | hy
  ·exact ht x hx
  ·exact h3 x hx y hy
theorem rise_all:∀ (l out:List Pk),Rise out → (∀ x ∈ l,isV x.vs = true) → (∀ x ∈ out,isV x.vs = true) → Rise (insAll l out)
 | [],out,h,_,_=>h
 | p :: r,out,h,h1,h2=>by
  unfold insAll
  refine rise_all r _ (rise_ins h (h1 p (by simp)) h2) (fun x hx=>h1 x (List.mem_cons_of_mem _ hx)) fun x hx=>?_
  rcases List.mem_cons.1 ((ins_perm p out).mem_iff.1 hx) with rfl | hx
  ·exact h1 _ (by simp)
  ·exact h2 x hx
theorem sorts_ins {l:List Pk} (h:∀ x ∈ l,isV x.vs = true):Sorts l (insAll l []):=by
 have hp:=insAll_perm l []
 rw [List.append_nil] at hp
 refine ⟨hp,fun i j hij hj=>?_⟩
 have hr:=rise_all l [] List.Pairwise.nil h (fun x hx=>by cases hx)
 unfold Rise at hr
 rw [List.pairwise_iff_getElem] at hr
 have:=hr i j (by omega) hj hij
 rw [List.getD_eq_getElem?_getD,List.getElem?_eq_getElem hj,List.getD_eq_getElem?_getD,List.getElem?_eq_getElem (by omega:i < _)]
 have t:=cmpP_turn ((insAll l [])[i]'(by omega)) ((insAll l [])[j])
 show ¬ cmpP ((insAll l [])[j]) ((insAll l [])[i]'(by omega)) < 0
 omega
end Ix
end Go.Proofs.YtmhpjjjjgakpiaaGreatDoor

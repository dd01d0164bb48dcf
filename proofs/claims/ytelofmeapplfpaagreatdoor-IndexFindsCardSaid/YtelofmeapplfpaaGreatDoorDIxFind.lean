/-
SameInts: of equal places. Of, Find; the reference's Version.
-/
import Derived.Test.YtelofmeapplfpaaGreatDoorDIxMeets
import Derived.Test.YtelofmeapplfpaaGreatDoorDIxSort
import Derived.Test.YtelofmeapplfpaaGreatDoorDVerRefCompare
namespace Go.Proofs.YtelofmeapplfpaaGreatDoor
open Go.RowKit
set_option linter.unusedSimpArgs false
set_option linter.unusedVariables false
namespace Ix
open Ver (Bs)
def Ints (w:World) (v:Value) (l:List Nat):Prop:=l.length ≤ 60000 ∧ ∃ a cap,v = .slice a l.length cap ∧ l.length ≤ cap ∧ (0 < l.length → ∃ R,a = some ⟨R,0,none⟩ ∧ ∀ (i k:Nat),l[i]? = some k → w.cell? ⟨R,i,none⟩ = some (.int .i64 (k:Int)))
theorem Ints.below {w w':World} {v:Value} {l:List Nat} (h:Ints w v l) (hb:Below w.heap.size w w'):Ints w' v l:=by
 obtain ⟨h0,a,cap,h1,h2,h3⟩:=h
 refine ⟨h0,a,cap,h1,h2,fun hl=>?_⟩
 obtain ⟨R,r1,r2⟩:=h3 hl
 exact ⟨R,r1,fun i k hi=>Rl.cell_on (r2 i k hi) hb⟩
theorem ints_of {w:World} {B:Nat} {v:Value} {l:List Nat} (h:w.ownsRow B 3 1 v l.length (ints l)) (hl:l.length ≤ 60000):Ints w v l:=by
 obtain ⟨a,c,rfl,hc⟩:=Rl.own_shape h
 refine ⟨hl,a,c,rfl,hc,fun h0=>?_⟩
 obtain ⟨R,c2,e,_⟩:=Rl.own_slice h h0
 simp only [Value.slice.injEq,true_and] at e
 obtain ⟨rfl,rfl⟩:=e
 exact ⟨R,rfl,fun i k hi=>Rl.own_cell h (by unfold ints; rw [List.getElem?_map,hi]; rfl)⟩
set_option maxRecDepth 100000 in
set_option maxHeartbeats 4000000 in
theorem sameInts_any (v1 v2:Value) (l:List Nat) (w:World) (h1:Ints w v1 l) (h2:Ints w v2 l) :
  Calls Tryz.prog 27 #[v1,v2] w fun e w'=>e = .returned (.bool true) ∧ Below w.heap.size w w':=by
 obtain ⟨h0,a1,c1,rfl,hc1,r1⟩:=h1
 obtain ⟨_,a2,c2,rfl,hc2,r2⟩:=h2
 obtain ⟨n,hn⟩:∃ n,l.length = n:=⟨_,rfl⟩
 rw [hn] at h0 r1 r2 hc1 hc2 ⊢
 have HN:=Lib.hid hn
 have R1:=Lib.hid r1
 have R2:=Lib.hid r2
 clear hn r1 r2
 go_enter Tryz.func27,Tryz.ntmps27
 go_wp2_with fail
 go_loopg [13] n (fun gf s13 wx=>∃ k:Nat,s13 = .int .i64 k ∧ Hid (Below w.heap.size w wx) ∧ k ≤ n ∧ n ≤ k + gf)
 case atStart=>exact ⟨0,rfl,Below.refl _ _,by omega,by omega⟩
 case round =>
  obtain ⟨k,rfl,HB,hkn,hfu⟩:=hrel
  by_cases hlk:k < n
  ·obtain ⟨g',rfl⟩:∃ g',gk = g' + 1:=⟨gk - 1,by omega⟩
   have hlk':(k:Int) < (n:Int):=by omega
   have hk0:(0:Int) ≤ k:=by omega
   obtain ⟨x,hx⟩:∃ x,l[k]? = some x:=⟨l[k]'(by rw [HN.out]; exact hlk),List.getElem?_eq_getElem _⟩
   obtain ⟨b1,rfl,q1⟩:=R1.out (by omega)
   obtain ⟨b2,rfl,q2⟩:=R2.out (by omega)
   have hbd:=HB.out.trans ((Below.refl wr.heap.size wr).drew.mono HB.out.size)
   have y1:=Rl.cell_on (q1 k x hx) hbd
   have y2:=Rl.cell_on (q2 k x hx) hbd
   have hne:((x:Int) != (x:Int)) = false:=by simp
   have HB2:=Lib.hid hbd
   clear hbd q1 q2 hx HB
   go_wp2_with fail
   go_region
   generalize wr.drew = Vd at *
   clear y1 y2
   go_wp2_with fail
   go_roundg g'
   case measure=>omega
   case rel=>exact ⟨k + 1,by go_num,HB2,by omega,by omega⟩
  ·obtain rfl:k = n:=by omega
   have hge:¬ (k:Int) < (k:Int):=by omega
   go_wp2_with fail
   go_ret
   exact ⟨rfl,HB.out⟩
end Ix
end Go.Proofs.YtelofmeapplfpaaGreatDoor
namespace Go.Proofs.YtelofmeapplfpaaGreatDoor
open Go.RowKit
set_option linter.unusedSimpArgs false
set_option linter.unusedVariables false
namespace Ix
open Ver (Bs S S_li S_size sameV)
open Rl (At Pv Vars Slc mem_getD)
open Rc (Pk nPk Pks PkV Has)
/-! ### slices.Clone of places -/
def InAt (w:World) (k o:Nat) (x:Nat):Prop:=w.cell? ⟨k,o,none⟩ = some (.int .i64 (x:Int))
theorem ints_slc {w:World} {B:Nat} {v:Value} {l:List Nat} (h:w.ownsRow B 3 1 v l.length (ints l)) (hl:l.length ≤ 60000):Slc 1 0 InAt w v l:=by
 obtain ⟨a,cap,rfl,hc⟩:=Rl.own_shape h
 refine ⟨by omega,a,cap,rfl,hc,fun h0=>?_⟩
 obtain ⟨R,c2,e,_⟩:=Rl.own_slice h h0
 simp only [Value.slice.injEq,true_and] at e
 obtain ⟨rfl,rfl⟩:=e
 refine ⟨R,0,rfl,fun i hi=>?_⟩
 show w.cell? ⟨R,0 + 1 * i,none⟩ = _
 rw [Nat.zero_add,Nat.one_mul]
 refine Rl.own_cell h ?_
 unfold ints
 rw [List.getElem?_map,List.getElem?_eq_getElem hi,List.getD_eq_getElem?_getD,List.getElem?_eq_getElem hi]
 rfl
theorem ints_flat (l:List Nat):(l.flatMap fun x:Nat=>[Value.int .i64 (x:Int)]) = ints l:=by
 unfold ints
 induction l with
 | nil=>rfl
 | cons x r ih=>rw [List.flatMap_cons,ih]; rfl
set_option maxRecDepth 100000 in
set_option maxHeartbeats 2000000 in
theorem cloneInts_any (v:Value) (d:List Nat) (w:World) (h:Slc 1 0 InAt w v d) (hl:d.length ≤ 60000) :
  Calls Tryz.prog 56 #[v] w fun e w'=>∃ v',e = .returned v' ∧ w'.ownsRow w.heap.size 3 1 v' d.length (ints d) ∧ Below w.heap.size w w':=by
 obtain ⟨h0,a,cap,rfl,hc,hr⟩:=id h
 cases a with
 | none =>
  have hn:d.length = 0:=by
   by_cases h0:0 < d.length
   ·obtain ⟨k,off,e,_⟩:=hr h0; cases e
   ·omega
  have:d = []:=List.eq_nil_of_length_eq_zero hn
  subst this
  clear hr h
  have hq:∀ w:World,(binOp BinOp.eql 46 (.slice none 0 cap) (.slice none 0 0)).run Tryz.prog w = .ok (.bool true) w:=fun w=>by kernel_rfl
  go_enter Tryz.func56,Tryz.ntmps56
  go_wp2_with fail
  go_ret
  exact ⟨_,rfl,World.ownsRow_nil _ _ _ _,Below.refl _ _⟩
 | some ad =>
  have hB:Below w.heap.size w (w.alloc (.cells #[] 3)):=(Below.refl _ _).alloc (Nat.le_refl _) _
  have SRC:=Lib.hid (Va.slc_src (sz:=1) (by omega) (fun x:Nat=>[Value.int .i64 (x:Int)]) (fun x=>rfl) (fun w k o x hx j u hj=>by cases j with | zero=>(simp at hj; subst hj; exact hx) | succ j=>simp at hj) (fun x u hu=>by simp at hu; rw [hu]; rfl) Tryz.underlying46 (Slc.below (P:=InAt) (fun _ _ _ _ _ h hb=>Rl.cell_on h hb) h hB))
  have OWN:=Lib.hid (World.ownsRow_lit (base:=w.heap.size) (e:=3) (size:=1) w #[] 0 (Nat.le_refl _) (by decide) rfl)
  have HB:=Lib.hid hB
  have hsz:=hB.size
  obtain ⟨i0,hi,hz0,hz1,hz2⟩:=info_parts infoI
  obtain ⟨N,hN⟩:∃ N,d.length = N:=⟨_,rfl⟩
  have HI:=Lib.hid hi
  rw [ints_flat] at SRC
  obtain ⟨CS,hCS⟩:∃ CS,ints d = CS:=⟨_,rfl⟩
  rw [hCS] at SRC ⊢
  rw [hN] at hl SRC h0 hc ⊢
  clear h hr hi hB hN hCS
  have hq:∀ w:World,(binOp BinOp.eql 46 (.slice (some ad) N cap) (.slice none 0 0)).run Tryz.prog w = .ok (.bool false) w:=fun w=>by kernel_rfl
  go_enter Tryz.func56,Tryz.ntmps56
  go_wp2_with (at_builtin; refine Own.wpList_append_src rfl (.tmp 5) (.tmp 6) 46 46 rfl w.heap.size 3 i0 _ 1 8 Tryz.underlying46 HI.out hz0 hz1 hz2 rfl _ 0 [] rfl OWN.out _ N CS rfl SRC.out (by simp only [maxLen]; omega) (by omega) hsz ?_; intro v' w' o1 g1; have k1:Below w.heap.size w w':=Own.below_grown HB.out OWN.out g1 hsz)
  have o2:w'.ownsRow w.heap.size 3 1 v' N CS:=by simpa using o1
  clear o1 g1
  go_ret
  exact ⟨_,rfl,o2,k1⟩
set_option maxRecDepth 100000 in
set_option maxHeartbeats 2000000 in
theorem of_any (pb:Nat) (xs:List Pk) (nm:Bs) (w:World) (h:Idx w pb xs) (hn:xs.length ≤ 60000) (hs:LimS nm) :
  Calls Tryz.prog 28 #[.pointer (some ⟨pb,0,none⟩),.string (S nm)] w fun e w'=>∃ v',e = .returned v' ∧ w'.ownsRow w.heap.size 3 1 v' (gK xs xs.length false nm).length (ints (gK xs xs.length false nm)) ∧ Below w.heap.size w w':=by
 obtain ⟨pv,bn,bs,hi,hp,hr,_⟩:=h
 obtain ⟨n0,hd,_,hm,hrow⟩:=hr
 obtain ⟨M,hrow⟩:=hrow nm
 have hlen:(gK xs xs.length false nm).length ≤ 60000:=by
  unfold gK pl
  exact Nat.le_trans (List.length_filter_le _ _) (by rw [List.length_range]; exact hn)
 have cc:=cloneInts_any (hd nm) _ w (ints_slc hrow hlen) hlen
 have hrun:=hm.look hs
 have q0:=hi.at (i:=1) rfl
 obtain ⟨a,c,ea,_⟩:=Rl.own_shape hrow
 obtain ⟨pa,pc,rfl⟩:=hp.shape
 rw [ea] at hrun cc
 generalize gK xs xs.length false nm = l at *
 generalize l.length = N at *
 clear hi hp hm hrow hlen ea
 go_enter Tryz.func28,Tryz.ntmps28
 go_wp2_with fail
 refine cc.mono ?_
 rintro e w1 ⟨v',rfl,ho,k1⟩
 clear cc
 go_wp2_with fail
 go_ret
 exact ⟨_,rfl,ho,k1⟩
set_option maxRecDepth 100000 in
set_option maxHeartbeats 2000000 in
theorem hasVersion_any (v:Value) (x:Pk) (t:Bs) (w:World) (h:PkV w v x) (hL:x.Lim) (ht:t.length ≤ 140737488351232) (hv:Vars w) :
  Calls Tryz.prog 55 #[v,.string (S t)] w fun e w'=>e = .returned (.bool (sameV x.vs t)) ∧ Below w.heap.size w w':=by
 obtain ⟨u1,u2,u3,u4,u5,u6,rfl,hh⟩:=h
 have hb1:=(Below.refl w.heap.size w).alloc (Nat.le_refl _) (.cells #[.string (S x.nm),.string (S x.vs),u1,u2,u3,u4,u5,u6,.bool x.ess] 26)
 have i1:=Blk.Is.new w 26 #[.string (S x.nm),.string (S x.vs),u1,u2,u3,u4,u5,u6,.bool x.ess]
 obtain ⟨W,hW⟩:∃ W,w.alloc (.cells #[.string (S x.nm),.string (S x.vs),u1,u2,u3,u4,u5,u6,.bool x.ess] 26) = W:=⟨_,rfl⟩
 rw [hW] at hb1 i1
 have cs:=Ver.same_any (S x.vs) (S t) W (by rw [S_size]; have:=hL.vs; omega) (by rw [S_size]; omega) (hv.on hb1).maxLen
 rw [S_li,S_li] at cs
 have c1:=i1.at (i:=1) rfl
 have HB:=Lib.hid hb1
 clear hb1 i1 hh hL
 go_enter Tryz.func55,Tryz.ntmps55
 go_wp2_with fail
 refine cs.mono ?_
 rintro e w1 ⟨rfl,k1⟩
 have hb:=HB.out.trans (k1.mono HB.out.size)
 clear cs
 go_wp2_with fail
 go_ret
 exact ⟨rfl,hb⟩
theorem find_at {f:Nat → Bool}:∀ {l:List Nat} {k i:Nat},l[k]? = some i → f i = true → (∀ j i',j < k → l[j]? = some i' → f i' = false) → l.find? f = some i
 | [],_,_,h,_,_=>by simp at h
 | x :: r,0,i,h,hf,_=>by
  simp at h
  subst h
  rw [List.find?_cons_of_pos hf]
 | x :: r,k + 1,i,h,hf,hn=>by
  have h0:=hn 0 x (by omega) rfl
  rw [List.find?_cons_of_neg (by rw [h0]; simp)]
  exact find_at (k:=k) (by simpa using h) hf fun j i' hj hi'=>hn (j + 1) i' (by omega) (by simpa using hi')
set_option maxRecDepth 100000 in
set_option maxHeartbeats 8000000 in
theorem find_any (pb:Nat) (xs:List Pk) (nm t:Bs) (w:World) (h:Idx w pb xs) (hL:∀ x ∈ xs,x.Lim) (hn:xs.length ≤ 60000) (hs:LimS nm) (ht:t.length ≤ 140737488351232) (hv:Vars w) :
  Calls Tryz.prog 25 #[.pointer (some ⟨pb,0,none⟩),.string (S nm),.string (S t)] w fun e w'=>(e = match (gK xs xs.length false nm).find? (fun i=>sameV (xs.getD i nPk).vs t) with | some i=>.returned (.tuple #[.int .i64 (i:Int),.bool true]) | none=>.returned (.tuple #[.int .i64 0,.bool false])) ∧ Below w.heap.size w w':=by
 have co:=of_any pb xs nm w h hn hs
 obtain ⟨l,hl⟩:∃ l,gK xs xs.length false nm = l:=⟨_,rfl⟩
 have hlt:∀ i ∈ l,i < xs.length:=fun i hi=>by rw [← hl] at hi; exact pl_lt hi
 have hlen:l.length ≤ 60000:=by
  rw [← hl]
  unfold gK pl
  exact Nat.le_trans (List.length_filter_le _ _) (by rw [List.length_range]; exact hn)
 rw [hl] at co ⊢
 obtain ⟨pv,bn,bs,hi,hp,_,_⟩:=h
 obtain ⟨pa,pcap,rfl⟩:=hp.shape
 obtain ⟨XL,hXL⟩:∃ XL,xs.length = XL:=⟨_,rfl⟩
 have HXL:=Lib.hid hXL
 rw [hXL] at hi
 have HI:=Lib.hid hi
 have HP:=Lib.hid hp
 have HL:=Lib.hid hL
 have HV:=Lib.hid hv
 have HLT:=Lib.hid hlt
 have HT:=Lib.hid ht
 obtain ⟨R,hR⟩:∃ R,l.find? (fun i=>sameV (xs.getD i nPk).vs t) = R:=⟨_,rfl⟩
 have HR:=Lib.hid hR
 rw [hR]
 obtain ⟨N,hN⟩:∃ N,l.length = N:=⟨_,rfl⟩
 have HN:=Lib.hid hN
 rw [hN] at co hlen
 clear hl hlt hi hp hXL hL hv ht hR hN
 go_enter Tryz.func25,Tryz.ntmps25
 go_wp2_with fail
 refine co.mono ?_
 rintro e w1 ⟨v',rfl,ho,k1⟩
 obtain ⟨ra,rc,rfl,_⟩:=Rl.own_shape ho
 have HO:=Lib.hid ho
 have K1:=Lib.hid k1
 clear co ho k1
 go_wp2_with fail
 go_loopg [14] N (fun gf s14 wx=>∃ k:Nat,s14 = .int .i64 k ∧ Hid (Below w1.heap.size w1 wx) ∧ Hid (∀ j i,j < k → l[j]? = some i → sameV (xs.getD i nPk).vs t = false) ∧ k ≤ N ∧ N ≤ k + gf)
 case atStart=>exact ⟨0,rfl,Lib.hid (Below.refl _ _),Lib.hid (fun j i hj=>absurd hj (by omega)),by omega,by omega⟩
 case round =>
  obtain ⟨k,rfl,HB,HE,hkn,hfu⟩:=hrel
  by_cases hlk:k < N
  ·obtain ⟨g',rfl⟩:∃ g',gk = g' + 1:=⟨gk - 1,by omega⟩
   have hlk':(k:Int) < (N:Int):=by omega
   have hk0:(0:Int) ≤ k:=by omega
   have hkl:k < l.length:=by rw [HN.out]; exact hlk
   have hrow:=Own.owns_below HO.out HB.out
   obtain ⟨rb,c2,e2,_⟩:=Rl.own_slice hrow (by omega)
   simp only [Value.slice.injEq,true_and] at e2
   obtain ⟨rfl,rfl⟩:=e2
   obtain ⟨i,hget⟩:∃ i,l[k]? = some i:=⟨l[k],List.getElem?_eq_getElem hkl⟩
   have hil:i < XL:=by rw [← HXL.out]; exact HLT.out i (List.mem_of_getElem? hget)
   have y0:=Rl.own_cell hrow (i:=k) (u:=.int .i64 (i:Int)) (by unfold ints; rw [List.getElem?_map,hget]; rfl)
   have hBw:Below w.heap.size w wr:=K1.out.trans (HB.out.mono K1.out.size)
   have q0:=(Rl.is_on HI.out hBw).at (i:=0) rfl
   obtain ⟨_,a',cap',e1,_,hcells⟩:=HP.out.below hBw
   rw [HXL.out] at e1 hcells
   simp only [Value.slice.injEq,true_and] at e1
   obtain ⟨rfl,rfl⟩:=e1
   obtain ⟨kb,off,rfl,hcl2⟩:=hcells (by omega)
   obtain ⟨a1,n1,c1,a2,n2,c2,a3,n3,c3,a4,n4,c4,a5,n5,c5,a6,n6,c6,⟨x0,x1,x2,x3,x4,x5,x6,x7,x8⟩,hh⟩:=Rc.pk_read (hcl2 i hil)
   rw [Nat.mul_comm 9 i] at x0 x1 x2 x3 x4 x5 x6 x7 x8
   have hlim:=HL.out _ (mem_getD (z:=nPk) (by rw [HXL.out]; exact hil))
   have HG:=Lib.hid hget
   obtain ⟨x,hx⟩:∃ x,xs.getD i nPk = x:=⟨_,rfl⟩
   rw [hx] at x0 x1 x8 hh hlim
   have HX:=Lib.hid hx
   have hi0:(0:Int) ≤ i:=by omega
   have hilt:(i:Int) < (XL:Int):=by omega
   have ca:=hasVersion_any (.agg #[.string (S x.nm),.string (S x.vs),.slice a1 n1 c1,.slice a2 n2 c2,.slice a3 n3 c3,.slice a4 n4 c4,.slice a5 n5 c5,.slice a6 n6 c6,.bool x.ess]) x t wr ⟨_,_,_,_,_,_,rfl,hh⟩ hlim HT.out (HV.out.on hBw)
   clear hcells hcl2 hx hh hlim hrow hBw hkl hget
   cases hw:sameV x.vs t with
   | true =>
    rw [hw] at ca
    have hres:R = some i:=by
     rw [← HR.out]
     refine find_at HG.out (by rw [HX.out]; exact hw) fun j i' hj hi'=>HE.out j i' hj hi'
    subst hres
    have HW:=Lib.hid hw
    clear hw HE HR
    go_wp2_with fail
    refine ca.mono ?_
    rintro e w2 ⟨rfl,k2⟩
    have hb:=K1.out.trans ((HB.out.trans (k2.mono HB.out.size)).mono K1.out.size)
    clear ca y0 q0 x0 x1 x2 x3 x4 x5 x6 x7 x8
    go_wp2_with fail
    go_ret2
    exact ⟨rfl,hb⟩
   | false =>
    rw [hw] at ca
    have HE2:Hid (∀ j i',j < k + 1 → l[j]? = some i' → sameV (xs.getD i' nPk).vs t = false):=Lib.hid fun j i' hj hi'=>by
     by_cases e:j = k
     ·subst e
      rw [HG.out] at hi'
      obtain rfl:=Option.some.inj hi'
      rw [HX.out,hw]
     ·exact HE.out j i' (by omega) hi'
    clear hw HE
    go_wp2_with fail
    refine ca.mono ?_
    rintro e w2 ⟨rfl,k2⟩
    have HB2:=Lib.hid (HB.out.trans (k2.mono HB.out.size))
    clear ca y0 q0 x0 x1 x2 x3 x4 x5 x6 x7 x8 k2
    go_wp2_with fail
    go_roundg g'
    case measure=>omega
    case rel=>exact ⟨k + 1,by go_num,HB2,HE2,by omega,by omega⟩
  ·obtain rfl:k = N:=by omega
   have hge:¬ (k:Int) < (k:Int):=by omega
   have hres:R = none:=by
    rw [← HR.out,List.find?_eq_none]
    intro i hi
    obtain ⟨j,hj⟩:=List.mem_iff_getElem?.1 hi
    rw [HE.out j i (by rw [← HN.out]; exact (List.getElem?_eq_some_iff.1 hj).1) hj]
    simp
   subst hres
   have hb:=K1.out.trans (HB.out.mono K1.out.size)
   clear HE HR HB
   go_wp2_with fail
   go_ret2
   exact ⟨rfl,hb⟩
end Ix
end Go.Proofs.YtelofmeapplfpaaGreatDoor

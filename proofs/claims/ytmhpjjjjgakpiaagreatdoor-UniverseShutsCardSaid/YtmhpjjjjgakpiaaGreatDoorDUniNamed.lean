/-
Of, Find; the reference's Version. named: the packages of some names, in memory of their own.
-/
import Derived.Test.YtmhpjjjjgakpiaaGreatDoorDIxInts
import Derived.Test.YtmhpjjjjgakpiaaGreatDoorDIxSort
import Derived.Test.YtmhpjjjjgakpiaaGreatDoorDVerRefCompare
import Derived.Test.YtmhpjjjjgakpiaaGreatDoorDUniAt
import Derived.Test.YtmhpjjjjgakpiaaGreatDoorDUniDef
import Derived.Test.YtmhpjjjjgakpiaaGreatDoorDStaConf
import Derived.Test.YtmhpjjjjgakpiaaGreatDoorDTextTexts
namespace Go.Proofs.YtmhpjjjjgakpiaaGreatDoor
open Go.RowKit
set_option linter.unusedSimpArgs false
set_option linter.unusedVariables false
namespace Ix
open Ver (Bs S S_li S_size sameV)
open Rl (Vars Slc mem_getD)
open Rc (Pk nPk PkV)
/-! ### slices.Clone of places -/
def InAt (w:World) (k o:Nat) (x:Nat):Prop:=w.cell? ⟨k,o,none⟩ = some (.int .i64 (x:Int))
theorem ints_slc {w:World} {B:Nat} {v:Value} {l:List Nat} (h:w.ownsRow B 3 1 v l.length (ints l)) (hl:l.length ≤ 60000):Slc 1 0 InAt w v l:=by
 obtain ⟨a,cap,rfl,hc⟩:=Rl.own_shape h
 refine ⟨by omega,a,cap,rfl,hc,fun h0=>?_⟩
 obtain ⟨R,c2,e,_⟩:=Rl.own_slice h h0
 simp only [Value.slice.injEq,true_and] at e
 obtain ⟨rfl,rfl⟩:=e
 refine ⟨R,0,rfl,fun i hi=>?_⟩
 show w.cell? ⟨R,0 + 1 * i,none⟩ = _
 rw [Nat.zero_add,Nat.one_mul]
 refine Rl.own_cell h ?_
 unfold ints
 rw [List.getElem?_map,List.getElem?_eq_getElem hi,List.getD_eq_getElem?_getD,List.getElem?_eq_getElem hi]
 rfl
theorem ints_flat (l:List Nat):(l.flatMap fun x:Nat=>[Value.int .i64 (x:Int)]) = ints l:=by
 unfold ints
 induction l with
 | nil=>rfl
 | cons x r ih=>rw [List.flatMap_cons,ih]; rfl
set_option maxRecDepth 100000 in
set_option maxHeartbeats 2000000 in
theorem cloneInts_any (v:Value) (d:List Nat) (w:World) (h:Slc 1 0 InAt w v d) (hl:d.length ≤ 60000) :
  Calls Tryz.prog 70 #[v] w fun e w'=>∃ v',e = .returned v' ∧ w'.ownsRow w.heap.size 3 1 v' d.length (ints d) ∧ Below w.heap.size w w':=by
 obtain ⟨h0,a,cap,rfl,hc,hr⟩:=id h
 cases a with
 | none =>
  have hn:d.length = 0:=by
   by_cases h0:0 < d.length
   ·obtain ⟨k,off,e,_⟩:=hr h0; cases e
   ·omega
  have:d = []:=List.eq_nil_of_length_eq_zero hn
  subst this
  clear hr h
  have hq:∀ w:World,(binOp BinOp.eql 77 (.slice none 0 cap) (.slice none 0 0)).run Tryz.prog w = .ok (.bool true) w:=fun w=>by kernel_rfl
  go_enter Tryz.func70,Tryz.ntmps70
  go_wp2_with fail
  go_ret
  exact ⟨_,rfl,World.ownsRow_nil _ _ _ _,Below.refl _ _⟩
 | some ad =>
  have hB:Below w.heap.size w (w.alloc (.cells #[] 3)):=(Below.refl _ _).alloc (Nat.le_refl _) _
  have SRC:=Lib.hid (Va.slc_src (sz:=1) (by omega) (fun x:Nat=>[Value.int .i64 (x:Int)]) (fun x=>rfl) (fun w k o x hx j u hj=>by cases j with | zero=>(simp at hj; subst hj; exact hx) | succ j=>simp at hj) (fun x u hu=>by simp at hu; rw [hu]; rfl) Tryz.underlying77 (Slc.below (P:=InAt) (fun _ _ _ _ _ h hb=>Rl.cell_on h hb) h hB))
  have OWN:=Lib.hid (World.ownsRow_lit (base:=w.heap.size) (e:=3) (size:=1) w #[] 0 (Nat.le_refl _) (by decide) rfl)
  have HB:=Lib.hid hB
  have hsz:=hB.size
  obtain ⟨i0,hi,hz0,hz1,hz2⟩:=info_parts infoI
  obtain ⟨N,hN⟩:∃ N,d.length = N:=⟨_,rfl⟩
  have HI:=Lib.hid hi
  rw [ints_flat] at SRC
  obtain ⟨CS,hCS⟩:∃ CS,ints d = CS:=⟨_,rfl⟩
  rw [hCS] at SRC ⊢
  rw [hN] at hl SRC h0 hc ⊢
  clear h hr hi hB hN hCS
  have hq:∀ w:World,(binOp BinOp.eql 77 (.slice (some ad) N cap) (.slice none 0 0)).run Tryz.prog w = .ok (.bool false) w:=fun w=>by kernel_rfl
  go_enter Tryz.func70,Tryz.ntmps70
  go_wp2_with (at_builtin; refine Own.wpList_append_src rfl (.tmp 5) (.tmp 6) 77 77 rfl w.heap.size 3 i0 _ 1 8 Tryz.underlying77 HI.out hz0 hz1 hz2 rfl _ 0 [] rfl OWN.out _ N CS rfl SRC.out (by simp only [maxLen]; omega) (by omega) hsz ?_; intro v' w' o1 g1; have k1:Below w.heap.size w w':=Own.below_grown HB.out OWN.out g1 hsz)
  have o2:w'.ownsRow w.heap.size 3 1 v' N CS:=by simpa using o1
  clear o1 g1
  go_ret
  exact ⟨_,rfl,o2,k1⟩
set_option maxRecDepth 100000 in
set_option maxHeartbeats 2000000 in
theorem of_any (pb:Nat) (xs:List Pk) (nm:Bs) (w:World) (h:Idx w pb xs) (hn:xs.length ≤ 60000) (hs:LimS nm) :
  Calls Tryz.prog 42 #[.pointer (some ⟨pb,0,none⟩),.string (S nm)] w fun e w'=>∃ v',e = .returned v' ∧ w'.ownsRow w.heap.size 3 1 v' (gK xs xs.length false nm).length (ints (gK xs xs.length false nm)) ∧ Below w.heap.size w w':=by
 obtain ⟨pv,bn,bs,hi,hp,hr,_⟩:=h
 obtain ⟨n0,hd,_,hm,hrow⟩:=hr
 obtain ⟨M,hrow⟩:=hrow nm
 have hlen:(gK xs xs.length false nm).length ≤ 60000:=by
  unfold gK pl
  exact Nat.le_trans (List.length_filter_le _ _) (by rw [List.length_range]; exact hn)
 have cc:=cloneInts_any (hd nm) _ w (ints_slc hrow hlen) hlen
 have hrun:=hm.look hs
 have q0:=hi.at (i:=1) rfl
 obtain ⟨a,c,ea,_⟩:=Rl.own_shape hrow
 obtain ⟨pa,pc,rfl⟩:=hp.shape
 rw [ea] at hrun cc
 generalize gK xs xs.length false nm = l at *
 generalize l.length = N at *
 clear hi hp hm hrow hlen ea
 go_enter Tryz.func42,Tryz.ntmps42
 go_wp2_with fail
 refine cc.mono ?_
 rintro e w1 ⟨v',rfl,ho,k1⟩
 clear cc
 go_wp2_with fail
 go_ret
 exact ⟨_,rfl,ho,k1⟩
end Ix
end Go.Proofs.YtmhpjjjjgakpiaaGreatDoor
namespace Go.Proofs.YtmhpjjjjgakpiaaGreatDoor
open Go.RowKit
set_option linter.unusedSimpArgs false
set_option linter.unusedVariables false
namespace Un
open Ver (Bs S S_size)
open Rl (Vars mem_getD)
open Rc (Pk nPk Pks PkV PkC Has In Acc append_big infoPk)
open Ix (Idx Few LimS gK pl_lt ints of_any)
theorem ofNms_take {xs:List Pk} {ns:List Bs} (k:Nat):(ofNms xs (ns.take k)).length ≤ (ofNms xs ns).length:=by
 have e:ofNms xs ns = ofNms xs (ns.take k) ++ ofNms xs (ns.drop k):=by
  unfold ofNms
  rw [← List.flatMap_append,List.take_append_drop]
 rw [e,List.length_append]
 omega
theorem ofNms_snoc (xs:List Pk) (ns:List Bs) (n:Bs):ofNms xs (ns ++ [n]) = ofNms xs ns ++ ofNm xs n:=by
 unfold ofNms
 rw [List.flatMap_append]
 simp
theorem take_snoc3 {α:Type} {l:List α} {z:α} {k:Nat} (hk:k < l.length):l.take (k + 1) = l.take k ++ [l.getD k z]:=by
 rw [List.getD_eq_getElem?_getD,List.getElem?_eq_getElem hk,Option.getD_some,List.take_append_getElem hk]
set_option maxRecDepth 100000 in
set_option maxHeartbeats 16000000 in
theorem named_any (pb:Nat) (xs:List Pk) (tv:Value) (ns:List Bs) (w:World) (h:Idx w pb xs) (hF:∀ x ∈ xs,Few x) (hn:xs.length ≤ 60000) (ht:Txt.Texts w tv (ns.map S)) (hs:∀ n ∈ ns,LimS n) (hb:(ofNms xs ns).length ≤ 60000) :
  Calls Tryz.prog 21 #[.pointer (some ⟨pb,0,none⟩),tv] w fun e w'=>∃ v',e = .returned v' ∧ Acc PkC 9 40 w.heap.size w.heap.size w' v' (ofNms xs ns) ∧ Below w.heap.size w w':=by
 obtain ⟨hmx,sa,cap,rfl,hcap,hread⟩:=ht
 rw [List.length_map] at hcap hmx hread ⊢
 have HR:=Lib.hid hread
 have HI:=Lib.hid h
 have HF:=Lib.hid hF
 have HXN:=Lib.hid hn
 have HS:=Lib.hid hs
 have HBN:=Lib.hid hb
 obtain ⟨n,hn1⟩:∃ n,ns.length = n:=⟨_,rfl⟩
 have HN:=Lib.hid hn1
 rw [hn1] at HR hcap hmx ⊢
 clear hn1 h hF hn hs hb hread
 go_enter Tryz.func21,Tryz.ntmps21
 go_wp2_with fail
 go_loopg [5,14] n (fun gf s5 s14 wx=>∃ (k K:Nat) (pa:Option Addr) (pc:Nat),s5 = .slice pa K pc ∧ s14 = .int .i64 k ∧ Hid (Acc PkC 9 40 w.heap.size w.heap.size wx (.slice pa K pc) (ofNms xs (ns.take k))) ∧ Hid ((ofNms xs (ns.take k)).length = K) ∧ Hid (Below w.heap.size w wx) ∧ k ≤ n ∧ n ≤ k + gf)
 case atStart=>exact ⟨0,0,none,0,rfl,rfl,Lib.hid (by rw [List.take_zero]; exact Acc.nil _ _ _ _ _ _),Lib.hid (by rw [List.take_zero]; rfl),Lib.hid (Below.refl _ _),by omega,by omega⟩
 case round =>
  obtain ⟨k,K,pa,pc,rfl,rfl,HA,HK,HB,hkn,hfu⟩:=hrel
  by_cases hlt:k < n
  ·obtain ⟨g',rfl⟩:∃ g',gk = g' + 1:=⟨gk - 1,by omega⟩
   have hlt':(k:Int) < (n:Int):=by omega
   have hk0:(0:Int) ≤ k:=by omega
   have hkl:k < ns.length:=by rw [HN.out]; exact hlt
   obtain ⟨kb,off,rfl,hat⟩:=HR.out (by omega)
   have x0:=hat k hlt
   have e0:(ns.map S).getD k ByteArray.empty = S (ns.getD k []):=by simp [List.getD_eq_getElem?_getD,hkl]
   rw [e0] at x0
   replace x0:=Rl.cell_on x0 HB.out
   have hmem:=mem_getD (z:=([]:Bs)) hkl
   have htk:=take_snoc3 (z:=([]:Bs)) hkl
   obtain ⟨nm,hnm⟩:∃ nm,ns.getD k [] = nm:=⟨_,rfl⟩
   rw [hnm] at x0 hmem htk
   have hlim:=HS.out nm hmem
   have hnext:ofNms xs (ns.take (k + 1)) = ofNms xs (ns.take k) ++ ofNm xs nm:=by rw [htk,ofNms_snoc]
   have hbig:(ofNms xs (ns.take (k + 1))).length ≤ 60000:=Nat.le_trans (ofNms_take _) HBN.out
   have co:=of_any pb xs nm wr (Idx.below HI.out HB.out) HXN.out hlim
   obtain ⟨l,hl⟩:∃ l,gK xs xs.length false nm = l:=⟨_,rfl⟩
   have hll:∀ i ∈ l,i < xs.length:=fun i hi=>by rw [← hl] at hi; exact pl_lt hi
   have hlm:l.map (fun i=>xs.getD i nPk) = ofNm xs nm:=by rw [← hl]; exact gK_map xs nm
   rw [hl] at co
   rw [hnext,List.length_append,HK.out,← hlm,List.length_map] at hbig
   obtain ⟨N,hN⟩:∃ N,l.length = N:=⟨_,rfl⟩
   rw [hN] at co hbig
   have HNX:=Lib.hid hnext
   have HLL:=Lib.hid hll
   have HLM:=Lib.hid hlm
   have HLN:=Lib.hid hN
   obtain ⟨D,hD⟩:∃ D,ofNms xs (ns.take k) = D:=⟨_,rfl⟩
   rw [hD] at HA HK HNX
   clear hat e0 hmem htk hnm hlim hnext hl hll hlm hN hD
   go_wp2_with fail
   refine co.mono ?_
   rintro e w1 ⟨v',rfl,ho,k1⟩
   obtain ⟨ra,rc,rfl,_⟩:=Rl.own_shape ho
   have HO:=Lib.hid (Rl.own_mono ho HB.out.size)
   have HB1:=Lib.hid (HB.out.trans (k1.mono HB.out.size))
   have HA1:=Lib.hid (HA.out.on k1)
   clear co ho k1 HA HB x0
   go_wp2_with fail
   go_loopg [5,22] N (fun gf s5 s22 wx=>∃ (j:Nat) (qa:Option Addr) (qc:Nat),s5 = .slice qa (K + j) qc ∧ s22 = .int .i64 j ∧ Hid (Acc PkC 9 40 w.heap.size w.heap.size wx (.slice qa (K + j) qc) (D ++ (l.take j).map (fun i=>xs.getD i nPk))) ∧ Hid (Below w.heap.size w wx) ∧ Hid (wx.ownsRow w.heap.size 3 1 (.slice ra N rc) N (ints l)) ∧ j ≤ N ∧ N ≤ j + gf)
   case atStart=>exact ⟨0,pa,pc,rfl,rfl,Lib.hid (by rw [List.take_zero,List.map_nil,List.append_nil]; exact HA1.out),HB1,HO,by omega,by omega⟩
   case round =>
    obtain ⟨j,qa,qc,rfl,rfl,HQ,HBX,HOX,hjn,hfj⟩:=hrel
    by_cases hlj:j < N
    ·obtain ⟨g2,rfl⟩:∃ g2,gk = g2 + 1:=⟨gk - 1,by omega⟩
     have hlj':(j:Int) < (N:Int):=by omega
     have hj0:(0:Int) ≤ j:=by omega
     have hjl:j < l.length:=by rw [HLN.out]; exact hlj
     have hrow:=HOX.out
     obtain ⟨rb,c2,e2,_⟩:=Rl.own_slice hrow (by omega)
     simp only [Value.slice.injEq,true_and] at e2
     obtain ⟨rfl,rfl⟩:=e2
     obtain ⟨i,hget⟩:∃ i,l[j]? = some i:=⟨l[j],List.getElem?_eq_getElem hjl⟩
     have hil:i < xs.length:=HLL.out i (List.mem_of_getElem? hget)
     have y0:=Rl.own_cell hrow (i:=j) (u:=.int .i64 (i:Int)) (by unfold ints; rw [List.getElem?_map,hget]; rfl)
     have hBw:Below w.heap.size w wr:=HBX.out
     have ca:=at_in pb xs i wr (Idx.below HI.out hBw) HF.out hil
     have htk:l.take (j + 1) = l.take j ++ [i]:=by rw [List.take_add_one,hget]; rfl
     obtain ⟨x,hx⟩:∃ x,xs.getD i nPk = x:=⟨_,rfl⟩
     rw [hx] at ca
     have HTK:=Lib.hid htk
     have HX:=Lib.hid hx
     have HBW:=Lib.hid hBw
     have hlen:(D ++ (l.take j).map (fun i=>xs.getD i nPk)).length = K + j:=by
      rw [List.length_append,HK.out,List.length_map,List.length_take]
      omega
     have HLE:=Lib.hid hlen
     clear hrow hget hil hBw htk hx hjl hlen
     go_wp2_with fail
     refine ca.mono ?_
     rintro e u1 ⟨s1,m1,t1,s2,m2,t2,s3,m3,t3,s4,m4,t4,s5,m5,t5,s6,m6,t6,rfl,hin,k1⟩
     have hba:=(Below.refl u1.heap.size u1).alloc (Nat.le_refl _) (.cells #[.string (S x.nm),.string (S x.vs),.slice s1 m1 t1,.slice s2 m2 t2,.slice s3 m3 t3,.slice s4 m4 t4,.slice s5 m5 t5,.slice s6 m6 t6,.bool x.ess] 40)
     have ia:=Blk.Is.new u1 40 #[.string (S x.nm),.string (S x.vs),.slice s1 m1 t1,.slice s2 m2 t2,.slice s3 m3 t3,.slice s4 m4 t4,.slice s5 m5 t5,.slice s6 m6 t6,.bool x.ess]
     obtain ⟨V1,hV1⟩:∃ V1,u1.alloc (.cells #[.string (S x.nm),.string (S x.vs),.slice s1 m1 t1,.slice s2 m2 t2,.slice s3 m3 t3,.slice s4 m4 t4,.slice s5 m5 t5,.slice s6 m6 t6,.bool x.ess] 40) = V1:=⟨_,rfl⟩
     rw [hV1] at hba ia
     have z0:=ia.at (i:=0) rfl
     have z1:=ia.at (i:=1) rfl
     have z2:=ia.at (i:=2) rfl
     have z3:=ia.at (i:=3) rfl
     have z4:=ia.at (i:=4) rfl
     have z5:=ia.at (i:=5) rfl
     have z6:=ia.at (i:=6) rfl
     have z7:=ia.at (i:=7) rfl
     have z8:=ia.at (i:=8) rfl
     have hbb:=(Below.refl V1.heap.size V1).alloc (Nat.le_refl _) (.cells #[.string (S x.nm),.string (S x.vs),.slice s1 m1 t1,.slice s2 m2 t2,.slice s3 m3 t3,.slice s4 m4 t4,.slice s5 m5 t5,.slice s6 m6 t6,.bool x.ess] 40)
     have ib:=Blk.Is.new V1 40 #[.string (S x.nm),.string (S x.vs),.slice s1 m1 t1,.slice s2 m2 t2,.slice s3 m3 t3,.slice s4 m4 t4,.slice s5 m5 t5,.slice s6 m6 t6,.bool x.ess]
     obtain ⟨V2,hV2⟩:∃ V2,V1.alloc (.cells #[.string (S x.nm),.string (S x.vs),.slice s1 m1 t1,.slice s2 m2 t2,.slice s3 m3 t3,.slice s4 m4 t4,.slice s5 m5 t5,.slice s6 m6 t6,.bool x.ess] 40) = V2:=⟨_,rfl⟩
     rw [hV2] at hbb ib
     have hab:=hba.trans (hbb.mono hba.size)
     have hB2:=k1.trans (hab.mono k1.size)
     have acc2:=HQ.out.on hB2
     have hin2:In wr.heap.size u1.heap.size V2 (fun u=>PkC u [.string (S x.nm),.string (S x.vs),.slice s1 m1 t1,.slice s2 m2 t2,.slice s3 m3 t3,.slice s4 m4 t4,.slice s5 m5 t5,.slice s6 m6 t6,.bool x.ess] x):=fun u hu=>⟨_,_,_,_,_,_,rfl,hin u ((Blk.Chg.ofBelow' hab).trans hu)⟩
     have hm2:u1.heap.size ≤ V2.heap.size:=hab.size
     have hlow:∀ g,Value.ownBlock (.slice qa (K + j) qc) = some g → g < wr.heap.size ∨ u1.heap.size ≤ g:=fun g hg=>by
      obtain ⟨_,ho⟩:=HQ.out.own
      exact .inl (Rl.own_lt ho hg).2
     have own2:∃ ys,V2.ownsRow w.heap.size 40 9 (.slice qa (K + j) qc) (K + j) ys:=by
      have:=acc2.own
      rwa [HLE.out] at this
     have hBW2:=HBW.out.trans (hB2.mono HBW.out.size)
     have hsz2:w.heap.size ≤ V2.heap.size:=hBW2.size
     have hbase:w.heap.size ≤ wr.heap.size:=HBW.out.size
     have AC2:=Lib.hid acc2
     have IN2:=Lib.hid hin2
     have M2:=Lib.hid hm2
     have LO:=Lib.hid hlow
     have OW:=Lib.hid own2
     have B2:=Lib.hid hBW2
     have OX2:=Lib.hid (Own.owns_below HOX.out hB2)
     have SZ:=Lib.hid hsz2
     have BA:=Lib.hid hbase
     have IB:=Lib.hid ib
     have HV2:=Lib.hid hV2
     have hk1:(K + j + 1) * 184 ≤ 140737488355328:=by omega
     have hk2:K + j + 1 ≤ 4611686018427387904:=by omega
     have hu:=hV1
     clear ca hin k1 hba ia hV1 hbb ib hV2 hab hB2 acc2 hin2 hm2 hlow own2 hBW2 hsz2 hbase HQ HBX HOX
     go_wp2_with (at_builtin; (try rw [HV2.out]); refine append_big Tryz.underlying22 infoPk rfl rfl (.tmp 32) (.tmp 34) rfl w.heap.size (.slice qa (K + j) qc) (K + j) rfl OW.out V1.heap.size 1 rfl [.string (S x.nm),.string (S x.vs),.slice s1 m1 t1,.slice s2 m2 t2,.slice s3 m3 t3,.slice s4 m4 t4,.slice s5 m5 t5,.slice s6 m6 t6,.bool x.ess] rfl (fun j u hj=>IB.out.at (by rw [← Array.getElem?_toList]; exact hj)) (fun u hu=>by simp only [List.mem_cons,List.not_mem_nil,or_false] at hu; rcases hu with rfl | rfl | rfl | rfl | rfl | rfl | rfl | rfl | rfl <;> rfl) hk1 hk2 SZ.out ?_; intro v' w9 h2 h3 h4; have acc9:=AC2.out.more (cs:=[.string (S x.nm),.string (S x.vs),.slice s1 m1 t1,.slice s2 m2 t2,.slice s3 m3 t3,.slice s4 m4 t4,.slice s5 m5 t5,.slice s6 m6 t6,.bool x.ess]) rfl IN2.out M2.out LO.out BA.out (by rw [HLE.out]; exact h2) h3 h4; obtain ⟨a9,c9,e9⟩:=acc9.shape; rw [List.length_append,HLE.out,List.length_singleton] at e9; subst e9; have hg9:Below w.heap.size w w9:=Own.below_grown B2.out (Classical.choose_spec OW.out) h3 SZ.out; have ho9:=((Blk.Chg.refl (fun k=>Value.ownBlock (.slice qa (K + j) qc) = some k) V2).grown h3 fun k hk _=>hk).owns OX2.out (fun b hb hs=>Rl.own_ne OX2.out (Classical.choose_spec OW.out) (by decide) b hb hs); have AC9:=Lib.hid acc9; have HB9:=Lib.hid hg9; have HO9:=Lib.hid ho9; clear acc9 hg9 ho9 h2 h3 h4 AC2 IN2 M2 LO OW B2 OX2 SZ BA IB HV2)
     go_roundg g2
     case measure=>omega
     case rel =>
      refine ⟨j + 1,a9,c9,rfl,by go_num,Lib.hid ?_,HB9,HO9,by omega,by omega⟩
      rw [HTK.out,List.map_append,← List.append_assoc]
      show Acc _ _ _ _ _ _ _ (_ ++ [xs.getD i nPk])
      rw [HX.out]
      exact AC9.out
    ·have hge:¬ (N:Int) < (N:Int):=by omega
     obtain rfl:N = j:=by omega
     have hfull:D ++ (l.take N).map (fun i=>xs.getD i nPk) = ofNms xs (ns.take (k + 1)):=by
      rw [HNX.out,List.take_of_length_le (Nat.le_of_eq HLN.out),HLM.out]
     have hlen:(ofNms xs (ns.take (k + 1))).length = K + N:=by
      rw [← hfull,List.length_append,HK.out,List.length_map,List.length_take,HLN.out]
      omega
     have HQ2:=HQ
     rw [hfull] at HQ2
     have HLE:=Lib.hid hlen
     have HB9:=HBX
     clear hfull hlen HQ HBX HOX
     go_wp2_with fail
     go_roundg g'
     case measure=>omega
     case rel=>exact ⟨k + 1,K + N,qa,qc,rfl,by go_num,HQ2,HLE,HB9,by omega,by omega⟩
  ·have hge:¬ (n:Int) < (n:Int):=by omega
   obtain rfl:n = k:=by omega
   have hacc:=HA.out
   rw [List.take_of_length_le (Nat.le_of_eq HN.out)] at hacc
   have HA9:=Lib.hid hacc
   clear hacc HA
   go_wp2_with fail
   go_ret
   exact ⟨_,rfl,HA9.out,HB.out⟩
end Un
end Go.Proofs.YtmhpjjjjgakpiaaGreatDoor

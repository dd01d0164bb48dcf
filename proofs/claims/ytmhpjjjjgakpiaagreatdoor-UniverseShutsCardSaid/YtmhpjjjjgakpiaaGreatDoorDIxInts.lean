/-
slices.Grow, slices.Concat of lists of clauses. Lists of clauses that bear changes elsewhere: their clauses' values stay. SameInts: of equal places.
-/
import Derived.Test.YtmhpjjjjgakpiaaGreatDoorDIxOwn
import Derived.Test.YtmhpjjjjgakpiaaGreatDoorDIxSort
import Derived.Lib.AppendZeros
import Derived.Test.YtmhpjjjjgakpiaaGreatDoorDIxMap
import Derived.Test.YtmhpjjjjgakpiaaGreatDoorDIxIns
namespace Go.Proofs.YtmhpjjjjgakpiaaGreatDoor
open Go.RowKit
set_option linter.unusedSimpArgs false
set_option linter.unusedVariables false
namespace Un
open Rl (Slc infoC mem_getD)
open Ix (Sl SlAt)
set_option maxRecDepth 100000 in
set_option maxHeartbeats 4000000 in
theorem grow_any (n:Nat) (w:World) (hn:n ≤ 60000) :
  Calls Tryz.prog 113 #[.slice none 0 0,.int .i64 n] w fun e w'=>∃ v',e = .returned v' ∧ w'.ownsRow w.heap.size 47 1 v' 0 [] ∧ Below w.heap.size w w':=by
 rcases Nat.eq_zero_or_pos n with rfl | h0
 ·go_enter Tryz.func113,Tryz.ntmps113
  go_wp2_with fail
  go_ret
  exact ⟨_,rfl,World.ownsRow_nil _ _ _ _,Below.refl _ _⟩
 ·obtain ⟨i0,hi,hz0,hz1,hz2⟩:=info_parts infoC
  have happ:=Lib.run_append_nil_zeros (P:=Tryz.prog) w 36 3 36 47 i0 (.slice none 0 0) .i64 .i64 Tryz.underlying36 Tryz.underlying3 hi hz0 n h0 (by rw [hz1]; omega) (by omega) (by rw [hz2]; omega)
  have hG1:n ≤ grownCap w n 0 47:=grownCap_ge w _ _ _
  have hG2:=grownCap_le_maxLen w n 0 47 (by unfold maxLen; omega)
  obtain ⟨G,hG⟩:∃ G,grownCap w n 0 47 = G:=⟨_,rfl⟩
  rw [hG] at happ hG1 hG2
  have hb:Below w.heap.size w (w.drew.alloc (.cells (Builtin.zeroCells (Value.slice none 0 0).cells n ++ Builtin.zeroCells (Value.slice none 0 0).cells (G - n)) 47)):=((Below.refl _ _).drew).alloc (Nat.le_refl _) _
  have hi2:=Blk.Is.new w.drew 47 (Builtin.zeroCells (Value.slice none 0 0).cells n ++ Builtin.zeroCells (Value.slice none 0 0).cells (G - n))
  have hz:(Value.slice none 0 0).cells.size = 1:=rfl
  have hcs:(Builtin.zeroCells (Value.slice none 0 0).cells n ++ Builtin.zeroCells (Value.slice none 0 0).cells (G - n)).size = G * 1:=by
   rw [Array.size_append,size_zeroCells,size_zeroCells,hz]
   omega
  have hown:(w.drew.alloc (.cells (Builtin.zeroCells (Value.slice none 0 0).cells n ++ Builtin.zeroCells (Value.slice none 0 0).cells (G - n)) 47)).ownsRow w.heap.size 47 1 (.slice (some ⟨w.heap.size,0,none⟩) 0 G) 0 [] :=
   ⟨rfl,.inr ⟨w.heap.size,G,_,rfl,Nat.le_refl _,hi2,Nat.zero_le _,hG2,hcs,by simp⟩⟩
  generalize w.drew.alloc (.cells (Builtin.zeroCells (Value.slice none 0 0).cells n ++ Builtin.zeroCells (Value.slice none 0 0).cells (G - n)) 47) = W at *
  have HO:=Lib.hid hown
  have HB:=Lib.hid hb
  have HA:=Lib.hid happ
  have hw1:wrap64 ((n:Int) - 0) = (n:Int):=by unfold wrap64; omega
  have hpos:(n:Int) > 0:=by omega
  have hneg:¬ (n:Int) < 0:=by omega
  have hG63:(0:Int) ≤ G:=by omega
  unfold maxLen at hG2
  clear happ hi hz0 hz1 hz2 hb hi2 hz hcs hown hG
  go_enter Tryz.func113,Tryz.ntmps113
  go_wp2_with (at_builtin; refine Lib.wpList_append_run _ rfl _ _ _ _ rfl _ _ rfl rfl _ _ HA.out ?_)
  go_ret
  exact ⟨_,rfl,HO.out,HB.out⟩
theorem take_snoc4 {α:Type} {l:List α} {z:α} {k:Nat} (hk:k < l.length):l.take (k + 1) = l.take k ++ [l.getD k z]:=by
 rw [List.getD_eq_getElem?_getD,List.getElem?_eq_getElem hk,Option.getD_some,List.take_append_getElem hk]
theorem wrap_add {A B:Nat} (h:A + B ≤ 60000):wrap64 ((A:Int) + (B:Int)) = ((A + B:Nat):Int):=by unfold wrap64; omega
theorem nat_neg (A:Nat):¬ ((A:Nat):Int) < 0:=by omega
abbrev zSl:Sl:=⟨.slice none 0 0,rfl⟩
def cells1 (d:List Sl):List Value:=d.map (·.1)
def allSl (ds:List (Value × List Sl)):List Sl:=ds.flatMap (·.2)
theorem allSl_snoc (ds:List (Value × List Sl)) (x:Value × List Sl):allSl (ds ++ [x]) = allSl ds ++ x.2:=by
 unfold allSl
 rw [List.flatMap_append]
 simp
theorem allSl_take {ds:List (Value × List Sl)} (k:Nat):(allSl (ds.take k)).length ≤ (allSl ds).length:=by
 have e:allSl ds = allSl (ds.take k) ++ allSl (ds.drop k):=by
  unfold allSl
  rw [← List.flatMap_append,List.take_append_drop]
 rw [e,List.length_append]
 omega
set_option maxRecDepth 100000 in
set_option maxHeartbeats 8000000 in
theorem concat_any (g c:Nat) (ds:List (Value × List Sl)) (w:World) (hg:∀ k,k < ds.length → w.cell? ⟨g,k,none⟩ = some (ds.getD k (.slice none 0 0,[])).1) (hs:∀ x ∈ ds,Slc 1 zSl SlAt w x.1 x.2) (hl:(allSl ds).length ≤ 60000) (hn:ds.length ≤ 60000) :
  Calls Tryz.prog 78 #[.slice (some ⟨g,0,none⟩) ds.length c] w fun e w'=>∃ v',e = .returned v' ∧ w'.ownsRow w.heap.size 47 1 v' (allSl ds).length (cells1 (allSl ds)) ∧ Below w.heap.size w w':=by
 have HG:=Lib.hid hg
 have HS:=Lib.hid hs
 have HL:=Lib.hid hl
 obtain ⟨n,hn1⟩:∃ n,ds.length = n:=⟨_,rfl⟩
 have HN:=Lib.hid hn1
 rw [hn1] at hn HG ⊢
 clear hg hs hl hn1
 go_enter Tryz.func78,Tryz.ntmps78
 go_wp2_with fail
 go_loopg [3,11] n (fun gf s3 s11 wx=>∃ k:Nat,s3 = .int .i64 ((allSl (ds.take k)).length:Nat) ∧ s11 = .int .i64 k ∧ wx = w ∧ k ≤ n ∧ n ≤ k + gf)
 case atStart=>exact ⟨0,by simp [allSl],rfl,rfl,by omega,by omega⟩
 case round =>
  obtain ⟨k,rfl,rfl,hww,hkn,hfu⟩:=hrel
  obtain rfl:w = wr:=hww.symm
  by_cases hlt:k < n
  ·obtain ⟨g',rfl⟩:∃ g',gk = g' + 1:=⟨gk - 1,by omega⟩
   have hlt':(k:Int) < (n:Int):=by omega
   have hk0:(0:Int) ≤ k:=by omega
   have hkl:k < ds.length:=by rw [HN.out]; exact hlt
   have x0:=HG.out k hlt
   obtain ⟨x,hx⟩:∃ x,ds.getD k (.slice none 0 0,[]) = x:=⟨_,rfl⟩
   have hmem:x ∈ ds:=by rw [← hx]; exact mem_getD hkl
   have htk:=take_snoc4 (z:=((.slice none 0 0,[]):Value × List Sl)) hkl
   rw [hx] at x0 htk
   have hnext:(allSl (ds.take (k + 1))).length = (allSl (ds.take k)).length + x.2.length:=by rw [htk,allSl_snoc,List.length_append]
   have hbig:=Nat.le_trans (allSl_take (ds:=ds) (k + 1)) HL.out
   obtain ⟨_,xa,xc,ex,_,_⟩:=HS.out x hmem
   rw [ex] at x0
   obtain ⟨A,hA⟩:∃ A,(allSl (ds.take k)).length = A:=⟨_,rfl⟩
   obtain ⟨B,hB⟩:∃ B,x.2.length = B:=⟨_,rfl⟩
   rw [hA,hB] at hnext
   rw [hnext] at hbig
   rw [hA]
   rw [hB] at x0
   have hw:=wrap_add hbig
   have hneg:=nat_neg (A + B)
   have HNX:=Lib.hid hnext
   clear hx hmem htk hnext ex hA hB hkl
   go_wp2_with fail
   go_roundg g'
   case measure=>omega
   case rel=>exact ⟨k + 1,by rw [HNX.out,Int.natCast_add],by go_num,rfl,by omega,by omega⟩
  ·have hge:¬ (n:Int) < (n:Int):=by omega
   obtain rfl:n = k:=by omega
   have hall:ds.take n = ds:=List.take_of_length_le (Nat.le_of_eq HN.out)
   rw [hall]
   obtain ⟨A,hA⟩:∃ A,(allSl ds).length = A:=⟨_,rfl⟩
   have HA:=Lib.hid hA
   rw [hA]
   have cg:=grow_any A w (by rw [← hA]; exact HL.out)
   clear hall hA
   go_wp2_with fail
   refine cg.mono ?_
   rintro e w1 ⟨v1,rfl,ho1,k1⟩
   obtain ⟨va,vc,rfl,_⟩:=Rl.own_shape ho1
   have HO1:=Lib.hid ho1
   have K1:=Lib.hid k1
   clear cg ho1 k1
   go_wp2_with fail
   go_loopg [6,27] n (fun gf s6 s27 wx=>∃ (k:Nat) (K:Nat) (pa:Option Addr) (pc:Nat),s6 = .slice pa K pc ∧ s27 = .int .i64 k ∧ Hid (wx.ownsRow w.heap.size 47 1 (.slice pa K pc) K (cells1 (allSl (ds.take k)))) ∧ Hid ((allSl (ds.take k)).length = K) ∧ Hid (Below w.heap.size w wx) ∧ k ≤ n ∧ n ≤ k + gf)
   case atStart=>exact ⟨0,0,va,vc,rfl,rfl,HO1,Lib.hid rfl,K1,by omega,by omega⟩
   case round =>
    obtain ⟨k,K,pa,pc,rfl,rfl,HO,HK,HB,hkn,hfu⟩:=hrel
    by_cases hlt:k < n
    ·obtain ⟨g',rfl⟩:∃ g',gk = g' + 1:=⟨gk - 1,by omega⟩
     have hlt':(k:Int) < (n:Int):=by omega
     have hk0:(0:Int) ≤ k:=by omega
     have hkl:k < ds.length:=by rw [HN.out]; exact hlt
     have x0:=Rl.cell_on (HG.out k hlt) HB.out
     obtain ⟨x,hx⟩:∃ x,ds.getD k (.slice none 0 0,[]) = x:=⟨_,rfl⟩
     have hmem:x ∈ ds:=by rw [← hx]; exact mem_getD hkl
     have htk:=take_snoc4 (z:=((.slice none 0 0,[]):Value × List Sl)) hkl
     rw [hx] at x0 htk
     have hnext:allSl (ds.take (k + 1)) = allSl (ds.take k) ++ x.2:=by rw [htk,allSl_snoc]
     have hbig:=Nat.le_trans (allSl_take (ds:=ds) (k + 1)) HL.out
     rw [hnext,List.length_append,HK.out] at hbig
     have hsl:=Slc.below (P:=SlAt) (fun _ _ _ _ _ h hb=>Rl.cell_on h hb) (HS.out x hmem) HB.out
     obtain ⟨h00,xa,xc,ex,hxc,hxr⟩:=id hsl
     have SRC:=Lib.hid (Va.slc_src (sz:=1) (by omega) (fun x:Sl=>[x.1]) (fun x=>rfl) (fun w k o x hx j u hj=>by cases j with | zero=>(simp at hj; subst hj; exact hx) | succ j=>simp at hj) (fun x u hu=>by simp at hu; rw [hu]; exact x.2) Tryz.underlying36 hsl)
     rw [Ix.map_sl] at SRC
     obtain ⟨N,hN⟩:∃ N,x.2.length = N:=⟨_,rfl⟩
     obtain ⟨CS,hCS⟩:∃ CS,(x.2.map (·.1)) = CS:=⟨_,rfl⟩
     have hnc:cells1 (allSl (ds.take (k + 1))) = cells1 (allSl (ds.take k)) ++ CS:=by rw [hnext,← hCS]; unfold cells1; rw [List.map_append]
     have hnk:(allSl (ds.take (k + 1))).length = K + N:=by rw [hnext,List.length_append,HK.out,hN]
     rw [ex,hN] at SRC
     rw [hCS] at SRC
     rw [ex,hN] at x0
     rw [hN] at hbig hxc
     have HNC:=Lib.hid hnc
     have HNK:=Lib.hid hnk
     have OWN:=HO
     have hsz:=HB.out.size
     obtain ⟨i0,hi,hz0,hz1,hz2⟩:=info_parts infoC
     have HI:=Lib.hid hi
     clear hx hmem htk hnext hsl ex hxr h00 hN hCS hnc hnk hkl hi
     go_wp2_with (at_builtin; refine Own.wpList_append_src rfl (.tmp 31) (.tmp 32) 36 36 rfl w.heap.size 47 i0 _ 1 24 Tryz.underlying36 HI.out hz0 hz1 hz2 rfl _ K (cells1 (allSl (ds.take k))) rfl OWN.out _ N CS rfl SRC.out (by simp only [maxLen]; omega) (by omega) hsz ?_; intro v9 w9 o9 g9; have k9:Below w.heap.size w w9:=Own.below_grown HB.out OWN.out g9 hsz; obtain ⟨a9,c9,rfl,_⟩:=Rl.own_shape o9; have O9:=Lib.hid o9; have K9:=Lib.hid k9; clear o9 g9 k9)
     go_roundg g'
     case measure=>omega
     case rel=>exact ⟨k + 1,K + N,a9,c9,rfl,by go_num,by rw [HNC.out]; exact O9,HNK,K9,by omega,by omega⟩
    ·have hge:¬ (n:Int) < (n:Int):=by omega
     obtain rfl:n = k:=by omega
     have hall:ds.take n = ds:=List.take_of_length_le (Nat.le_of_eq HN.out)
     rw [hall] at HO HK
     have hkk:K = A:=by rw [← HK.out,HA.out]
     subst hkk
     clear hall
     go_wp2_with fail
     go_ret
     exact ⟨_,rfl,by rw [HK.out]; exact HO.out,HB.out⟩
end Un
end Go.Proofs.YtmhpjjjjgakpiaaGreatDoor
namespace Go.Proofs.YtmhpjjjjgakpiaaGreatDoor
open Go.RowKit
set_option linter.unusedSimpArgs false
set_option linter.unusedVariables false
namespace Un
open Rl (Slc At Ats Clss)
open Rc (In Pk PkC Has)
open Ix (Sl SlAt)
theorem in_cell {b m:Nat} {w:World} {k o:Nat} {v:Value} (h0:w.cell? ⟨k,o,none⟩ = some v) (h:In b m w (fun u=>∃ x,u.cell? ⟨k,o,none⟩ = some x)):b ≤ k ∧ k < m:=by
 obtain ⟨cs,T,fr,hk⟩:∃ cs T fr,w.heap[k]? = some (.cells cs T fr):=by
  unfold World.cell? at h0
  cases hk:w.heap[k]? with
  | none=>rw [hk] at h0; cases h0
  | some o =>
   rw [hk] at h0
   cases o with
   | cells c e f=>exact ⟨_,_,_,rfl⟩
   | _=>cases h0
 by_cases hb:b ≤ k ∧ k < m
 ·exact hb
 ·exfalso
  obtain ⟨x,hx⟩:=h (w.setRow k #[]) ((Blk.Chg.refl _ w).setRow (g:=k) (by omega) #[])
  rw [cell_setRow_same w k o cs #[] T fr hk] at hx
  simp at hx
theorem in_same {b m:Nat} {w u:World} {k o:Nat} {v:Value} (h0:w.cell? ⟨k,o,none⟩ = some v) (h:In b m w (fun u=>∃ x,u.cell? ⟨k,o,none⟩ = some x)) (hu:Blk.Chg (fun k=>k < b ∨ m ≤ k) w u):u.cell? ⟨k,o,none⟩ = some v:=by
 obtain ⟨h1,h2⟩:=in_cell h0 h
 have hlt:k < w.heap.size:=Nat.lt_of_not_le fun hge=>by
  unfold World.cell? at h0
  simp only [Array.getElem?_eq_none hge] at h0
  cases h0
 have e:u.heap[k]? = w.heap[k]?:=hu.block k hlt (by omega)
 unfold World.cell? at h0 ⊢
 rw [← h0]
 simp only [e]
theorem in_clss {b m:Nat} {w:World} {v:Value} {l:List (List At)} (h:In b m w (fun u=>Clss u v l)) :
  ∃ d:List Sl,d.length = l.length ∧ In b m w (fun u=>Slc 1 zSl SlAt u v d) ∧ ∀ i x,d[i]? = some x → In b m w (fun u=>Ats u x.1 (l.getD i [])):=by
 obtain ⟨d,hd,hs,ha⟩:=Ix.sls_of h.here
 obtain ⟨h0,a,cap,rfl,hc,hr⟩:=id hs
 have key:∀ kb off,a = some ⟨kb,off,none⟩ → ∀ u,Blk.Chg (fun k=>k < b ∨ m ≤ k) w u → ∀ i x,d[i]? = some x → u.cell? ⟨kb,off + 1 * i,none⟩ = some x.1 ∧ Ats u x.1 (l.getD i []):=by
  rintro kb off rfl u hu i x hx
  have hi:i < d.length:=(List.getElem?_eq_some_iff.1 hx).1
  obtain ⟨kb',off',e1,e2⟩:=hr (by omega)
  simp only [Option.some.injEq,Addr.mk.injEq,and_true] at e1
  obtain ⟨rfl,rfl⟩:=e1
  have hcell:=e2 i hi
  rw [Ix.get_getD hx] at hcell
  have at_:∀ z,Blk.Chg (fun k=>k < b ∨ m ≤ k) w z → ∃ y,z.cell? ⟨kb,off + 1 * i,none⟩ = some y ∧ Ats z y (l.getD i []):=fun z hz=>by
   obtain ⟨_,a',cap',e3,_,e4⟩:=h z hz
   simp only [Value.slice.injEq] at e3
   obtain ⟨rfl,_,_⟩:=e3
   obtain ⟨k3,o3,e5,e6⟩:=e4 (by omega)
   simp only [Option.some.injEq,Addr.mk.injEq,and_true] at e5
   obtain ⟨rfl,rfl⟩:=e5
   exact e6 i (by omega)
  have hsame:=in_same hcell (fun z hz=>(at_ z hz).imp fun y hy=>hy.1) hu
  obtain ⟨y,hy1,hy2⟩:=at_ u hu
  rw [hsame] at hy1
  obtain rfl:=Option.some.inj hy1
  exact ⟨hsame,hy2⟩
 refine ⟨d,hd,fun u hu=>⟨h0,a,cap,rfl,hc,fun hl=>?_⟩,fun i x hx u hu=>?_⟩
 ·obtain ⟨kb,off,ea,e2⟩:=hr hl
  refine ⟨kb,off,ea,fun i hi=>?_⟩
  obtain ⟨x,hx⟩:∃ x,d[i]? = some x:=⟨d[i],List.getElem?_eq_getElem hi⟩
  rw [Ix.get_getD hx]
  exact (key kb off ea u hu i x hx).1
 ·have hi:i < d.length:=(List.getElem?_eq_some_iff.1 hx).1
  obtain ⟨kb,off,ea,_⟩:=hr (by omega)
  exact (key kb off ea u hu i x hx).2
theorem in_has {b m:Nat} {w:World} {p:Pk} {u1 u2 u3 u4 u5 u6:Value} (h:In b m w (fun u=>Has u p u1 u2 u3 u4 u5 u6)) :
  In b m w (fun u=>Clss u u1 p.pre) ∧ In b m w (fun u=>Clss u u2 p.dep) ∧ In b m w (fun u=>Clss u u3 p.rcm) :=
 ⟨fun u hu=>(h u hu).pre,fun u hu=>(h u hu).dep,fun u hu=>(h u hu).rcm⟩
theorem in_pkc {b m:Nat} {w:World} {cs:List Value} {p:Pk} (h:In b m w (fun u=>PkC u cs p)):∃ u1 u2 u3 u4 u5 u6,cs = [.string (Ver.S p.nm),.string (Ver.S p.vs),u1,u2,u3,u4,u5,u6,.bool p.ess] ∧ In b m w (fun u=>Has u p u1 u2 u3 u4 u5 u6):=by
 obtain ⟨u1,u2,u3,u4,u5,u6,e,_⟩:=h.here
 refine ⟨u1,u2,u3,u4,u5,u6,e,fun u hu=>?_⟩
 obtain ⟨v1,v2,v3,v4,v5,v6,e',hh⟩:=h u hu
 rw [e] at e'
 simp only [List.cons.injEq,and_true,true_and] at e'
 obtain ⟨rfl,rfl,rfl,rfl,rfl,rfl⟩:=e'
 exact hh
end Un
end Go.Proofs.YtmhpjjjjgakpiaaGreatDoor
namespace Go.Proofs.YtmhpjjjjgakpiaaGreatDoor
open Go.RowKit
set_option linter.unusedSimpArgs false
set_option linter.unusedVariables false
namespace Ix
theorem mt_len (xs:List Rc.Pk) (a:Rl.At):(mt xs a).length ≤ xs.length:=by
 unfold mt pl
 exact Nat.le_trans (List.length_filter_le _ _) (by rw [List.length_range]; exact Nat.le_refl _)
end Ix
end Go.Proofs.YtmhpjjjjgakpiaaGreatDoor

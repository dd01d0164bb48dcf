/-
The contracts of text.split, text.check and text.Lines. The contract of the reference's Lines. The walk of the law TextLines. append of one stanza, of one field, for the walk; Cut at a colon.
-/
import Derived.Test.YthmpepnikmdjpaaGreatDoorCRow
import Derived.Shelf.Vars
import Derived.Handy
import Derived.Test.YthmpepnikmdjpaaGreatDoorCWordsK
namespace Go.Proofs.YthmpepnikmdjpaaGreatDoor
open Go.RowKit
set_option linter.unusedSimpArgs false
set_option linter.unusedVariables false
namespace Txt
def MaxLen (w:World):Prop:=∃ m,w.cell? ⟨2,0,none⟩ = some (.int .i64 m)
theorem MaxLen.below {w w':World} {B:Nat} (h:MaxLen w) (hb:Below B w w') (hB:2 < B):MaxLen w':=by
 obtain ⟨m,hm⟩:=h
 exact ⟨m,by rw [hb.cell (p:=⟨2,0,none⟩) hB]; exact hm⟩
theorem MaxLen.lt {w:World} (h:MaxLen w):2 < w.heap.size:=by
 obtain ⟨m,hm⟩:=h
 exact lt_cell hm
theorem texts_new (w:World) (ls:List ByteArray) (n:Nat) (hn:ls.length = n) (hl:n ≤ 4611686018427387904) (t:TypeId):Texts (w.alloc (.cells (ls.map Value.string).toArray t)) (.slice (some ⟨w.heap.size,0,none⟩) n n) ls:=by
 subst hn
 refine ⟨hl,_,_,rfl,Nat.le_refl _,fun _=>⟨w.heap.size,0,rfl,fun i hi=>?_⟩⟩
 have:=(Blk.Is.new w t (ls.map Value.string).toArray).at (i:=i) (v:=.string (ls.getD i ByteArray.empty)) (by simp [hi])
 rw [Nat.zero_add]
 exact this
theorem Texts.init {w:World} {a:Option Addr} {n c:Nat} {rs:List ByteArray} {x:ByteArray} (h:Texts w (.slice a n c) (rs ++ [x])):Texts w (.slice a rs.length c) rs:=by
 obtain ⟨h0,a',c',h1,h2,h3⟩:=h
 simp only [Value.slice.injEq] at h1
 obtain ⟨rfl,rfl,rfl⟩:=h1
 simp at h0 h2
 refine ⟨by omega,_,_,rfl,by omega,fun hl=>?_⟩
 obtain ⟨b,off,rfl,h4⟩:=h3 (by simp)
 refine ⟨b,off,rfl,fun i hi=>?_⟩
 have:=h4 i (by simp; omega)
 rw [this]
 simp [hi,List.getElem?_append_left]
theorem empty_str {x:ByteArray} (h:x.data.toList = []):x.toList.isEmpty = true:=by rw [Lib.toList_data,h]; rfl
theorem some_str {x:ByteArray} (h:x.data.toList ≠ []):x.toList.isEmpty = false:=by
 rw [Lib.toList_data]
 cases e:x.data.toList with
 | nil=>exact absurd e h
 | cons _ _=>rfl
set_option maxRecDepth 100000 in
set_option maxHeartbeats 2000000 in
theorem split_any (s:ByteArray) (w:World) (hs:s.size ≤ 65536) (hm:MaxLen w) :
  Calls Tryz.prog 223 #[.string s] w fun e w'=>∃ v ls,e = .returned v ∧ LinesOf s ls ∧ ls.length ≤ 65538 ∧ Texts w' v ls ∧ Below w.heap.size w w':=by
 obtain ⟨m,hm⟩:=hm
 have c:=Tryz.strings_Split s ⟨#[10]⟩ m w (by omega) hm (by decide)
 obtain ⟨k1,k2⟩:=splitB_spl s
 have hcl:=Lib.count_le s.data.toList [10]
 rw [len_list] at hcl
 have hcc:Lib.countB s ⟨#[10]⟩ ≤ s.size + 1:=hcl
 generalize Lib.countB s ⟨#[10]⟩ = N at *
 generalize Lib.splitB ⟨#[10]⟩ 0 N s = ls at *
 have T0:=texts_new w ls (N + 1) k2 (by omega) 9
 obtain ⟨_,a,cp,he,_,p⟩:=T0
 obtain ⟨rs,x,rfl⟩:∃ rs x,ls = rs ++ [x]:=by
  have hne:ls ≠ []:=fun e=>by rw [e] at k2; simp at k2
  exact ⟨ls.dropLast,ls.getLast hne,(List.dropLast_concat_getLast hne).symm⟩
 have hrl:rs.length = N:=by simp at k2; exact k2
 have T0:=texts_new w (rs ++ [x]) (N + 1) k2 (by omega) 9
 have T1:=Lib.hid T0
 have hx:(w.alloc (.cells ((rs ++ [x]).map Value.string).toArray 9)).cell? ⟨w.heap.size,N,none⟩ = some (.string x) :=
  (Blk.Is.new w 9 ((rs ++ [x]).map Value.string).toArray).at (i:=N) (v:=.string x) (by rw [← hrl]; simp)
 have hb:Below w.heap.size w (w.alloc (.cells ((rs ++ [x]).map Value.string).toArray 9)):=(Below.refl _ _).alloc (Nat.le_refl _) _
 have HB:=Lib.hid hb
 have hlines:dl (spl s.data.toList) = if x.data.toList = [] then rs.map (·.data.toList) else (rs ++ [x]).map (·.data.toList):=by
  rw [← k1,List.map_append,List.map_cons,List.map_nil,dl_last]
 have HL:=Lib.hid hlines
 have HR:=Lib.hid hrl
 have K2:=Lib.hid k2
 clear k1 k2 hcl p he T0 hb hlines hrl hm
 obtain ⟨W,hW⟩:∃ W,w.alloc (.cells ((rs ++ [x]).map Value.string).toArray 9) = W:=⟨_,rfl⟩
 rw [hW] at c T1 hx HB
 clear hW
 go_enter Tryz.func223,Tryz.ntmps223
 go_wp2_with fail
 refine c.mono ?_
 rintro e w' ⟨rfl,rfl⟩
 clear c
 by_cases h0:x.data.toList = []
 ·have hx0:=empty_str h0
  have h0':=Lib.hid h0
  clear h0
  go_wp2_with fail
  go_ret
  have:=T1.out.init
  rw [HR.out] at this
  exact ⟨_,rs,rfl,by unfold LinesOf linesL; rw [HL.out,if_pos h0'.out],by rw [HR.out]; omega,this,HB.out⟩
 ·have hx0:=some_str h0
  have h0':=Lib.hid h0
  clear h0
  go_wp2_with fail
  go_ret
  exact ⟨_,rs ++ [x],rfl,by unfold LinesOf linesL; rw [HL.out,if_neg h0'.out],by rw [K2.out]; omega,T1.out,HB.out⟩
theorem check_any (s:ByteArray) (w:World) (hs:s.size ≤ 9223372036854775807) (hT:Lib.Utf8Tabs 3 4 w) :
  Calls Tryz.prog 224 #[.string s] w fun e w'=>e = .returned (.int .i64 (E s)) ∧ Below w.heap.size w w':=by
 have c:=good_any s w hs hT
 obtain ⟨G,hG⟩:∃ G,good s = G:=⟨_,rfl⟩
 have hE:E s = if 1000 < s.size then 2 else if 0 ≤ G then 3 else 0:=by unfold E; rw [hG]
 rw [hG] at c
 clear hG hT
 by_cases h1:1000 < s.size
 ·have h1':1000 < (s.size:Int):=by omega
  rw [if_pos h1] at hE
  rw [hE]
  clear hE
  go_enter Tryz.func224,Tryz.ntmps224
  go_wp2_with fail
  go_ret
  exact ⟨rfl,Below.refl _ _⟩
 ·have h1':¬ 1000 < (s.size:Int):=by omega
  rw [if_neg h1] at hE
  by_cases h2:0 ≤ G
  ·rw [if_pos h2] at hE
   rw [hE]
   clear hE
   go_enter Tryz.func224,Tryz.ntmps224
   go_wp2_with fail
   refine c.mono ?_
   rintro e w1 ⟨rfl,b1⟩
   go_wp2_with fail
   go_ret
   exact ⟨rfl,b1⟩
  ·rw [if_neg h2] at hE
   rw [hE]
   clear hE
   go_enter Tryz.func224,Tryz.ntmps224
   go_wp2_with fail
   refine c.mono ?_
   rintro e w1 ⟨rfl,b1⟩
   go_wp2_with fail
   go_ret
   exact ⟨rfl,b1⟩
set_option maxRecDepth 100000 in
set_option maxHeartbeats 2000000 in
theorem lines_long (a:Option Addr) (len cap:Nat) (w:World) (hl:65536 < len) :
  Calls Tryz.prog 182 #[.slice a len cap] w fun e w'=>e = .returned (.tuple #[.slice none 0 0,.agg #[.int .i64 2,.int .i64 0]]) ∧ Below w.heap.size w w':=by
 have hl':65536 < (len:Int):=by omega
 go_enter Tryz.func182,Tryz.ntmps182
 go_wp2_with fail
 go_returns
 exact ⟨rfl,(Below.refl _ _).alloc (Nat.le_refl _) _⟩
theorem spl_short (l:List UInt8):∀ y ∈ spl l,y.length ≤ l.length:=by
 induction l with
 | nil=>intro y hy; rw [List.mem_singleton.1 hy]; simp
 | cons c l ih =>
  intro y hy
  have e:spl (c :: l) = if c = 10 then [] :: spl l else put c (spl l):=rfl
  rw [e] at hy
  split at hy
  ·rcases List.mem_cons.1 hy with rfl | h
   ·simp
   ·have:=ih y h
    simp; omega
  ·cases hs:spl l with
   | nil=>exact absurd hs (spl_ne l)
   | cons x r =>
    rw [hs] at hy ih
    rcases List.mem_cons.1 hy with rfl | h
    ·have:=ih x (.head _)
     simp; omega
    ·have:=ih y (.tail _ h)
     simp; omega
theorem dl_sub:∀ (ls:List (List UInt8)),∀ y ∈ dl ls,y ∈ ls
 | [],y,h=>h
 | [x],y,h=>by
  unfold dl at h
  split at h
  ·cases h
  ·exact h
 | x :: z :: r,y,h=>by
  rcases List.mem_cons.1 h with rfl | h
  ·exact .head _
  ·exact .tail _ (dl_sub (z :: r) y h)
theorem LinesOf.line {s:ByteArray} {ls:List ByteArray} (h:LinesOf s ls) {i:Nat} (hi:i < ls.length):(ls.getD i ByteArray.empty).size ≤ s.size:=by
 have hm:(ls.getD i ByteArray.empty).data.toList ∈ ls.map (·.data.toList):=List.mem_map.2 ⟨_,by simp [hi],rfl⟩
 rw [h] at hm
 have:=spl_short _ _ (dl_sub _ _ hm)
 rw [len_list,len_list] at this
 exact this
theorem two_set {w:World} {g:Nat} {a b:Value} (h:Blk.Is w g 45 #[a,b]) (x y:Value):Blk.Is ((w.setCell ⟨g,0,none⟩ x).setCell ⟨g,1,none⟩ y) g 45 #[x,y]:=by
 have:=(h.set 0 x).set 1 y
 simpa using this
theorem one_set {w:World} {g:Nat} {a b:Value} (h:Blk.Is w g 45 #[a,b]) (x:Value):Blk.Is (w.setCell ⟨g,0,none⟩ x) g 45 #[x,b]:=by
 have:=h.set 0 x
 simpa using this
theorem texts_apart {w:World} {v:Value} {ls:List ByteArray} (h:Texts w v ls) {g:Nat} {p q:Int} (hi:Blk.Is w g 45 #[.int .i64 p,.int .i64 q]) (i:Nat) (u:Value):Texts (w.setCell ⟨g,i,none⟩ u) v ls:=by
 obtain ⟨h0,a,c,h1,h2,h3⟩:=h
 refine ⟨h0,a,c,h1,h2,fun hl=>?_⟩
 obtain ⟨b,off,h4,h5⟩:=h3 hl
 refine ⟨b,off,h4,fun j hj=>?_⟩
 have h6:=h5 j hj
 have hne:g ≠ b:=by
  rintro rfl
  rw [hi.cell] at h6
  rcases (by omega:off + j = 0 ∨ off + j = 1 ∨ 2 ≤ off + j) with e | e | e
  ·rw [e] at h6; cases h6
  ·rw [e] at h6; cases h6
  ·rw [Array.getElem?_eq_none (by simpa using e)] at h6; cases h6
 rw [World.cell?_setCell_other _ _ _ _ (fun e=>hne (Addr.mk.inj e).1)]
 exact h6
set_option maxRecDepth 100000 in
set_option maxHeartbeats 4000000 in
theorem lines_any (a:Option Addr) (len cap:Nat) (zs:List Int) (w:World) (hr:Row w a len zs) (hl:len ≤ 65536) (hT:Lib.Utf8Tabs 3 4 w) (hm:MaxLen w) :
  Calls Tryz.prog 182 #[.slice a len cap] w fun e w'=>∃ v ls er n,e = .returned (.tuple #[v,.agg #[.int .i64 (er:Nat),.int .i64 (n:Nat)]]) ∧ LRes (strOfNums zs) ls er n ∧ ls.length ≤ 65538 ∧ Texts w' v ls ∧ Below w.heap.size w w':=by
 have hl':¬ 65536 < (len:Int):=by omega
 have hlt:=tabs_lt hT
 have hml:=hm.lt
 have HT:=Lib.hid hT
 have HM:=Lib.hid hm
 have hsz:(strOfNums zs).size = len:=by rw [strOfNums_size]; exact hr.count
 have bA:Below w.heap.size w (w.alloc (.cells #[.int .i64 0,.int .i64 0] 45)):=(Below.refl _ _).alloc (Nat.le_refl _) _
 have hcv:=(hr.below bA).conv cap
 obtain ⟨S,hS⟩:∃ S,strOfNums zs = S:=⟨_,rfl⟩
 rw [hS] at hcv hsz ⊢
 clear hr hS hT hm
 go_enter Tryz.func182,Tryz.ntmps182
 go_wp2_with fail
 have iA:=Blk.Is.new w 45 #[.int .i64 0,.int .i64 0]
 have sA:w.heap.size < (w.alloc (.cells #[.int .i64 0,.int .i64 0] 45)).heap.size:=by simp
 obtain ⟨W,hW⟩:∃ W,w.alloc (.cells #[.int .i64 0,.int .i64 0] 45) = W:=⟨_,rfl⟩
 rw [hW] at iA bA sA ⊢
 have HW:=Lib.hid hW
 clear hcv hW
 refine (split_any S W (by omega) (HM.out.below bA hml)).mono ?_
 rintro e w1 ⟨v,ls,rfl,h1,hn1,t1,b1⟩
 have H1:=Lib.hid h1
 have T1:=Lib.hid t1
 have I1:=Lib.hid (show Blk.Is w1 w.heap.size 45 #[.int .i64 0,.int .i64 0] from (b1.block _ sA).trans iA)
 have B1:=Lib.hid (bA.trans (b1.mono bA.size))
 obtain ⟨hlen,a8,c8,rfl,hc8,p8⟩:=t1
 have P8:=Lib.hid p8
 obtain ⟨n,hn⟩:∃ n,ls.length = n:=⟨_,rfl⟩
 have HL:=Lib.hid hn
 rw [hn] at hlen hc8 P8 hn1 ⊢
 have hk1:w.heap.size < w1.heap.size:=Nat.lt_of_lt_of_le sA b1.size
 clear h1 p8 hn bA iA b1 HW sA
 go_wp2_with fail
 go_loopg [17] n (fun gf s17 wx=>∃ k:Nat,s17 = .int .i64 k ∧ Below w1.heap.size w1 wx ∧ k ≤ n ∧ n ≤ k + gf ∧ Hid (∀ j,j < k → E (ls.getD j ByteArray.empty) = 0))
 case atStart=>exact ⟨0,rfl,Below.refl _ _,by omega,by omega,fun j hj=>by omega⟩
 case round =>
  obtain ⟨k,rfl,hbw,hk1',hk2,HE⟩:=hrel
  have HBW:=Lib.hid hbw
  have hI:Blk.Is wr w.heap.size 45 #[.int .i64 0,.int .i64 0]:=(hbw.block _ hk1).trans I1.out
  by_cases hkn:k < n
  ·have hkn':(k:Int) < (n:Int):=by omega
   obtain ⟨blk,off,rfl,q8⟩:=P8.out (by omega)
   have x1:=q8 k hkn
   rw [← hbw.cell (lt_cell x1)] at x1
   obtain ⟨X,hX⟩:∃ X,ls.getD k ByteArray.empty = X:=⟨_,rfl⟩
   rw [hX] at x1
   have HX:=Lib.hid hX
   have HI:=Lib.hid hI
   have D1:=Lib.hid (B1.out.trans (HBW.out.mono (Nat.le_of_lt hk1)))
   have hxs:X.size ≤ 9223372036854775807:=by
    have h1:=H1.out.line (i:=k) (by rw [HL.out]; exact hkn)
    rw [HX.out] at h1
    omega
   clear hbw q8 hX hI
   go_wp2_with fail
   refine (check_any X wr hxs (tabs_below HT.out D1.out hlt)).mono ?_
   rintro e w2 ⟨rfl,b2⟩
   have hI2:Blk.Is w2 w.heap.size 45 #[.int .i64 0,.int .i64 0]:=(b2.block _ HI.out.lt).trans HI.out
   by_cases hE:E X = 0
   ·rw [hE]
    have HE2:=Lib.hid (show ∀ j,j < k + 1 → E (ls.getD j ByteArray.empty) = 0 from fun j hj=>by
     by_cases e:j = k
     ·rw [e,HX.out]; exact hE
     ·exact HE.out j (by omega))
    have HB2:=Lib.hid (HBW.out.trans (b2.mono HBW.out.size))
    clear hI2 hE HE b2
    go_wp2_with fail
    go_roundg (gk - 1)
    case measure=>omega
    case rel=>exact ⟨k + 1,by go_num,HB2.out,by omega,by omega,HE2⟩
   ·obtain ⟨er,her⟩:∃ er,E X = er:=⟨_,rfl⟩
    rw [her] at hE ⊢
    have hE0:¬ ((er:Int) = 0):=by omega
    have hE1:((er:Int) != 0) = true:=by simp; omega
    have HER:=Lib.hid her
    have HI2:=Lib.hid hI2
    have B2:=Lib.hid b2
    have i0:=hI2.at (i:=0) rfl
    have i1:=hI2.at (i:=1) rfl
    have f0:=hI2.free 0
    have f1:=hI2.free 1
    clear hI2 b2 her
    go_wp2_with fail
    have hF:Blk.Is ((w2.setCell ⟨w.heap.size,0,none⟩ (.int .i64 er)).setCell ⟨w.heap.size,1,none⟩ (.int .i64 ((k:Int) + 1))) w.heap.size 45 #[.int .i64 er,.int .i64 ((k:Int) + 1)]:=two_set HI2.out _ _
    have hB:Below w.heap.size w ((w2.setCell ⟨w.heap.size,0,none⟩ (.int .i64 er)).setCell ⟨w.heap.size,1,none⟩ (.int .i64 ((k:Int) + 1))) :=
     ((D1.out.trans (B2.out.mono D1.out.size)).setCell (p:=⟨w.heap.size,0,none⟩) (Nat.le_refl _) _).setCell (p:=⟨w.heap.size,1,none⟩) (Nat.le_refl _) _
    obtain ⟨V,hV⟩:∃ V,((w2.setCell ⟨w.heap.size,0,none⟩ (.int .i64 er)).setCell ⟨w.heap.size,1,none⟩ (.int .i64 ((k:Int) + 1))) = V:=⟨_,rfl⟩
    rw [hV] at hF hB ⊢
    have j0:V.cell? ⟨w.heap.size,0,none⟩ = some (.int .i64 er):=hF.at rfl
    have j1:V.cell? ⟨w.heap.size,1,none⟩ = some (.int .i64 ((k:Int) + 1)):=hF.at rfl
    clear i0 i1 f0 f1 hV
    refine bodyPost_ret (by simp [results,Tryz.results182,go_sem,j0,j1]; try rfl) rfl ?_
    refine ⟨_,[],er,k + 1,rfl,.inr ⟨rfl,hE,ls,k,H1.out,by rw [HL.out]; exact hkn,HE.out,by rw [HX.out]; exact HER.out,rfl⟩,by simp,Texts.none _,hB⟩
  ·have hkn':¬ (k:Int) < (n:Int):=by omega
   have i0:=hI.at (i:=0) rfl
   have i1:=hI.at (i:=1) rfl
   have f0:=hI.free 0
   have f1:=hI.free 1
   clear hbw
   go_wp2_with fail
   have hB0:=B1.out.trans (HBW.out.mono (Nat.le_of_lt hk1))
   have hF:Blk.Is ((wr.setCell ⟨w.heap.size,0,none⟩ (.int .i64 0)).setCell ⟨w.heap.size,1,none⟩ (.int .i64 0)) w.heap.size 45 #[.int .i64 0,.int .i64 0]:=two_set hI _ _
   have hB:Below w.heap.size w ((wr.setCell ⟨w.heap.size,0,none⟩ (.int .i64 0)).setCell ⟨w.heap.size,1,none⟩ (.int .i64 0)) :=
    (hB0.setCell (p:=⟨w.heap.size,0,none⟩) (Nat.le_refl _) _).setCell (p:=⟨w.heap.size,1,none⟩) (Nat.le_refl _) _
   have hT9:Texts ((wr.setCell ⟨w.heap.size,0,none⟩ (.int .i64 0)).setCell ⟨w.heap.size,1,none⟩ (.int .i64 0)) (.slice a8 n c8) ls:=by
    have t2:=T1.out.below HBW.out
    rw [HL.out] at t2
    exact texts_apart (texts_apart t2 hI 0 _) (one_set hI _) 1 _
   obtain ⟨V,hV⟩:∃ V,((wr.setCell ⟨w.heap.size,0,none⟩ (.int .i64 0)).setCell ⟨w.heap.size,1,none⟩ (.int .i64 0)) = V:=⟨_,rfl⟩
   rw [hV] at hF hB hT9 ⊢
   have j0:V.cell? ⟨w.heap.size,0,none⟩ = some (.int .i64 0):=hF.at rfl
   have j1:V.cell? ⟨w.heap.size,1,none⟩ = some (.int .i64 0):=hF.at rfl
   have HT9:=Lib.hid hT9
   clear i0 i1 f0 f1 hV hT9
   refine bodyPost_ret (by simp [results,Tryz.results182,go_sem,j0,j1]; try rfl) rfl ?_
   refine ⟨_,ls,0,0,rfl,.inl ⟨rfl,rfl,H1.out,fun i hi=>HE.out i (by rw [HL.out] at hi; omega)⟩,by rw [HL.out]; omega,HT9.out,hB⟩
end Txt
end Go.Proofs.YthmpepnikmdjpaaGreatDoor
namespace Go.Proofs.YthmpepnikmdjpaaGreatDoor
open Go.RowKit
set_option linter.unusedSimpArgs false
set_option linter.unusedVariables false
namespace Txt
theorem Row.part {w:World} {g off len:Nat} {zs:List Int} (h:Row w (some ⟨g,off,none⟩) len zs) (i j:Nat) (hij:i ≤ j) (hj:j ≤ len):Row w (some ⟨g,off + i,none⟩) (j - i) ((zs.drop i).take (j - i)):=by
 have hc:=h.count
 refine ⟨by rw [List.length_take,List.length_drop]; omega,by have:=h.short; omega,(h.byt.drop i).take _,fun h0=>?_⟩
 obtain ⟨b,o,e,h1,h2⟩:=h.cells (by omega)
 cases e
 refine ⟨_,_,rfl,h1,fun k hk=>?_⟩
 have:=h2 (i + k) (by omega)
 rw [Nat.add_assoc,this]
 congr 2
 simp [List.getD_eq_getElem?_getD,List.getElem?_take,List.getElem?_drop,hk]
def rest (s:ByteArray) (from':Nat):List (List UInt8):=dl (spl (s.data.toList.drop from'))
def mk (l:List UInt8):ByteArray:=⟨l.toArray⟩
end Txt
end Go.Proofs.YthmpepnikmdjpaaGreatDoor
namespace Go.Proofs.YthmpepnikmdjpaaGreatDoor
open Go.RowKit
set_option linter.unusedSimpArgs false
set_option linter.unusedVariables false
namespace Txt
theorem maxLen_of {w:World} (h:w.ShapedOpen Tryz.prog):MaxLen w :=
 cell_of_shapedOpen_int (P:=Tryz.prog) (g:=2) (t:=3) (zero:=#[.int .i64 0]) (k:=.i64) h (by decide +kernel) (by kernel_rfl) rfl (by kernel_rfl) (by kernel_rfl) Tryz.underlying3
def LR (s:ByteArray) (ls:List ByteArray) (e n:Nat):Prop:=if 65536 < s.size then ls = [] ∧ e = 2 ∧ n = 0 else LRes s ls e n
theorem LR.uniq {s:ByteArray} {ls ls':List ByteArray} {e e' n n':Nat} (h:LR s ls e n) (h':LR s ls' e' n'):ls = ls' ∧ e = e' ∧ n = n':=by
 unfold LR at h h'
 split at h
 ·next hc =>
  rw [if_pos hc] at h'
  obtain ⟨rfl,rfl,rfl⟩:=h
  obtain ⟨rfl,rfl,rfl⟩:=h'
  exact ⟨rfl,rfl,rfl⟩
 ·next hc =>
  rw [if_neg hc] at h'
  exact LRes.uniq h h'
theorem lines_all (a:Option Addr) (len cap:Nat) (zs:List Int) (w:World) (hr:Row w a len zs) (hT:Lib.Utf8Tabs 3 4 w) (hm:MaxLen w) :
  Calls Tryz.prog 182 #[.slice a len cap] w fun e w'=>∃ v ls er n,e = .returned (.tuple #[v,.agg #[.int .i64 (er:Nat),.int .i64 (n:Nat)]]) ∧ LR (strOfNums zs) ls er n ∧ ls.length ≤ 65538 ∧ Texts w' v ls ∧ Below w.heap.size w w':=by
 have hsz:(strOfNums zs).size = len:=by rw [strOfNums_size]; exact hr.count
 by_cases hl:65536 < len
 ·refine (lines_long a len cap w hl).mono fun e w' ⟨h1,h2⟩=>⟨_,[],2,0,h1,?_,by simp,Texts.none _,h2⟩
  unfold LR
  rw [if_pos (by omega)]
  exact ⟨rfl,rfl,rfl⟩
 ·refine (lines_any a len cap zs w hr (by omega) hT hm).mono fun e w' ⟨v,ls,er,n,h1,h2,h3,h4,h5⟩=>⟨v,ls,er,n,h1,?_,h3,h4,h5⟩
  unfold LR
  rw [if_neg (by omega)]
  exact h2
end Txt
end Go.Proofs.YthmpepnikmdjpaaGreatDoor
namespace Go.Proofs.YthmpepnikmdjpaaGreatDoor
open Go.RowKit
set_option linter.unusedSimpArgs false
set_option linter.unusedVariables false
namespace Stz
theorem infoStanza:(Tryz.prog.info? 40).map (fun i=>(i.zero,i.size,i.bytes)) = some (some (.agg #[.int .i64 0,.slice none 0 0]),2,32):=by kernel_rfl
theorem infoField:(Tryz.prog.info? 43).map (fun i=>(i.zero,i.size,i.bytes)) = some (some (.agg #[.string ByteArray.empty,.slice none 0 0]),2,40):=by kernel_rfl
theorem append_two {tS e:TypeId} {z:Value} {bytes:Nat} (hu:Tryz.prog.underlying tS = some (.slice e)) (hi:(Tryz.prog.info? e).map (fun i=>(i.zero,i.size,i.bytes)) = some (some z,2,bytes)) (hz:z.cells.size = 2) (hby:bytes ≤ 64)
  {w:World} {ops:Array Oper} {rest:List Oper} {o:Oper} {a:Act} {Q:Exit → Act → World → Prop} (hgd:o.guard = none) (s x:Operand)
  (ho:o.op = .call { callee:=.builtin .append,args:=#[s,x],argTypes:=#[tS,tS] })
  (B:Nat) (v:Value) (n:Nat) (xs:List Value) (hv:a.eval s = v) (hown:w.ownsRow B e 2 v n xs) (k:Nat) (c:Nat) (hx:a.eval x = .slice (some ⟨k,0,none⟩) 1 c) (c0 c1:Value) (h0:w.cell? ⟨k,0,none⟩ = some c0) (h1:w.cell? ⟨k,1,none⟩ = some c1)
  (o0:c0.oneCell' = true) (o1:c1.oneCell' = true) (hn:n + 1 ≤ 70000) (hB:B ≤ w.heap.size)
  (h:∀ v' w',w'.ownsRow B e 2 v' (n + 1) (xs ++ [c0,c1]) → w.grownBy w' v.ownBlock → wpList Tryz.prog ops Q rest (a.put o.dst v') w'):wpList Tryz.prog ops Q (o :: rest) a w:=by
 obtain ⟨i0,hi,hz0,hz1,hz2⟩:=info_parts hi
 have hsrc:Src Tryz.prog 2 tS (.slice (some ⟨k,0,none⟩) 1 c) 1 [c0,c1] w:=by
  refine Src.ofSlice w hu ⟨k,0,none⟩ 1 c [c0,c1] rfl (fun j u hj=>?_) (fun u hu=>?_)
  ·rcases (by have:=(List.getElem?_eq_some_iff.1 hj).1; simp at this; omega:j = 0 ∨ j = 1) with rfl | rfl
   ·simp at hj; rw [← hj]; simpa [Addr.add] using h0
   ·simp at hj; rw [← hj]; simpa [Addr.add] using h1
  ·simp only [List.mem_cons,List.not_mem_nil,or_false] at hu
   rcases hu with rfl | rfl
   ·exact o0
   ·exact o1
 have hmul:(n + 1) * bytes ≤ 70000 * 64:=Nat.mul_le_mul hn hby
 exact Own.wpList_append_src hgd s x tS tS ho B e i0 z 2 bytes hu hi hz0 hz1 hz2 hz v n xs hv hown _ 1 [c0,c1] hx hsrc (by simp only [maxLen]; omega) (by omega) hB h
theorem cut_colon (l:Bs):Lib.cut l [58] = (match cutL l with | none=>(l,[],false) | some (a,r)=>(a,r,true)):=by
 have key:∀ l:Bs,(cutL l = none ∧ Lib.index l [58] = -1) ∨ ∃ a r,cutL l = some (a,r) ∧ Lib.index l [58] = (a.length:Int) ∧ l = a ++ 58 :: r:=by
  intro l
  induction l with
  | nil=>exact .inl ⟨rfl,rfl⟩
  | cons c l ih =>
   have e1:Lib.index (c :: l) [58] = if ([58]:List UInt8).isPrefixOf (c :: l) then 0 else if Lib.index l [58] == -1 then -1 else Lib.index l [58] + 1:=rfl
   have e2:cutL (c :: l) = if c = 58 then some ([],l) else (cutL l).map fun p=>(c :: p.1,p.2):=rfl
   by_cases hc:c = 58
   ·subst hc
    exact .inr ⟨[],l,by rw [e2,if_pos rfl],by rw [e1]; rfl,rfl⟩
   ·have hp:([58]:List UInt8).isPrefixOf (c :: l) = false:=by
     simp [List.isPrefixOf]
     exact fun h=>hc h.symm
    rw [e1,e2,if_neg hc,hp]
    rcases ih with ⟨h1,h2⟩ | ⟨a,r,h1,h2,h3⟩
    ·left
     rw [h1,h2]
     exact ⟨rfl,rfl⟩
    ·right
     refine ⟨c :: a,r,by rw [h1]; rfl,?_,by rw [h3]; rfl⟩
     rw [h2]
     have:((a.length:Int) == -1) = false:=by rw [beq_eq_false_iff_ne]; omega
     simp [this]
 unfold Lib.cut
 rcases key l with ⟨h1,h2⟩ | ⟨a,r,h1,h2,h3⟩
 ·rw [h1,h2]; rfl
 ·rw [h1,h2,if_pos (by omega),Int.toNat_natCast]
  simp only
  rw [h3,List.take_left]
  congr 2
  show List.drop (a.length + 1) (a ++ 58 :: r) = r
  rw [← List.drop_drop,List.drop_left]
  rfl
theorem cut_any (s:ByteArray) (w:World) (hs:s.size < 4294967281) (hm:Txt.MaxLen w) :
  Calls Tryz.prog 184 #[.string s,.string ⟨#[58]⟩] w fun e w'=>e = .returned (match cutL s.data.toList with
   | none=>.tuple #[.string s,.string (S []),.bool false]
   | some (a,r)=>.tuple #[.string (S a),.string (S r),.bool true]) ∧ ∃ n,w' = w.drewN n:=by
 obtain ⟨m,hm⟩:=hm
 refine (Tryz.strings_Cut s ⟨#[58]⟩ m w hs hm).mono fun e w' h=>⟨?_,h.2⟩
 rw [h.1,show (⟨#[58]⟩:ByteArray).data.toList = [58] from rfl,cut_colon]
 cases cutL s.data.toList with
 | none =>
  show Ending.returned (.tuple #[.string (S s.data.toList),.string (S []),.bool false]) = _
  rw [S_self]
 | some p=>rfl
end Stz
end Go.Proofs.YthmpepnikmdjpaaGreatDoor

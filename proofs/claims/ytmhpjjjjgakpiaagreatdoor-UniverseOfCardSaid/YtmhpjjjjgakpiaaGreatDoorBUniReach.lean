/-
The reference's Reached.
-/
import Derived.Test.YtmhpjjjjgakpiaaGreatDoorBUniUnique
import Derived.Test.YtmhpjjjjgakpiaaGreatDoorBUniAwake
import Derived.Test.YtmhpjjjjgakpiaaGreatDoorBIxYSat
import Derived.Laws.MakeOwn
import Derived.Laws.OwnMore
namespace Go.Proofs.YtmhpjjjjgakpiaaGreatDoor
open Go.RowKit
set_option linter.unusedSimpArgs false
set_option linter.unusedVariables false
namespace Un
open Ver (Bs S S_size)
open Rl (At Slc Ats Clss LimA nA aV mem_getD)
open Rc (Pk nPk En nEn Pks Ens PkV PkC Has In Acc append_big infoPk in_low)
open Ix (LimAt sat MayP)
theorem infoB:(Tryz.prog.info? 4).map (fun i=>(i.zero,i.size,i.bytes)) = some (some (.bool false),1,1):=by kernel_rfl
def cellsB (n:Nat) (f:Nat → Bool):Array Value:=((List.range n).map fun j=>Value.bool (f j)).toArray
theorem cellsB_get {n:Nat} {f:Nat → Bool} {i:Nat} (hi:i < n):(cellsB n f)[i]? = some (.bool (f i)):=by
 unfold cellsB
 rw [← Array.getElem?_toList,List.getElem?_map,List.getElem?_range hi]
 rfl
theorem cellsB_set (n:Nat) (f:Nat → Bool) (i:Nat) (b:Bool):(cellsB n f).setIfInBounds i (.bool b) = cellsB n (fun j=>if j = i then b else f j):=by
 unfold cellsB
 apply Array.ext_getElem?
 intro k
 rw [Array.getElem?_setIfInBounds,← Array.getElem?_toList,← Array.getElem?_toList,List.getElem?_map,List.getElem?_map]
 by_cases hk:k < n
 ·rw [List.getElem?_range hk]
  by_cases e:i = k
  ·subst e; simp [hk]
  ·rw [if_neg e]; simp [Ne.symm e]
 ·rw [List.getElem?_eq_none (by rw [List.length_range]; omega)]
  by_cases e:i = k
  ·subst e; simp [hk]
  ·rw [if_neg e]; rfl
theorem cellsB_eq {n:Nat} {f g:Nat → Bool} (h:∀ j,j < n → f j = g j):cellsB n f = cellsB n g:=by
 unfold cellsB
 congr 1
 exact List.map_congr_left fun j hj=>by rw [h j (List.mem_range.1 hj)]
theorem made_false (n:Nat):madeCells (Value.bool false).cells n = cellsB n (fun _=>false):=by
 apply Array.ext'
 have e:(Value.bool false).cells = #[Value.bool false]:=rfl
 rw [e,toList_madeCells_one]
 unfold cellsB
 show List.replicate n (Value.bool false) = (List.range n).map fun _=>Value.bool false
 rw [List.map_const',List.length_range]
structure RS (w wx:World) (gi n:Nat) (f:Nat → Bool) (va:Option Addr) (L vc:Nat) (W:List Bs):Prop where
 inb:Blk.Is wx gi 4 (cellsB n f)
 row:wx.ownsRow w.heap.size 9 1 (.slice va L vc) L (tx W)
 bel:Below w.heap.size w wx
 hgi:w.heap.size ≤ gi
theorem RS.len {w wx:World} {gi n:Nat} {f:Nat → Bool} {va:Option Addr} {L vc:Nat} {W:List Bs} (h:RS w wx gi n f va L vc W):W.length = L:=by
 have:=h.row.1
 rw [tx_len] at this
 omega
theorem RS.below {w wx wy:World} {gi n:Nat} {f:Nat → Bool} {va:Option Addr} {L vc:Nat} {W:List Bs} (h:RS w wx gi n f va L vc W) (hb:Below wx.heap.size wx wy):RS w wy gi n f va L vc W :=
 ⟨Rl.is_on h.inb hb,Own.owns_below h.row hb,h.bel.trans (hb.mono h.bel.size),h.hgi⟩
theorem RS.eq {w wx:World} {gi n:Nat} {f g:Nat → Bool} {va:Option Addr} {L vc:Nat} {W:List Bs} (h:RS w wx gi n f va L vc W) (e:∀ j,j < n → f j = g j):RS w wx gi n g va L vc W :=
 ⟨by rw [← cellsB_eq e]; exact h.inb,h.row,h.bel,h.hgi⟩
theorem RS.ne {w wx:World} {gi n:Nat} {f:Nat → Bool} {va:Option Addr} {L vc:Nat} {W:List Bs} (h:RS w wx gi n f va L vc W) {b:Nat} {T:TypeId} {cs:Array Value} (hb:Blk.Is wx b T cs) (hT:T ≠ 9):(Value.slice va L vc).ownBlock ≠ some b:=fun e=>by
 obtain ⟨ds,hd⟩:=Rl.own_is h.row e
 exact hT (hb.inj hd).1
theorem RS.app {w w4 w5:World} {gi n:Nat} {f:Nat → Bool} {va:Option Addr} {L vc:Nat} {W:List Bs} (h:RS w w4 gi n f va L vc W) {s:Bs} {v5:Value} (o5:w5.ownsRow w.heap.size 9 1 v5 (L + 1) (tx W ++ [.string (S s)])) (g5:w4.grownBy w5 (Value.slice va L vc).ownBlock) :
  (∃ g c,v5 = .slice (some ⟨g,0,none⟩) (L + 1) c ∧ RS w w5 gi n f (some ⟨g,0,none⟩) (L + 1) c (W ++ [s])) ∧ ∀ b T cs,Blk.Is w4 b T cs → T ≠ 9 → Blk.Is w5 b T cs:=by
 have keep:∀ b T cs,Blk.Is w4 b T cs → T ≠ 9 → Blk.Is w5 b T cs:=fun b T cs hb hT =>
  ((Blk.Chg.refl (fun k=>(Value.slice va L vc).ownBlock = some k) w4).grown g5 fun k hk _=>hk).is hb (h.ne hb hT)
 obtain ⟨g,c,e,_⟩:=Rl.own_slice o5 (by omega)
 subst e
 exact ⟨⟨g,c,rfl,keep _ _ _ h.inb (by decide),by rw [tx_app]; exact o5,Own.below_grown h.bel h.row g5 h.bel.size,h.hgi⟩,keep⟩
theorem RS.set {w wx:World} {gi n:Nat} {f:Nat → Bool} {va:Option Addr} {L vc:Nat} {W:List Bs} (h:RS w wx gi n f va L vc W) (i:Nat) (b:Bool) :
  RS w (wx.setCell ⟨gi,i,none⟩ (.bool b)) gi n (fun j=>if j = i then b else f j) va L vc W ∧ ∀ k T cs,Blk.Is wx k T cs → T ≠ 4 → Blk.Is (wx.setCell ⟨gi,i,none⟩ (.bool b)) k T cs:=by
 have hc:Blk.Chg (fun k=>k = gi) wx (wx.setCell ⟨gi,i,none⟩ (.bool b)):=(Blk.Chg.refl _ wx).setAt rfl
 refine ⟨⟨by rw [← cellsB_set]; exact h.inb.set i _,hc.owns h.row fun k hk e=>h.ne h.inb (by decide) (e ▸ hk),h.bel.trans (hc.below (fun k hk=>by have:=h.hgi; omega) h.bel.size),h.hgi⟩,fun k T cs hk hT=>hc.is hk fun e=>?_⟩
 subst e
 exact hT (hk.inj h.inb).1
theorem wrap_one {n:Nat} (h:n ≤ 24):wrap64 ((n:Int) + 1) = (n:Int) + 1:=by unfold wrap64; omega
def mk (all:List Pk) (f:Nat → Bool) (W:List Bs) (i:Nat):Nat → Bool:=fun j=>f j || (decide (j < i) && decide (nmA all j ∈ W))
def mk4 (all:List Pk) (f:Nat → Bool) (W:List Bs) (i k:Nat):Nat → Bool:=fun j=>if j = i then (f i || decide (nmA all i ∈ W.take k)) else mk all f W i j
theorem mk_zero (all:List Pk) (f:Nat → Bool) (W:List Bs) (j:Nat):f j = mk all f W 0 j:=by unfold mk; simp
theorem mk_start (all:List Pk) (f:Nat → Bool) (W:List Bs) (i j:Nat):mk all f W i j = mk4 all f W i 0 j:=by
 unfold mk4
 by_cases e:j = i
 ·subst e; unfold mk; simp
 ·rw [if_neg e]
theorem mk_end (all:List Pk) (f:Nat → Bool) (W:List Bs) (i L:Nat) (hL:W.length = L) (j:Nat):mk4 all f W i L j = mk all f W (i + 1) j:=by
 unfold mk4
 rw [List.take_of_length_le (Nat.le_of_eq hL)]
 by_cases e:j = i
 ·subst e; unfold mk; simp
 ·rw [if_neg e]
  unfold mk
  have:decide (j < i + 1) = decide (j < i):=decide_eq_decide.2 (by omega)
  rw [this]
theorem mk_all (all:List Pk) (f:Nat → Bool) (W:List Bs) (n j:Nat) (hj:j < n):mk all f W n j = mark all f W j:=by
 unfold mk mark
 rw [decide_eq_true hj,Bool.true_and]
theorem mk4_step {all:List Pk} {f:Nat → Bool} {W:List Bs} {i k:Nat} {y:Bs} (hy:W[k]? = some y) (b:Bool) (hb:b = (mk4 all f W i k i || decide (nmA all i = y))) (j:Nat):(if j = i then b else mk4 all f W i k j) = mk4 all f W i (k + 1) j:=by
 have htk:W.take (k + 1) = W.take k ++ [y]:=by rw [List.take_add_one,hy]; rfl
 by_cases e:j = i
 ·subst e
  rw [if_pos rfl,hb]
  unfold mk4
  rw [if_pos rfl,if_pos rfl,htk,Bool.or_assoc]
  congr 1
  by_cases e1:nmA all j ∈ W.take k
  ·simp [e1]
  ·by_cases e2:nmA all j = y
   ·simp [e2]
   ·simp [e1,e2]
 ·rw [if_neg e]
  unfold mk4
  rw [if_neg e,if_neg e]
theorem texts_slc {w:World} {v:Value} {l:List Bs} (h:Txt.Texts w v (l.map S)) (hl:l.length ≤ 60000):Slc 1 [] (fun w k o (s:Bs)=>w.cell? ⟨k,o,none⟩ = some (.string (S s))) w v l:=by
 obtain ⟨_,a,cap,rfl,hc,hr⟩:=h
 rw [List.length_map] at hc hr ⊢
 refine ⟨by omega,a,cap,rfl,hc,fun h0=>?_⟩
 obtain ⟨b,off,e,hh⟩:=hr h0
 refine ⟨b,off,e,fun i hi=>?_⟩
 have:=hh i hi
 show w.cell? ⟨b,off + 1 * i,none⟩ = _
 rw [Nat.one_mul,this]
 simp [List.getD_eq_getElem?_getD,hi]
theorem tx_flat (l:List Bs):(l.flatMap fun s:Bs=>[Value.string (S s)]) = tx l:=by
 unfold tx
 induction l with
 | nil=>rfl
 | cons x r ih=>rw [List.flatMap_cons,ih]; rfl
theorem texts_src {w:World} {v:Value} {l:List Bs} (h:Txt.Texts w v (l.map S)) (hl:l.length ≤ 60000):Src Tryz.prog 1 32 v l.length (tx l) w:=by
 rw [← tx_flat]
 exact Va.slc_src (sz:=1) (by omega) (fun s:Bs=>[Value.string (S s)]) (fun _=>rfl) (fun w k o s hs j u hj=>by cases j with | zero=>(simp at hj; subst hj; exact hs) | succ j=>simp at hj) (fun s u hu=>by simp at hu; rw [hu]; rfl) Tryz.underlying32 (texts_slc h hl)
set_option maxRecDepth 100000 in
set_option maxHeartbeats 64000000 in
theorem yreached_any (v0 v1 v2:Value) (all:List Pk) (s:List En) (ns:List Bs) (w:World) (h0:Pks w v0 all) (h1:Ens w v1 s) (h2:Txt.Texts w v2 (ns.map S)) (hL:∀ x ∈ all,x.Lim) (hM:∀ x ∈ all,MayP x) (hn:all.length ≤ 24) (hs:s.length ≤ 10) (hns:ns.length ≤ 20)
  (WF:List Bs) (hW:Reaches all (ns ++ s.map fun x=>x.pk.nm) WF) :
  Calls Tryz.prog 14 #[v0,v1,v2] w fun e w'=>∃ v',e = .returned v' ∧ Pks w' v' (inW WF all) ∧ Below w.heap.size w w':=by
 have H2:=Lib.hid h2
 obtain ⟨a0,c0,rfl⟩:=h0.shape
 obtain ⟨a1,c1,rfl⟩:=h1.shape
 obtain ⟨hx2,a2,c2,rfl,hc2,_⟩:=id h2
 have H0:=Lib.hid h0
 have H1:=Lib.hid h1
 have HL:=Lib.hid hL
 have HMY:=Lib.hid hM
 have HWF:=Lib.hid hW
 obtain ⟨n,hn1⟩:∃ n,all.length = n:=⟨_,rfl⟩
 obtain ⟨m,hm1⟩:∃ m,s.length = m:=⟨_,rfl⟩
 obtain ⟨pn,hp1⟩:∃ pn,ns.length = pn:=⟨_,rfl⟩
 have HN:=Lib.hid hn1
 have HMN:=Lib.hid hm1
 have HPN:=Lib.hid hp1
 rw [hn1] at hn H0 ⊢
 rw [hm1] at hs H1 ⊢
 rw [hp1] at hns
 rw [List.length_map,hp1] at hc2 hx2 H2 ⊢
 obtain ⟨iB,hiB,hzB,hsB,hbB⟩:=info_parts infoB
 have hmk:=run_make (P:=Tryz.prog) w 44 4 iB (.bool false) Tryz.underlying44 hiB hzB .i64 .i64 (n:Int) (n:Int) (by omega) (Int.le_refl _) (by rw [hbB]; omega) (by omega)
 simp only [Int.toNat_natCast] at hmk
 rw [hsB,Nat.mul_one,made_false] at hmk
 have hbA:=(Below.refl w.heap.size w).alloc (Nat.le_refl _) (.cells (cellsB n fun _=>false) 4)
 have iA:=Blk.Is.new w 4 (cellsB n fun _=>false)
 obtain ⟨WA,hWA⟩:∃ WA,w.alloc (.cells (cellsB n fun _=>false) 4) = WA:=⟨_,rfl⟩
 rw [hWA] at hmk hbA iA
 have hsrc:=texts_src (H2.out.below hbA) (by rw [HPN.out]; omega)
 rw [HPN.out] at hsrc
 have SRC:=Lib.hid hsrc
 have OWN:=Lib.hid (World.ownsRow_nil WA w.heap.size 9 1)
 have IA:=Lib.hid iA
 have BA:=Lib.hid hbA
 have hsz:=hbA.size
 obtain ⟨i0,hi,hz0,hz1,hz2⟩:=info_parts infoTx
 have HI:=Lib.hid hi
 obtain ⟨CS,hCS⟩:∃ CS,tx ns = CS:=⟨_,rfl⟩
 have HCS:=Lib.hid hCS
 rw [hCS] at SRC
 clear h0 h1 h2 hL hM hW hn1 hm1 hp1 hsrc hiB hzB hsB hbB hbA iA hWA hi hCS
 go_enter Tryz.func14,Tryz.ntmps14
 go_wp2_with (first | (refine Own.wpList_append_src rfl (.const (.slice none 0 0)) (.tmp 31) 32 32 rfl w.heap.size 9 i0 _ 1 16 Tryz.underlying32 HI.out hz0 hz1 hz2 rfl _ 0 [] rfl OWN.out _ pn CS rfl SRC.out (by simp only [maxLen]; omega) (by omega) hsz ?_; intro v9 w9 o9 g9; have o9:w9.ownsRow w.heap.size 9 1 v9 pn CS:=(by simpa using o9); obtain ⟨va0,vc0,rfl,_⟩:=Rl.own_shape o9; have rs0:RS w w9 w.heap.size n (fun _=>false) va0 pn vc0 ns:=⟨((Blk.Chg.refl (fun _=>False) WA).grown g9 (fun k hk _=>by cases hk)).is IA.out (fun h=>h),by rw [HCS.out]; exact o9,Own.below_grown BA.out OWN.out g9 hsz,Nat.le_refl _⟩; have R0:=Lib.hid rs0; clear o9 g9 rs0 hmk) | fail)
 obtain ⟨sd,hsd⟩:∃ sd,ns ++ s.map (fun x=>x.pk.nm) = sd:=⟨_,rfl⟩
 rw [hsd] at HWF
 have HSD:=Lib.hid hsd
 clear hsd
 go_wp2_with fail
 go_loopg [8,35] m (fun gf s8 s35 wx=>∃ (k L:Nat) (va:Option Addr) (vc:Nat),s8 = .slice va L vc ∧ s35 = .int .i64 k ∧ Hid (RS w wx w.heap.size n (fun _=>false) va L vc (ns ++ (s.take k).map fun x=>x.pk.nm)) ∧ L ≤ 20 + k ∧ k ≤ m ∧ m ≤ k + gf)
 case atStart=>exact ⟨0,pn,va0,vc0,rfl,rfl,by rw [List.take_zero,List.map_nil,List.append_nil]; exact R0,by omega,by omega,by omega⟩
 case round =>
  rename World=>wk
  obtain ⟨k,L,va,vc,rfl,rfl,HR,hLk,hkn,hfu⟩:=hrel
  by_cases hlt:k < m
  ·obtain ⟨g',rfl⟩:∃ g',gk = g' + 1:=⟨gk - 1,by omega⟩
   have hlt':(k:Int) < (m:Int):=by omega
   have hk0:(0:Int) ≤ k:=by omega
   have hkl:k < s.length:=by rw [HMN.out]; exact hlt
   obtain ⟨_,a',cap',e1,_,hcells⟩:=H1.out
   rw [HMN.out] at e1
   simp only [Value.slice.injEq,true_and] at e1
   obtain ⟨rfl,rfl⟩:=e1
   obtain ⟨kb,off,rfl,hcl2⟩:=hcells (by omega)
   obtain ⟨d1,e1,f1,d2,e2,f2,d3,e3,f3,d4,e4,f4,d5,e5,f5,d6,e6,f6,⟨x0,x1,x2,x3,x4,x5,x6,x7,x8,x9,x10⟩,hh⟩:=Rc.en_read (hcl2 k hkl)
   rw [Nat.mul_comm 11 k] at x0 x1 x2 x3 x4 x5 x6 x7 x8 x9 x10
   replace x0:=Rl.cell_on x0 HR.out.bel
   replace x1:=Rl.cell_on x1 HR.out.bel
   replace x2:=Rl.cell_on x2 HR.out.bel
   replace x3:=Rl.cell_on x3 HR.out.bel
   replace x4:=Rl.cell_on x4 HR.out.bel
   replace x5:=Rl.cell_on x5 HR.out.bel
   replace x6:=Rl.cell_on x6 HR.out.bel
   replace x7:=Rl.cell_on x7 HR.out.bel
   replace x8:=Rl.cell_on x8 HR.out.bel
   replace x9:=Rl.cell_on x9 HR.out.bel
   replace x10:=Rl.cell_on x10 HR.out.bel
   have ht:=take_snoc (z:=nEn) hkl
   obtain ⟨x,hx⟩:∃ x,s.getD k nEn = x:=⟨_,rfl⟩
   rw [hx] at x0 x1 x8 x9 x10 ht
   obtain ⟨W,hW⟩:∃ W,ns ++ (s.take k).map (fun x=>x.pk.nm) = W:=⟨_,rfl⟩
   have hnext:ns ++ (s.take (k + 1)).map (fun x=>x.pk.nm) = W ++ [x.pk.nm]:=by
    rw [ht,List.map_append,← List.append_assoc,hW]; rfl
   rw [hW] at HR
   have hb2:=(Below.refl wk.heap.size wk).alloc (Nat.le_refl _) (.cells #[.string (S x.pk.nm),.string (S x.pk.vs),.slice d1 e1 f1,.slice d2 e2 f2,.slice d3 e3 f3,.slice d4 e4 f4,.slice d5 e5 f5,.slice d6 e6 f6,.bool x.pk.ess,.bool x.cfg,.bool x.hld] 52)
   have i2:=Blk.Is.new wk 52 #[.string (S x.pk.nm),.string (S x.pk.vs),.slice d1 e1 f1,.slice d2 e2 f2,.slice d3 e3 f3,.slice d4 e4 f4,.slice d5 e5 f5,.slice d6 e6 f6,.bool x.pk.ess,.bool x.cfg,.bool x.hld]
   obtain ⟨V1,hV1⟩:∃ V1,wk.alloc (.cells #[.string (S x.pk.nm),.string (S x.pk.vs),.slice d1 e1 f1,.slice d2 e2 f2,.slice d3 e3 f3,.slice d4 e4 f4,.slice d5 e5 f5,.slice d6 e6 f6,.bool x.pk.ess,.bool x.cfg,.bool x.hld] 52) = V1:=⟨_,rfl⟩
   rw [hV1] at hb2 i2
   have z0:=i2.at (i:=0) rfl
   have hb4:=(Below.refl V1.heap.size V1).alloc (Nat.le_refl _) (.cells #[.string (S x.pk.nm)] 9)
   have i4:=Blk.Is.new V1 9 #[.string (S x.pk.nm)]
   obtain ⟨W4,hW4⟩:∃ W4,V1.alloc (.cells #[.string (S x.pk.nm)] 9) = W4:=⟨_,rfl⟩
   rw [hW4] at hb4 i4
   have R4:=Lib.hid ((HR.out.below hb2).below hb4)
   have C0:=Lib.hid (i4.at (i:=0) rfl)
   have HW4:=Lib.hid hW4
   have HNX:=Lib.hid hnext
   have hu:=hV1
   clear hcells hcl2 hh ht hx hW hnext hb2 i2 hV1 hb4 i4 hW4 hkl
   go_wp2_with (at_builtin; (try rw [HW4.out]); refine append_txb rfl (.tmp 39) (.tmp 43) rfl w.heap.size (.slice va L vc) L (tx W) rfl R4.out.row V1.heap.size 1 rfl (.string (S x.pk.nm)) C0.out rfl (by omega) R4.out.bel.size ?_; intro v5 w5 o5 g5 l5; obtain ⟨⟨gg,gc,rfl,rs5⟩,keep5⟩:=R4.out.app o5 g5; have R5:=Lib.hid rs5; clear o5 g5 l5 rs5 keep5)
   go_roundg g'
   case measure=>omega
   case rel=>exact ⟨k + 1,L + 1,_,_,rfl,by go_num,by rw [HNX.out]; exact R5,by omega,by omega,by omega⟩
  ·have hge:¬ (m:Int) < (m:Int):=by omega
   obtain rfl:m = k:=by omega
   have hfull:ns ++ (s.take m).map (fun x=>x.pk.nm) = sd:=by rw [List.take_of_length_le (Nat.le_of_eq HMN.out),HSD.out]
   rw [hfull] at HR
   have hLs:L ≤ 30:=by omega
   have RD0:Hid (Rd all sd 0 (fun _=>false) sd):=Rd.start fun _=>Iff.rfl
   have hsdl:sd.length ≤ 30:=by rw [HR.out.len]; omega
   have HW1:=Lib.hid (wrap_one hn)
   clear hfull hLk hkn hfu
   go_upto_region 8 with fail
   go_wp2_with fail
   go_loopg [8,49] (n + 1) (fun gf s8 s49 wx=>∃ (r L:Nat) (va:Option Addr) (vc:Nat) (f:Nat → Bool) (W:List Bs),s8 = .slice va L vc ∧ s49 = .int .i64 r ∧ Hid (RS w wx w.heap.size n f va L vc W) ∧ Hid (Rd all sd r f W) ∧ L ≤ 2000 ∧ r ≤ n + 1 ∧ n + 1 ≤ r + gf)
   case atStart=>exact ⟨0,L,va,vc,_,sd,rfl,rfl,HR,RD0,by omega,by omega,by omega⟩
   case round =>
    rename World=>wr2
    clear HR RD0 HW1
    obtain ⟨r,L,va,vc,f,W,rfl,rfl,HR,HD,hL2,hrn,hfr⟩:=hrel
    by_cases hltr:r < n + 1
    ·obtain ⟨gA,rfl⟩:∃ g2,gk = g2 + 1:=⟨gk - 1,by omega⟩
     have hltr':(r:Int) < (n:Int) + 1:=by omega
     have hr0:(0:Int) ≤ r:=by omega
     go_wp2_with fail
     go_loopg [53] n (fun gf s53 wx=>∃ i:Nat,s53 = .int .i64 i ∧ Hid (RS w wx w.heap.size n (mk all f W i) va L vc W) ∧ i ≤ n ∧ n ≤ i + gf)
     case atStart=>exact ⟨0,rfl,Lib.hid (HR.out.eq fun j _=>mk_zero all f W j),by omega,by omega⟩
     case round =>
      rename World=>w3
      obtain ⟨i,rfl,HI3,hin,hfi⟩:=hrel
      by_cases hlti:i < n
      ·obtain ⟨gB,rfl⟩:∃ g2,gk = g2 + 1:=⟨gk - 1,by omega⟩
       have hlt':(i:Int) < (n:Int):=by omega
       have hk0:(0:Int) ≤ i:=by omega
       have hil:i < all.length:=by rw [HN.out]; omega
       obtain ⟨_,a',cap',e1,_,hcells⟩:=H0.out
       rw [HN.out] at e1
       simp only [Value.slice.injEq,true_and] at e1
       obtain ⟨rfl,rfl⟩:=e1
       obtain ⟨kb,off,rfl,hcl2⟩:=hcells (by omega)
       obtain ⟨d1,e1,f1,d2,e2,f2,d3,e3,f3,d4,e4,f4,d5,e5,f5,d6,e6,f6,⟨x0,x1,x2,x3,x4,x5,x6,x7,x8⟩,hh⟩:=Rc.pk_read (hcl2 i hil)
       rw [Nat.mul_comm 9 i] at x0 x1 x2 x3 x4 x5 x6 x7 x8
       replace x0:=Rl.cell_on x0 HI3.out.bel
       replace x1:=Rl.cell_on x1 HI3.out.bel
       replace x2:=Rl.cell_on x2 HI3.out.bel
       replace x3:=Rl.cell_on x3 HI3.out.bel
       replace x4:=Rl.cell_on x4 HI3.out.bel
       replace x5:=Rl.cell_on x5 HI3.out.bel
       replace x6:=Rl.cell_on x6 HI3.out.bel
       replace x7:=Rl.cell_on x7 HI3.out.bel
       replace x8:=Rl.cell_on x8 HI3.out.bel
       have hnmx:nmA all i = (all.getD i nPk).nm:=rfl
       obtain ⟨x,hx⟩:∃ x,all.getD i nPk = x:=⟨_,rfl⟩
       rw [hx] at x0 x1 x8 hh hnmx
       have hb2:=(Below.refl w3.heap.size w3).alloc (Nat.le_refl _) (.cells #[.string (S x.nm),.string (S x.vs),.slice d1 e1 f1,.slice d2 e2 f2,.slice d3 e3 f3,.slice d4 e4 f4,.slice d5 e5 f5,.slice d6 e6 f6,.bool x.ess] 40)
       have i2:=Blk.Is.new w3 40 #[.string (S x.nm),.string (S x.vs),.slice d1 e1 f1,.slice d2 e2 f2,.slice d3 e3 f3,.slice d4 e4 f4,.slice d5 e5 f5,.slice d6 e6 f6,.bool x.ess]
       obtain ⟨V0,hV0⟩:∃ V0,w3.alloc (.cells #[.string (S x.nm),.string (S x.vs),.slice d1 e1 f1,.slice d2 e2 f2,.slice d3 e3 f3,.slice d4 e4 f4,.slice d5 e5 f5,.slice d6 e6 f6,.bool x.ess] 40) = V0:=⟨_,rfl⟩
       rw [hV0] at hb2 i2
       have R3:=Lib.hid ((HI3.out.below hb2).eq fun j _=>mk_start all f W i j)
       have I2:=Lib.hid i2
       have HNMX:=Lib.hid hnmx
       obtain ⟨bx,hbx⟩:∃ bx,w3.heap.size = bx:=⟨_,rfl⟩
       rw [hbx] at I2
       have hu:=hV0
       clear hcells hcl2 hh hx hb2 i2 hV0 hnmx hil HI3
       go_wp2_with fail
       clear hu x0 x1 x2 x3 x4 x5 x6 x7 x8 hbx
       go_loopg [60] L (fun gf s60 wx=>∃ k:Nat,s60 = .int .i64 k ∧ Hid (RS w wx w.heap.size n (mk4 all f W i k) va L vc W) ∧ Hid (Blk.Is wx bx 40 #[.string (S x.nm),.string (S x.vs),.slice d1 e1 f1,.slice d2 e2 f2,.slice d3 e3 f3,.slice d4 e4 f4,.slice d5 e5 f5,.slice d6 e6 f6,.bool x.ess]) ∧ k ≤ L ∧ L ≤ k + gf)
       case atStart=>exact ⟨0,rfl,R3,I2,by omega,by omega⟩
       case round =>
        rename World=>w4
        obtain ⟨k,rfl,HK,HI4,hkn,hfk⟩:=hrel
        by_cases hltk:k < L
        ·obtain ⟨gC,rfl⟩:∃ g2,gk = g2 + 1:=⟨gk - 1,by omega⟩
         have hltk':(k:Int) < (L:Int):=by omega
         have hkk:(0:Int) ≤ k:=by omega
         obtain ⟨gb,gc,e2,_⟩:=Rl.own_slice HK.out.row (by omega)
         simp only [Value.slice.injEq,true_and] at e2
         obtain ⟨rfl,rfl⟩:=e2
         obtain ⟨y,hy⟩:∃ y,W[k]? = some y:=⟨W[k]'(by rw [HK.out.len]; exact hltk),List.getElem?_eq_getElem _⟩
         have y0:=Rl.own_cell HK.out.row (i:=k) (u:=.string (S y)) (by unfold tx; rw [List.getElem?_map,hy]; rfl)
         have b0:=HK.out.inb.at (cellsB_get hlti)
         have bf:=HK.out.inb.free i
         have p0:=HI4.out.at (i:=0) rfl
         have hq:((S x.nm).toList == (S y).toList) = decide (x.nm = y):=Rl.S_beq _ _
         obtain ⟨B1,hB1⟩:∃ B1,mk4 all f W i k i = B1:=⟨_,rfl⟩
         obtain ⟨B2,hB2⟩:∃ B2,decide (x.nm = y) = B2:=⟨_,rfl⟩
         have hst:=fun b (hb:b = (B1 || B2)) j=>mk4_step (all:=all) (f:=f) (i:=i) hy b (by rw [hB1,HNMX.out,hB2]; exact hb) j
         rw [hB1] at b0
         rw [hB2] at hq
         have HST:Hid (∀ b,b = (B1 || B2) → Hid (RS w (w4.setCell ⟨w.heap.size,i,none⟩ (.bool b)) w.heap.size n (mk4 all f W i (k + 1)) (some ⟨gb,0,none⟩) L vc W) ∧ Hid (Blk.Is (w4.setCell ⟨w.heap.size,i,none⟩ (.bool b)) bx 40 #[.string (S x.nm),.string (S x.vs),.slice d1 e1 f1,.slice d2 e2 f2,.slice d3 e3 f3,.slice d4 e4 f4,.slice d5 e5 f5,.slice d6 e6 f6,.bool x.ess])):=fun b hb=>by
          obtain ⟨h1,h2⟩:=HK.out.set i b
          exact ⟨h1.eq fun j _=>hst b hb j,h2 _ _ _ HI4.out (by decide)⟩
         clear hy hB1 hB2 hst
         cases B1 with
         | true =>
          obtain ⟨f1,f2⟩:=HST.out true rfl
          go_wp2_with fail
          go_roundg gC
          case measure=>omega
          case rel=>exact ⟨k + 1,by go_num,f1,f2,by omega,by omega⟩
         | false =>
          cases B2 with
          | true =>
           obtain ⟨f1,f2⟩:=HST.out true rfl
           go_wp2_with fail
           go_roundg gC
           case measure=>omega
           case rel=>exact ⟨k + 1,by go_num,f1,f2,by omega,by omega⟩
          | false =>
           obtain ⟨f1,f2⟩:=HST.out false rfl
           go_wp2_with fail
           go_roundg gC
           case measure=>omega
           case rel=>exact ⟨k + 1,by go_num,f1,f2,by omega,by omega⟩
        ·have hgek:¬ (L:Int) < (L:Int):=by omega
         obtain rfl:L = k:=by omega
         have R4:=Lib.hid (HK.out.eq fun j _=>mk_end all f W i L HK.out.len j)
         clear HK HI4 R3 I2
         go_wp2_with fail
         go_roundg gB
         case measure=>omega
         case rel=>exact ⟨i + 1,by go_num,R4,by omega,by omega⟩
      ·have hgei:¬ (n:Int) < (n:Int):=by omega
       obtain rfl:n = i:=by omega
       have R5:=Lib.hid (HI3.out.eq fun j hj=>mk_all all f W n j hj)
       obtain ⟨f',hf'⟩:∃ f',mark all f W = f':=⟨_,rfl⟩
       have HF':=Lib.hid hf'
       rw [hf'] at R5
       clear hf' HI3 HR hin hfi
       go_wp2_with fail
       go_loopg [8,81] n (fun gf s8 s81 wx=>∃ (i L5:Nat) (va:Option Addr) (vc:Nat),s8 = .slice va L5 vc ∧ s81 = .int .i64 i ∧ Hid (RS w wx w.heap.size n f' va L5 vc (W ++ Hn all f' i)) ∧ L5 ≤ 2000 + 5184 * i ∧ i ≤ n ∧ n ≤ i + gf)
       case atStart=>exact ⟨0,L,va,vc,rfl,rfl,Lib.hid (by have:=R5.out; simpa [Hn] using this),by omega,by omega,by omega⟩
       case round =>
        rename World=>w5
        clear R5
        obtain ⟨i,L5,va,vc,rfl,rfl,HI5,hL5,hin,hfi⟩:=hrel
        by_cases hlti:i < n
        ·obtain ⟨gB,rfl⟩:∃ g2,gk = g2 + 1:=⟨gk - 1,by omega⟩
         have hlt':(i:Int) < (n:Int):=by omega
         have hk0:(0:Int) ≤ i:=by omega
         have hil:i < all.length:=by rw [HN.out]; omega
         obtain ⟨_,a',cap',e1,_,hcells⟩:=H0.out
         rw [HN.out] at e1
         simp only [Value.slice.injEq,true_and] at e1
         obtain ⟨rfl,rfl⟩:=e1
         obtain ⟨kb,off,rfl,hcl2⟩:=hcells (by omega)
         obtain ⟨d1,e1,f1,d2,e2,f2,d3,e3,f3,d4,e4,f4,d5,e5,f5,d6,e6,f6,⟨x0,x1,x2,x3,x4,x5,x6,x7,x8⟩,hh⟩:=Rc.pk_read (hcl2 i hil)
         rw [Nat.mul_comm 9 i] at x0 x1 x2 x3 x4 x5 x6 x7 x8
         replace x0:=Rl.cell_on x0 HI5.out.bel
         replace x1:=Rl.cell_on x1 HI5.out.bel
         replace x2:=Rl.cell_on x2 HI5.out.bel
         replace x3:=Rl.cell_on x3 HI5.out.bel
         replace x4:=Rl.cell_on x4 HI5.out.bel
         replace x5:=Rl.cell_on x5 HI5.out.bel
         replace x6:=Rl.cell_on x6 HI5.out.bel
         replace x7:=Rl.cell_on x7 HI5.out.bel
         replace x8:=Rl.cell_on x8 HI5.out.bel
         have hnmx:nmA all i = (all.getD i nPk).nm:=rfl
         obtain ⟨x,hx⟩:∃ x,all.getD i nPk = x:=⟨_,rfl⟩
         rw [hx] at x0 x1 x8 hh hnmx
         have hb2:=(Below.refl w5.heap.size w5).alloc (Nat.le_refl _) (.cells #[.string (S x.nm),.string (S x.vs),.slice d1 e1 f1,.slice d2 e2 f2,.slice d3 e3 f3,.slice d4 e4 f4,.slice d5 e5 f5,.slice d6 e6 f6,.bool x.ess] 40)
         have i2:=Blk.Is.new w5 40 #[.string (S x.nm),.string (S x.vs),.slice d1 e1 f1,.slice d2 e2 f2,.slice d3 e3 f3,.slice d4 e4 f4,.slice d5 e5 f5,.slice d6 e6 f6,.bool x.ess]
         obtain ⟨V0,hV0⟩:∃ V0,w5.alloc (.cells #[.string (S x.nm),.string (S x.vs),.slice d1 e1 f1,.slice d2 e2 f2,.slice d3 e3 f3,.slice d4 e4 f4,.slice d5 e5 f5,.slice d6 e6 f6,.bool x.ess] 40) = V0:=⟨_,rfl⟩
         rw [hV0] at hb2 i2
         have hmx:=HMY.out _ (mem_getD (z:=nPk) hil)
         have hlx:=HL.out _ (mem_getD (z:=nPk) hil)
         have hgx:all.getD i nPk = x:=hx
         rw [hgx] at hmx hlx
         have hHn:Hn all f' (i + 1) = Hn all f' i ++ Hp all f' i:=flat_suc _ _
         obtain ⟨W5,hW5⟩:∃ W5,W ++ Hn all f' i = W5:=⟨_,rfl⟩
         have hnext:W ++ Hn all f' (i + 1) = W5 ++ (if f' i = true then Ht all x else []):=by rw [hHn,← List.append_assoc,hW5]; unfold Hp; rw [hgx]
         rw [hW5] at HI5
         have R5:=Lib.hid (HI5.out.below hb2)
         have HNX:=Lib.hid hnext
         have HMX:=Lib.hid hmx
         have HLX:=Lib.hid hlx
         have HH:=Lib.hid hh
         have y2:=i2.at (i:=2) rfl
         have y3:=i2.at (i:=3) rfl
         have y4:=i2.at (i:=4) rfl
         have b0:=R5.out.inb.at (cellsB_get hlti)
         obtain ⟨bx,hbx⟩:∃ bx,w5.heap.size = bx:=⟨_,rfl⟩
         rw [hbx] at y2 y3 y4
         have hu:=hV0
         obtain ⟨B1,hB1⟩:∃ B1,f' i = B1:=⟨_,rfl⟩
         rw [hB1] at b0 HNX
         clear hcells hcl2 hh hx hb2 i2 hV0 hnmx hil HI5 hgx hmx hlx hHn hW5 hnext hB1
         cases B1 with
         | false =>
          rw [if_neg (by simp),List.append_nil] at HNX
          go_wp2_with fail
          go_roundg gB
          case measure=>omega
          case rel=>exact ⟨i + 1,L5,va,vc,rfl,by go_num,by rw [HNX.out]; exact R5,by omega,by omega,by omega⟩
         | true =>
          rw [if_pos rfl] at HNX
          go_wp2_with fail
          clear hu x0 x1 x2 x3 x4 x5 x6 x7 x8 hbx y2 y3 y4 b0
          go_loopg [8,98] 3 (fun gf s8 s98 wx=>∃ (t L6:Nat) (va:Option Addr) (vc:Nat),s8 = .slice va L6 vc ∧ s98 = .int .i64 t ∧ Hid (RS w wx w.heap.size n f' va L6 vc (W5 ++ (List.range t).flatMap fun t=>Hl all ((three x).getD t []))) ∧ L6 ≤ L5 + 1728 * t ∧ t ≤ 3 ∧ 3 ≤ t + gf)
          case atStart=>exact ⟨0,L5,va,vc,rfl,rfl,Lib.hid (by have:=R5.out; simpa using this),by omega,by omega,by omega⟩
          case round =>
           rename World=>w6
           clear R5
           obtain ⟨t,L6,va,vc,rfl,rfl,HI6,hL6,htn,hft⟩:=hrel
           by_cases hltt:t < 3
           ·obtain ⟨gC,rfl⟩:∃ g2,gk = g2 + 1:=⟨gk - 1,by omega⟩
            have hltt':(t:Int) < 3:=by omega
            have ht0:(0:Int) ≤ t:=by omega
            obtain ⟨xa,xm,xc,hv,hcl,hcm,hlm⟩:∃ xa xm xc,(#[.slice d1 e1 f1,.slice d2 e2 f2,.slice d3 e3 f3]:Array Value)[t]? = some (.slice xa xm xc) ∧ Clss w (.slice xa xm xc) ((three x).getD t []) ∧ Rc.mayC ((three x).getD t []) = 0 ∧ Rl.LimC ((three x).getD t []):=by
             match t,hltt with
             | 0,_=>exact ⟨_,_,_,rfl,HH.out.pre,HMX.out.pre,HLX.out.pre⟩
             | 1,_=>exact ⟨_,_,_,rfl,HH.out.dep,HMX.out.dep,HLX.out.dep⟩
             | 2,_=>exact ⟨_,_,_,rfl,HH.out.rcm,HMX.out.rcm,HLX.out.rcm⟩
            have hidx:=fun w=>index_three #[.slice d1 e1 f1,.slice d2 e2 f2,.slice d3 e3 f3] t hltt _ hv w
            have hsu:(List.range (t + 1)).flatMap (fun t=>Hl all ((three x).getD t [])) = (List.range t).flatMap (fun t=>Hl all ((three x).getD t [])) ++ Hl all ((three x).getD t []):=flat_suc _ _
            obtain ⟨cl,hcl0⟩:∃ cl,(three x).getD t [] = cl:=⟨_,rfl⟩
            rw [hcl0] at hcl hcm hlm hsu
            obtain ⟨hc12,hc6⟩:=Ix.mayC_of hcm
            obtain ⟨_,_,em⟩:=hcl.shape
            simp only [Value.slice.injEq] at em
            have hxm:cl.length = xm:=em.2.1.symm
            rw [hxm] at hc12
            obtain ⟨W6,hW6⟩:∃ W6,W5 ++ (List.range t).flatMap (fun t=>Hl all ((three x).getD t [])) = W6:=⟨_,rfl⟩
            have hnext:W5 ++ (List.range (t + 1)).flatMap (fun t=>Hl all ((three x).getD t [])) = W6 ++ Hl all cl:=by rw [hsu,← List.append_assoc,hW6]
            rw [hW6] at HI6
            have HN6:=Lib.hid hnext
            have HCL:=Lib.hid hcl
            have HC6:=Lib.hid hc6
            have HLM:=Lib.hid hlm
            have HXM:=Lib.hid hxm
            clear hv hcl hcm hlm hsu hcl0 hc6 em hxm hW6 hnext
            go_wp2_with fail
            clear hidx
            go_loopg [8,103] xm (fun gf s8 s103 wx=>∃ (k L7:Nat) (va:Option Addr) (vc:Nat),s8 = .slice va L7 vc ∧ s103 = .int .i64 k ∧ Hid (RS w wx w.heap.size n f' va L7 vc (W6 ++ (List.range k).flatMap fun k=>Hc all (cl.getD k []))) ∧ L7 ≤ L6 + 144 * k ∧ k ≤ xm ∧ xm ≤ k + gf)
            case atStart=>exact ⟨0,L6,va,vc,rfl,rfl,Lib.hid (by have:=HI6.out; simpa using this),by omega,by omega,by omega⟩
            case round =>
             rename World=>w7
             clear HI6
             obtain ⟨k,L7,va,vc,rfl,rfl,HI7,hL7,hkn,hfk⟩:=hrel
             by_cases hltk:k < xm
             ·obtain ⟨gD,rfl⟩:∃ g2,gk = g2 + 1:=⟨gk - 1,by omega⟩
              have hltk':(k:Int) < (xm:Int):=by omega
              have hk0:(0:Int) ≤ k:=by omega
              have hkl:k < cl.length:=by rw [HXM.out]; exact hltk
              obtain ⟨_,a',cap',e1,_,hcells⟩:=HCL.out
              rw [HXM.out] at e1
              simp only [Value.slice.injEq,true_and] at e1
              obtain ⟨rfl,rfl⟩:=e1
              obtain ⟨cb,coff,rfl,hcl2⟩:=hcells (by omega)
              obtain ⟨u,x0,hats⟩:=hcl2 k hkl
              rw [Nat.one_mul] at x0
              replace x0:=Rl.cell_on x0 HI7.out.bel
              have hc6:=HC6.out _ (mem_getD (z:=([]:List At)) hkl)
              have hlc:=HLM.out _ (mem_getD (z:=([]:List At)) hkl)
              have hsu:(List.range (k + 1)).flatMap (fun k=>Hc all (cl.getD k [])) = (List.range k).flatMap (fun k=>Hc all (cl.getD k [])) ++ Hc all (cl.getD k []):=flat_suc _ _
              obtain ⟨c,hc⟩:∃ c,cl.getD k [] = c:=⟨_,rfl⟩
              rw [hc] at hats hc6 hlc hsu
              obtain ⟨ua,uc,hue⟩:=hats.shape
              obtain ⟨cn,hcn⟩:∃ cn,c.length = cn:=⟨_,rfl⟩
              rw [hcn] at hue hc6
              subst hue
              obtain ⟨W7,hW7⟩:∃ W7,W6 ++ (List.range k).flatMap (fun k=>Hc all (cl.getD k [])) = W7:=⟨_,rfl⟩
              have hnext:W6 ++ (List.range (k + 1)).flatMap (fun k=>Hc all (cl.getD k [])) = W7 ++ Hc all c:=by rw [hsu,← List.append_assoc,hW7]
              rw [hW7] at HI7
              have HN7:=Lib.hid hnext
              have HATS:=Lib.hid hats
              have HLC:=Lib.hid hlc
              have HCN:=Lib.hid hcn
              clear hcells hcl2 hats hlc hsu hc hcn hW7 hnext hkl
              go_wp2_with fail
              clear x0
              go_loopg [8,109] cn (fun gf s8 s109 wx=>∃ (j L8:Nat) (va:Option Addr) (vc:Nat),s8 = .slice va L8 vc ∧ s109 = .int .i64 j ∧ Hid (RS w wx w.heap.size n f' va L8 vc (W7 ++ (List.range j).flatMap fun j=>Ha all (c.getD j nA))) ∧ L8 ≤ L7 + 24 * j ∧ j ≤ cn ∧ cn ≤ j + gf)
              case atStart=>exact ⟨0,L7,va,vc,rfl,rfl,Lib.hid (by have:=HI7.out; simpa using this),by omega,by omega,by omega⟩
              case round =>
               rename World=>w8
               clear HI7
               obtain ⟨j,L8,va,vc,rfl,rfl,HI8,hL8,hjn,hfj⟩:=hrel
               by_cases hltj:j < cn
               ·obtain ⟨gE,rfl⟩:∃ g2,gk = g2 + 1:=⟨gk - 1,by omega⟩
                have hltj':(j:Int) < (cn:Int):=by omega
                have hj0:(0:Int) ≤ j:=by omega
                have hjl:j < c.length:=by rw [HCN.out]; exact hltj
                obtain ⟨_,a',cap',e1,_,hcells⟩:=HATS.out
                rw [HCN.out] at e1
                simp only [Value.slice.injEq,true_and] at e1
                obtain ⟨rfl,rfl⟩:=e1
                obtain ⟨ab,aoff,rfl,hat⟩:=hcells (by omega)
                obtain ⟨x0,x1,x2⟩:=hat j hjl
                rw [Nat.mul_comm 3 j] at x0 x1 x2
                replace x0:=Rl.cell_on x0 HI8.out.bel
                replace x1:=Rl.cell_on x1 HI8.out.bel
                replace x2:=Rl.cell_on x2 HI8.out.bel
                have hla:=HLC.out _ (mem_getD (z:=nA) hjl)
                have hsu:(List.range (j + 1)).flatMap (fun j=>Ha all (c.getD j nA)) = (List.range j).flatMap (fun j=>Ha all (c.getD j nA)) ++ Ha all (c.getD j nA):=flat_suc _ _
                obtain ⟨a,ha⟩:∃ a,c.getD j nA = a:=⟨_,rfl⟩
                rw [ha] at x0 x1 x2 hla hsu
                have hb2:=(Below.refl w8.heap.size w8).alloc (Nat.le_refl _) (.cells #[.string (S a.1),.int .i64 a.2.1,.string (S a.2.2)] 54)
                have i2:=Blk.Is.new w8 54 #[.string (S a.1),.int .i64 a.2.1,.string (S a.2.2)]
                obtain ⟨V0,hV0⟩:∃ V0,w8.alloc (.cells #[.string (S a.1),.int .i64 a.2.1,.string (S a.2.2)] 54) = V0:=⟨_,rfl⟩
                rw [hV0] at hb2 i2
                obtain ⟨W8,hW8⟩:∃ W8,W7 ++ (List.range j).flatMap (fun j=>Ha all (c.getD j nA)) = W8:=⟨_,rfl⟩
                have hnext:W7 ++ (List.range (j + 1)).flatMap (fun j=>Ha all (c.getD j nA)) = W8 ++ Ha all a:=by rw [hsu,← List.append_assoc,hW8]
                rw [hW8] at HI8
                have R8:=Lib.hid (HI8.out.below hb2)
                have HN8:=Lib.hid hnext
                have HAL:=Lib.hid (show LimAt a from hla)
                obtain ⟨ba,hba⟩:∃ ba,w8.heap.size = ba:=⟨_,rfl⟩
                rw [hba] at i2
                have IA8:=Lib.hid i2
                have hu:=hV0
                clear hcells hat hla hsu ha hb2 i2 hV0 hW8 hnext hjl HI8
                go_wp2_with fail
                clear hu x0 x1 x2 hba
                go_loopg [8,115] n (fun gf s8 s115 wx=>∃ (z L:Nat) (va:Option Addr) (vc:Nat),s8 = .slice va L vc ∧ s115 = .int .i64 z ∧ Hid (RS w wx w.heap.size n f' va L vc (W8 ++ (List.range z).flatMap (Hq all a))) ∧ Hid (Blk.Is wx ba 54 #[.string (S a.1),.int .i64 a.2.1,.string (S a.2.2)]) ∧ L ≤ L8 + z ∧ z ≤ n ∧ n ≤ z + gf)
                case atStart=>exact ⟨0,L8,va,vc,rfl,rfl,Lib.hid (by have:=R8.out; simpa using this),IA8,by omega,by omega,by omega⟩
                case round =>
                 rename World=>w9
                 clear R8 IA8
                 obtain ⟨z,L,va,vc,rfl,rfl,HI9,IA9,hLz,hzn,hfz⟩:=hrel
                 by_cases hltz:z < n
                 ·obtain ⟨gF,rfl⟩:∃ g2,gk = g2 + 1:=⟨gk - 1,by omega⟩
                  have hlt':(z:Int) < (n:Int):=by omega
                  have hk0:(0:Int) ≤ z:=by omega
                  have hil:z < all.length:=by rw [HN.out]; omega
                  obtain ⟨_,a',cap',e1,_,hcells⟩:=H0.out
                  rw [HN.out] at e1
                  simp only [Value.slice.injEq,true_and] at e1
                  obtain ⟨rfl,rfl⟩:=e1
                  obtain ⟨kb2,off2,e2,hcl2⟩:=hcells (by omega)
                  simp only [Option.some.injEq,Addr.mk.injEq,and_true] at e2
                  obtain ⟨rfl,rfl⟩:=e2
                  obtain ⟨g1,h1,l1,g2,h2,l2,g3,h3,l3,g4,h4,l4,g5,h5,l5,g6,h6,l6,⟨x0,x1,x2,x3,x4,x5,x6,x7,x8⟩,hh⟩:=Rc.pk_read (hcl2 z hil)
                  rw [Nat.mul_comm 9 z] at x0 x1 x2 x3 x4 x5 x6 x7 x8
                  replace x0:=Rl.cell_on x0 HI9.out.bel
                  replace x1:=Rl.cell_on x1 HI9.out.bel
                  replace x2:=Rl.cell_on x2 HI9.out.bel
                  replace x3:=Rl.cell_on x3 HI9.out.bel
                  replace x4:=Rl.cell_on x4 HI9.out.bel
                  replace x5:=Rl.cell_on x5 HI9.out.bel
                  replace x6:=Rl.cell_on x6 HI9.out.bel
                  replace x7:=Rl.cell_on x7 HI9.out.bel
                  replace x8:=Rl.cell_on x8 HI9.out.bel
                  have hnmx:nmA all z = (all.getD z nPk).nm:=rfl
                  obtain ⟨q,hx⟩:∃ q,all.getD z nPk = q:=⟨_,rfl⟩
                  rw [hx] at x0 x1 x8 hh hnmx
                  have hb2:=(Below.refl w9.heap.size w9).alloc (Nat.le_refl _) (.cells #[.string (S q.nm),.string (S q.vs),.slice g1 h1 l1,.slice g2 h2 l2,.slice g3 h3 l3,.slice g4 h4 l4,.slice g5 h5 l5,.slice g6 h6 l6,.bool q.ess] 40)
                  have i2:=Blk.Is.new w9 40 #[.string (S q.nm),.string (S q.vs),.slice g1 h1 l1,.slice g2 h2 l2,.slice g3 h3 l3,.slice g4 h4 l4,.slice g5 h5 l5,.slice g6 h6 l6,.bool q.ess]
                  obtain ⟨V0,hV0⟩:∃ V0,w9.alloc (.cells #[.string (S q.nm),.string (S q.vs),.slice g1 h1 l1,.slice g2 h2 l2,.slice g3 h3 l3,.slice g4 h4 l4,.slice g5 h5 l5,.slice g6 h6 l6,.bool q.ess] 40) = V0:=⟨_,rfl⟩
                  rw [hV0] at hb2 i2
                  have hlq:=HL.out _ (mem_getD (z:=nPk) hil)
                  have hgx:all.getD z nPk = q:=hx
                  rw [hgx] at hlq
                  have hsu:(List.range (z + 1)).flatMap (Hq all a) = (List.range z).flatMap (Hq all a) ++ (if sat q a = true then [q.nm] else []):=by rw [flat_suc]; unfold Hq; rw [hgx,hnmx]
                  obtain ⟨W,hW⟩:∃ W,W8 ++ (List.range z).flatMap (Hq all a) = W:=⟨_,rfl⟩
                  have hnext:W8 ++ (List.range (z + 1)).flatMap (Hq all a) = W ++ (if sat q a = true then [q.nm] else []):=by rw [hsu,← List.append_assoc,hW]
                  rw [hW] at HI9
                  have hb9:Below w.heap.size w V0:=HI9.out.bel.trans (hb2.mono HI9.out.bel.size)
                  have cs:=Ix.ysat_any (.agg #[.string (S q.nm),.string (S q.vs),.slice g1 h1 l1,.slice g2 h2 l2,.slice g3 h3 l3,.slice g4 h4 l4,.slice g5 h5 l5,.slice g6 h6 l6,.bool q.ess]) q a V0 ⟨_,_,_,_,_,_,rfl,hh.below hb9⟩ hlq HAL.out
                  have R9:=Lib.hid (HI9.out.below hb2)
                  have i3:=Rl.is_on IA9.out hb2
                  have IA3:=Lib.hid i3
                  have z0:=i2.at (i:=0) rfl
                  have z1:=i2.at (i:=1) rfl
                  have z2:=i2.at (i:=2) rfl
                  have z3:=i2.at (i:=3) rfl
                  have z4:=i2.at (i:=4) rfl
                  have z5:=i2.at (i:=5) rfl
                  have z6:=i2.at (i:=6) rfl
                  have z7:=i2.at (i:=7) rfl
                  have z8:=i2.at (i:=8) rfl
                  have y0:=i3.at (i:=0) rfl
                  have y1:=i3.at (i:=1) rfl
                  have y2:=i3.at (i:=2) rfl
                  have I2:=Lib.hid i2
                  have HNX:=Lib.hid hnext
                  have e9:aV a = .agg #[.string (S a.1),.int .i64 a.2.1,.string (S a.2.2)]:=rfl
                  rw [e9] at cs
                  obtain ⟨bq,hbq⟩:∃ bq,w9.heap.size = bq:=⟨_,rfl⟩
                  rw [hbq] at I2 z0 z1 z2 z3 z4 z5 z6 z7 z8
                  have hu:=hV0
                  obtain ⟨B1,hB1⟩:∃ B1,sat q a = B1:=⟨_,rfl⟩
                  rw [hB1] at cs HNX
                  clear hcells hcl2 hh hx hb2 i2 i3 hV0 hnmx hil HI9 hgx hlq hsu hW hnext hb9 e9 hB1 IA9
                  cases B1 with
                  | false =>
                   rw [if_neg (by simp),List.append_nil] at HNX
                   go_wp2_with fail
                   clear hu x0 x1 x2 x3 x4 x5 x6 x7 x8 z0 z1 z2 z3 z4 z5 z6 z7 z8 y0 y1 y2 hbq
                   refine cs.mono ?_
                   rintro e u2 ⟨rfl,k2⟩
                   have R10:=Lib.hid (R9.out.below k2)
                   have IA4:=Lib.hid (Rl.is_on IA3.out k2)
                   clear cs k2
                   go_wp2_with fail
                   go_roundg gF
                   case measure=>omega
                   case rel=>exact ⟨z + 1,L,va,vc,rfl,by go_num,by rw [HNX.out]; exact R10,IA4,by omega,by omega,by omega⟩
                  | true =>
                   rw [if_pos rfl] at HNX
                   go_wp2_with fail
                   clear hu x0 x1 x2 x3 x4 x5 x6 x7 x8 z0 z1 z2 z3 z4 z5 z6 z7 z8 y0 y1 y2 hbq
                   refine cs.mono ?_
                   rintro e u2 ⟨rfl,k2⟩
                   have z0:=(Rl.is_on I2.out k2).at (i:=0) rfl
                   have hb4:=(Below.refl u2.heap.size u2).alloc (Nat.le_refl _) (.cells #[.string (S q.nm)] 9)
                   have i4:=Blk.Is.new u2 9 #[.string (S q.nm)]
                   obtain ⟨W4,hW4⟩:∃ W4,u2.alloc (.cells #[.string (S q.nm)] 9) = W4:=⟨_,rfl⟩
                   rw [hW4] at hb4 i4
                   have R4:=Lib.hid ((R9.out.below k2).below hb4)
                   have IA4:=Lib.hid (Rl.is_on (Rl.is_on IA3.out k2) hb4)
                   have C0:=Lib.hid (i4.at (i:=0) rfl)
                   have HW4:=Lib.hid hW4
                   clear cs k2 hb4 i4 hW4 R9 IA3 I2
                   go_wp2_with (at_builtin; (try rw [HW4.out]); refine append_txb rfl (.tmp 122) (.tmp 125) rfl w.heap.size (.slice va L vc) L (tx W) rfl R4.out.row u2.heap.size 1 rfl (.string (S q.nm)) C0.out rfl (by omega) R4.out.bel.size ?_; intro v5 w5 o5 g5 l5; obtain ⟨⟨gg,gc,rfl,rs5⟩,keep5⟩:=R4.out.app o5 g5; have R5:=Lib.hid rs5; have IA9:=Lib.hid (keep5 _ _ _ IA4.out (by decide)); clear o5 g5 l5 rs5 keep5)
                   go_roundg gF
                   case measure=>omega
                   case rel=>exact ⟨z + 1,L + 1,_,_,rfl,by go_num,by rw [HNX.out]; exact R5,IA9,by omega,by omega,by omega⟩
                 ·have hgez:¬ (n:Int) < (n:Int):=by omega
                  obtain rfl:n = z:=by omega
                  have hfull:W8 ++ (List.range n).flatMap (Hq all a) = W7 ++ (List.range (j + 1)).flatMap (fun j=>Ha all (c.getD j nA)):=by rw [HN8.out]; unfold Ha; rw [HN.out]
                  rw [hfull] at HI9
                  clear hfull IA9
                  go_wp2_with fail
                  go_roundg gE
                  case measure=>omega
                  case rel=>exact ⟨j + 1,L,va,vc,rfl,by go_num,HI9,by omega,by omega,by omega⟩
               ·have hgej:¬ (cn:Int) < (cn:Int):=by omega
                obtain rfl:cn = j:=by omega
                have hfull:W7 ++ (List.range cn).flatMap (fun j=>Ha all (c.getD j nA)) = W6 ++ (List.range (k + 1)).flatMap (fun k=>Hc all (cl.getD k [])):=by rw [HN7.out]; unfold Hc; rw [HCN.out]
                rw [hfull] at HI8
                clear hfull
                go_wp2_with fail
                go_roundg gD
                case measure=>omega
                case rel=>exact ⟨k + 1,L8,va,vc,rfl,by go_num,HI8,by omega,by omega,by omega⟩
             ·have hgek:¬ (xm:Int) < (xm:Int):=by omega
              obtain rfl:xm = k:=by omega
              have hfull:W6 ++ (List.range xm).flatMap (fun k=>Hc all (cl.getD k [])) = W5 ++ (List.range (t + 1)).flatMap (fun t=>Hl all ((three x).getD t [])):=by rw [HN6.out]; unfold Hl; rw [HXM.out]
              rw [hfull] at HI7
              clear hfull
              go_wp2_with fail
              go_roundg gC
              case measure=>omega
              case rel=>exact ⟨t + 1,L7,va,vc,rfl,by go_num,HI7,by omega,by omega,by omega⟩
           ·have hget:¬ (3:Int) < 3:=by omega
            obtain rfl:t = 3:=by omega
            have hfull:W5 ++ (List.range 3).flatMap (fun t=>Hl all ((three x).getD t [])) = W ++ Hn all f' (i + 1):=HNX.out.symm
            rw [hfull] at HI6
            clear hfull
            go_wp2_with fail
            go_roundg gB
            case measure=>omega
            case rel=>exact ⟨i + 1,L6,va,vc,rfl,by go_num,HI6,by omega,by omega,by omega⟩
        ·have hgei:¬ (n:Int) < (n:Int):=by omega
         obtain rfl:n = i:=by omega
         obtain ⟨W9,hW9⟩:∃ W9,W ++ Hn all f' n = W9:=⟨_,rfl⟩
         have hWm:∀ z,z ∈ W9 ↔ z ∈ W ∨ z ∈ Hn all f' n:=fun z=>by rw [← hW9,List.mem_append]
         rw [hW9] at HI5
         have hst:∀ Z:List Bs,(∀ z,z ∈ Z ↔ z ∈ W9) → Rd all sd (r + 1) f' Z:=fun Z hZ=>by
          have:=HD.out.step (W':=Z) fun z=>by rw [hZ,hWm,HF'.out,HN.out]
          rw [HF'.out] at this
          exact this
         have HST:=Lib.hid hst
         have hL9:L5 ≤ 130000:=by omega
         clear hW9 hWm hst
         by_cases hbig:2000 < L5
         ·have hbig':(2000:Int) < (L5:Int):=by omega
          have htx:Txt.Texts w5 (.slice va L5 vc) (W9.map S):=Txt.Texts.owned (by rw [List.length_map,HI5.out.len,tx_map]; exact HI5.out.row) (by rw [List.length_map,HI5.out.len]; omega)
          have cu:=yunique_any _ W9 w5 htx (by rw [HI5.out.len]; omega)
          have hrd:=HST.out (unq [] W9) fun z=>by rw [unq_mem]; simp
          have hul:(unq [] W9).length ≤ 54:=by
           have h1:=Ix.len_le (unq_nodup (l:=W9) List.nodup_nil) (b:=sd ++ nmX all) fun z hz=>by
            rcases hrd.wsnd z hz with h2 | h2
            ·exact List.mem_append_left _ h2
            ·exact List.mem_append_right _ ((nmX_mem all z).2 h2.has)
           rw [List.length_append] at h1
           have h3:=nmX_len all
           rw [HN.out] at h3
           omega
          have HRD:=Lib.hid hrd
          obtain ⟨U,hU⟩:∃ U,unq [] W9 = U:=⟨_,rfl⟩
          rw [hU] at cu hul HRD
          obtain ⟨LU,hLU⟩:∃ LU,U.length = LU:=⟨_,rfl⟩
          rw [hLU] at cu hul
          have INB:=Lib.hid HI5.out.inb
          have BEL:=Lib.hid HI5.out.bel
          have HGI:=Lib.hid HI5.out.hgi
          clear htx hrd hU hLU HI5 HD
          go_wp2_with fail
          refine cu.mono ?_
          rintro e w6 ⟨v6,rfl,ho6,k6⟩
          obtain ⟨ua,uc,rfl,_⟩:=Rl.own_shape ho6
          have R6:Hid (RS w w6 w.heap.size n f' ua LU uc U):=⟨Rl.is_on INB.out k6,Rl.own_mono ho6 BEL.out.size,BEL.out.trans (k6.mono BEL.out.size),HGI.out⟩
          clear cu ho6 k6
          go_wp2_with fail
          go_roundg gA
          case measure=>omega
          case rel=>exact ⟨r + 1,LU,ua,uc,f',U,rfl,by go_num,R6,HRD,by omega,by omega,by omega⟩
         ·have hbig':¬ (2000:Int) < (L5:Int):=by omega
          have HRD:=Lib.hid (HST.out W9 fun z=>Iff.rfl)
          clear HD
          go_wp2_with fail
          go_roundg gA
          case measure=>omega
          case rel=>exact ⟨r + 1,L5,va,vc,f',W9,rfl,by go_num,HI5,HRD,by omega,by omega,by omega⟩
    ·have hge:¬ (r:Int) < (n:Int) + 1:=by omega
     have hrr:r = n + 1:=by omega
     have hfin:∀ j,j < n → (f j = true ↔ nmA all j ∈ WF):=fun j hj=>by
      have h1:Rd all sd (all.length + 1) f W:=by rw [HN.out,← hrr]; exact HD.out
      rw [h1.last (by rw [HN.out]; exact hj)]
      exact (HWF.out _).symm
     have hout:outN all f n = inW WF all:=by
      have h2:=out_eq (all:=all) (f:=f) (WF:=WF) fun j hj=>hfin j (by rw [← HN.out]; exact hj)
      rw [HN.out] at h2
      exact h2
     have HOUT:=Lib.hid hout
     have INB:=Lib.hid HR.out.inb
     have BEL:=Lib.hid HR.out.bel
     have HGI:=Lib.hid HR.out.hgi
     clear hfin hout hrr HR HD hrn hfr hL2
     go_wp2_with fail
     go_loopg [25,140] n (fun gf s25 s140 wx=>∃ (k K:Nat) (qa:Option Addr) (qc:Nat),s25 = .slice qa K qc ∧ s140 = .int .i64 k ∧ Hid (Acc PkC 9 40 w.heap.size 0 wx (.slice qa K qc) (outN all f k)) ∧ Hid ((outN all f k).length = K) ∧ Hid (Blk.Is wx w.heap.size 4 (cellsB n f)) ∧ Hid (Below w.heap.size w wx) ∧ K ≤ k ∧ k ≤ n ∧ n ≤ k + gf)
     case atStart=>exact ⟨0,0,none,0,rfl,rfl,Lib.hid (Acc.nil _ _ _ _ _ _),Lib.hid rfl,INB,BEL,by omega,by omega,by omega⟩
     case round =>
      rename World=>wz
      obtain ⟨k,K,qa,qc,rfl,rfl,HA,HKL,INB,HBZ,hKk,hkn,hfk⟩:=hrel
      by_cases hlti:k < n
      ·obtain ⟨gB,rfl⟩:∃ g2,gk = g2 + 1:=⟨gk - 1,by omega⟩
       have hlt':(k:Int) < (n:Int):=by omega
       have hk0:(0:Int) ≤ k:=by omega
       have hil:k < all.length:=by rw [HN.out]; omega
       obtain ⟨_,a',cap',e1,_,hcells⟩:=H0.out
       rw [HN.out] at e1
       simp only [Value.slice.injEq,true_and] at e1
       obtain ⟨rfl,rfl⟩:=e1
       obtain ⟨kb,off,rfl,hcl2⟩:=hcells (by omega)
       obtain ⟨d1,e1,f1,d2,e2,f2,d3,e3,f3,d4,e4,f4,d5,e5,f5,d6,e6,f6,⟨x0,x1,x2,x3,x4,x5,x6,x7,x8⟩,hh⟩:=Rc.pk_read (hcl2 k hil)
       rw [Nat.mul_comm 9 k] at x0 x1 x2 x3 x4 x5 x6 x7 x8
       replace x0:=Rl.cell_on x0 HBZ.out
       replace x1:=Rl.cell_on x1 HBZ.out
       replace x2:=Rl.cell_on x2 HBZ.out
       replace x3:=Rl.cell_on x3 HBZ.out
       replace x4:=Rl.cell_on x4 HBZ.out
       replace x5:=Rl.cell_on x5 HBZ.out
       replace x6:=Rl.cell_on x6 HBZ.out
       replace x7:=Rl.cell_on x7 HBZ.out
       replace x8:=Rl.cell_on x8 HBZ.out
       have hnmx:nmA all k = (all.getD k nPk).nm:=rfl
       obtain ⟨x,hx⟩:∃ x,all.getD k nPk = x:=⟨_,rfl⟩
       rw [hx] at x0 x1 x8 hh hnmx
       have hb2:=(Below.refl wz.heap.size wz).alloc (Nat.le_refl _) (.cells #[.string (S x.nm),.string (S x.vs),.slice d1 e1 f1,.slice d2 e2 f2,.slice d3 e3 f3,.slice d4 e4 f4,.slice d5 e5 f5,.slice d6 e6 f6,.bool x.ess] 40)
       have i2:=Blk.Is.new wz 40 #[.string (S x.nm),.string (S x.vs),.slice d1 e1 f1,.slice d2 e2 f2,.slice d3 e3 f3,.slice d4 e4 f4,.slice d5 e5 f5,.slice d6 e6 f6,.bool x.ess]
       obtain ⟨V1,hV0⟩:∃ V1,wz.alloc (.cells #[.string (S x.nm),.string (S x.vs),.slice d1 e1 f1,.slice d2 e2 f2,.slice d3 e3 f3,.slice d4 e4 f4,.slice d5 e5 f5,.slice d6 e6 f6,.bool x.ess] 40) = V1:=⟨_,rfl⟩
       rw [hV0] at hb2 i2
       have hgx:all.getD k nPk = x:=hx
       have hnext:outN all f (k + 1) = outN all f k ++ (if f k = true then [x] else []):=by
        unfold outN
        rw [flat_suc,hgx]
       have z0:=i2.at (i:=0) rfl
       have z1:=i2.at (i:=1) rfl
       have z2:=i2.at (i:=2) rfl
       have z3:=i2.at (i:=3) rfl
       have z4:=i2.at (i:=4) rfl
       have z5:=i2.at (i:=5) rfl
       have z6:=i2.at (i:=6) rfl
       have z7:=i2.at (i:=7) rfl
       have z8:=i2.at (i:=8) rfl
       have HH:=Lib.hid hh
       have HNX:=Lib.hid hnext
       have HBV:=Lib.hid hb2
       have hwv:Below w.heap.size w V1:=HBZ.out.trans (hb2.mono HBZ.out.size)
       have HWV:=Lib.hid hwv
       have INB2:=Lib.hid (Rl.is_on INB.out hb2)
       have b0:=INB2.out.at (cellsB_get hlti)
       obtain ⟨bx,hbx⟩:∃ bx,wz.heap.size = bx:=⟨_,rfl⟩
       rw [hbx] at z0 z1 z2 z3 z4 z5 z6 z7 z8
       have hu:=hV0
       obtain ⟨B1,hB1⟩:∃ B1,f k = B1:=⟨_,rfl⟩
       rw [hB1] at b0 HNX
       clear hcells hcl2 hh hx hb2 i2 hV0 hnmx hil hgx hnext hwv hB1 INB
       cases B1 with
       | false =>
        rw [if_neg (by simp),List.append_nil] at HNX
        have HA3:=Lib.hid (HA.out.on HBV.out)
        clear HA HBZ
        go_wp2_with fail
        go_roundg gB
        case measure=>omega
        case rel=>exact ⟨k + 1,K,qa,qc,rfl,by go_num,by rw [HNX.out]; exact HA3,by rw [HNX.out]; exact HKL,INB2,HWV,by omega,by omega,by omega⟩
       | true =>
        rw [if_pos rfl] at HNX
        have hba:=(Below.refl V1.heap.size V1).alloc (Nat.le_refl _) (.cells #[.string (S x.nm),.string (S x.vs),.slice d1 e1 f1,.slice d2 e2 f2,.slice d3 e3 f3,.slice d4 e4 f4,.slice d5 e5 f5,.slice d6 e6 f6,.bool x.ess] 40)
        have ia:=Blk.Is.new V1 40 #[.string (S x.nm),.string (S x.vs),.slice d1 e1 f1,.slice d2 e2 f2,.slice d3 e3 f3,.slice d4 e4 f4,.slice d5 e5 f5,.slice d6 e6 f6,.bool x.ess]
        obtain ⟨V4,hV4⟩:∃ V4,V1.alloc (.cells #[.string (S x.nm),.string (S x.vs),.slice d1 e1 f1,.slice d2 e2 f2,.slice d3 e3 f3,.slice d4 e4 f4,.slice d5 e5 f5,.slice d6 e6 f6,.bool x.ess] 40) = V4:=⟨_,rfl⟩
        rw [hV4] at hba ia
        have acc4:=(HA.out.on HBV.out).on hba
        have hB4:Below w.heap.size w V4:=HWV.out.trans (hba.mono HWV.out.size)
        have hin:In 0 w.heap.size w (fun u=>PkC u [.string (S x.nm),.string (S x.vs),.slice d1 e1 f1,.slice d2 e2 f2,.slice d3 e3 f3,.slice d4 e4 f4,.slice d5 e5 f5,.slice d6 e6 f6,.bool x.ess] x):=in_low fun u hu=>⟨_,_,_,_,_,_,rfl,HH.out.below hu⟩
        have hin4:=hin.on (Blk.Chg.ofBelow' (S:=fun k=>k < 0 ∨ w.heap.size ≤ k) ⟨hB4.os,hB4.tape,hB4.output,hB4.size,fun k hk=>hB4.block k hk⟩)
        have hlow:∀ g,Value.ownBlock (.slice qa K qc) = some g → g < 0 ∨ w.heap.size ≤ g:=fun g hg=>by
         obtain ⟨_,ho⟩:=HA.out.own
         exact .inr (Rl.own_lt ho hg).1
        have own4:∃ ys,V4.ownsRow w.heap.size 40 9 (.slice qa K qc) K ys:=by
         have:=acc4.own
         rwa [HKL.out] at this
        have hsz4:w.heap.size ≤ V4.heap.size:=hB4.size
        have AC4:=Lib.hid acc4
        have IN4:=Lib.hid hin4
        have LO:=Lib.hid hlow
        have B4:=Lib.hid hB4
        have I4:=Lib.hid ia
        have OW:=Lib.hid own4
        have SZ:=Lib.hid hsz4
        have HV4:=Lib.hid hV4
        have INB4:=Lib.hid (Rl.is_on INB2.out hba)
        have hk1:(K + 1) * 184 ≤ 140737488355328:=by omega
        have hk2:K + 1 ≤ 4611686018427387904:=by omega
        clear hba ia hV4 acc4 hin hin4 hlow own4 hsz4 hB4 HA HBZ INB2
        go_wp2_with (at_builtin; (try rw [HV4.out]); refine append_big Tryz.underlying22 infoPk rfl rfl (.tmp 149) (.tmp 151) rfl w.heap.size (.slice qa K qc) K rfl OW.out V1.heap.size 1 rfl [.string (S x.nm),.string (S x.vs),.slice d1 e1 f1,.slice d2 e2 f2,.slice d3 e3 f3,.slice d4 e4 f4,.slice d5 e5 f5,.slice d6 e6 f6,.bool x.ess] rfl (fun j u hj=>I4.out.at (by rw [← Array.getElem?_toList]; exact hj)) (fun u hu=>by simp only [List.mem_cons,List.not_mem_nil,or_false] at hu; rcases hu with rfl | rfl | rfl | rfl | rfl | rfl | rfl | rfl | rfl <;> rfl) hk1 hk2 SZ.out ?_; intro v' w9 h2 h3 h4; have acc9:=AC4.out.more (cs:=[.string (S x.nm),.string (S x.vs),.slice d1 e1 f1,.slice d2 e2 f2,.slice d3 e3 f3,.slice d4 e4 f4,.slice d5 e5 f5,.slice d6 e6 f6,.bool x.ess]) rfl IN4.out SZ.out LO.out (Nat.zero_le _) (by rw [HKL.out]; exact h2) h3 h4; obtain ⟨a9,c9,e9⟩:=acc9.shape; rw [List.length_append,HKL.out,List.length_singleton] at e9; subst e9; have hb9:=Own.below_grown B4.out (Classical.choose_spec OW.out) h3 SZ.out; have in9:=((Blk.Chg.refl (fun k=>Value.ownBlock (.slice qa K qc) = some k) V4).grown h3 fun k hk _=>hk).is INB4.out (fun hk=>by obtain ⟨ds,hd⟩:=Rl.own_is (Classical.choose_spec OW.out) hk; exact absurd (hd.inj INB4.out).1 (by decide)); have AC9:=Lib.hid acc9; have HB9:=Lib.hid hb9; have IN9:=Lib.hid in9; clear acc9 hb9 in9 h2 h3 h4 AC4 IN4 LO B4 I4 OW HV4 INB4)
        go_roundg gB
        case measure=>omega
        case rel=>exact ⟨k + 1,K + 1,a9,c9,rfl,by go_num,by rw [HNX.out]; exact AC9,by rw [HNX.out]; show List.length _ = _; rw [List.length_append,HKL.out]; rfl,IN9,HB9,by omega,by omega,by omega⟩
      ·have hgek:¬ (n:Int) < (n:Int):=by omega
       obtain rfl:n = k:=by omega
       have hacc:=HA.out
       rw [HOUT.out] at hacc
       have hpk:Pks wz (.slice qa K qc) (inW WF all):=by
        have:=Acc.slc nPk hacc (by rw [← HOUT.out,HKL.out]; omega)
        exact this
       have HPK:=Lib.hid hpk
       clear hacc hpk HA
       go_wp2_with fail
       go_ret
       exact ⟨_,rfl,HPK.out,HBZ.out⟩
end Un
end Go.Proofs.YtmhpjjjjgakpiaaGreatDoor

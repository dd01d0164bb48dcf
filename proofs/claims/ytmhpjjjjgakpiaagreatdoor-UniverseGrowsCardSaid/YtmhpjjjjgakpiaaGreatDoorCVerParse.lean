/-
Parse: a version's parts, or that it is none.
-/
import Derived.Test.YtmhpjjjjgakpiaaGreatDoorCVerMay
import Derived.OwnWalk
namespace Go.Proofs.YtmhpjjjjgakpiaaGreatDoor
open Go.RowKit
set_option linter.unusedSimpArgs false
set_option linter.unusedVariables false
namespace Ver
open Txt (b)
def MaxLen (w:World):Prop:=∃ m,w.cell? ⟨1,0,none⟩ = some (.int .i64 m)
theorem lt_cell {w:World} {p:Addr} {v:Value} (h:w.cell? p = some v):p.block < w.heap.size:=by
 by_cases hc:p.block < w.heap.size
 ·exact hc
 ·exfalso
  unfold World.cell? at h
  rw [Array.getElem?_eq_none (by omega)] at h
  cases h
theorem MaxLen.below {w w':World} {B:Nat} (h:MaxLen w) (hb:Below B w w') (hB:1 < B):MaxLen w':=by
 obtain ⟨m,hm⟩:=h
 exact ⟨m,by rw [hb.cell (p:=⟨1,0,none⟩) hB]; exact hm⟩
theorem MaxLen.lt {w:World} (h:MaxLen w):1 < w.heap.size:=by
 obtain ⟨m,hm⟩:=h
 exact lt_cell hm
theorem MaxLen.on {w w':World} (h:MaxLen w) (hb:Below w.heap.size w w'):MaxLen w':=h.below hb h.lt
theorem cut_colon (l:Bs):Lib.cut l [58] = (match cut1 58 l with | none=>(l,[],false) | some (a,r)=>(a,r,true)):=by
 have key:∀ l:Bs,(cut1 58 l = none ∧ Lib.index l [58] = -1) ∨ ∃ a r,cut1 58 l = some (a,r) ∧ Lib.index l [58] = (a.length:Int) ∧ l = a ++ 58 :: r:=by
  intro l
  induction l with
  | nil=>exact .inl ⟨rfl,rfl⟩
  | cons c l ih =>
   have e1:Lib.index (c :: l) [58] = if ([58]:List UInt8).isPrefixOf (c :: l) then 0 else if Lib.index l [58] == -1 then -1 else Lib.index l [58] + 1:=rfl
   have e2:cut1 58 (c :: l) = if c = 58 then some ([],l) else (cut1 58 l).map fun p=>(c :: p.1,p.2):=rfl
   by_cases hc:c = 58
   ·subst hc
    exact .inr ⟨[],l,by rw [e2,if_pos rfl],by rw [e1]; rfl,rfl⟩
   ·have hp:([58]:List UInt8).isPrefixOf (c :: l) = false:=by
     simp [List.isPrefixOf]
     exact fun h=>hc h.symm
    rw [e1,e2,if_neg hc,hp]
    rcases ih with ⟨h1,h2⟩ | ⟨a,r,h1,h2,h3⟩
    ·left
     rw [h1,h2]
     exact ⟨rfl,rfl⟩
    ·right
     refine ⟨c :: a,r,by rw [h1]; rfl,?_,by rw [h3]; rfl⟩
     rw [h2]
     have:((a.length:Int) == -1) = false:=by rw [beq_eq_false_iff_ne]; omega
     simp [this]
 unfold Lib.cut
 rcases key l with ⟨h1,h2⟩ | ⟨a,r,h1,h2,h3⟩
 ·rw [h1,h2]; rfl
 ·rw [h1,h2,if_pos (by omega),Int.toNat_natCast]
  simp only
  rw [h3,List.take_left]
  congr 2
  show List.drop (a.length + 1) (a ++ 58 :: r) = r
  rw [← List.drop_drop,List.drop_left]
  rfl
theorem cut_gb (s:ByteArray) (w:World) (hs:s.size < 4294967281) (hm:MaxLen w) :
  Calls Tryz.prog 172 #[.string s,.string ⟨#[58]⟩] w fun e w'=>e = .returned (match cut1 58 (li s) with
   | none=>.tuple #[.string s,.string (S []),.bool false]
   | some (a,r)=>.tuple #[.string (S a),.string (S r),.bool true]) ∧ Gb w.heap.size w w':=by
 obtain ⟨m,hm⟩:=hm
 refine (Tryz.strings_Cut s ⟨#[58]⟩ m w hs hm).mono fun e w' h=>⟨?_,?_⟩
 ·rw [h.1,show (⟨#[58]⟩:ByteArray).data.toList = [58] from rfl,cut_colon]
  show _ = Ending.returned (match cut1 58 s.data.toList with
   | none=>.tuple #[.string s,.string (S []),.bool false]
   | some (a,r)=>.tuple #[.string (S a),.string (S r),.bool true])
  cases cut1 58 s.data.toList with
  | none =>
   show Ending.returned (.tuple #[.string (S s.data.toList),.string (S []),.bool false]) = _
   rw [S_self]
  | some p=>rfl
 ·obtain ⟨_,n,rfl⟩:=h
  exact gb_drewN _ _
theorem cut1_parts:∀ (x:UInt8) (l a r:Bs),cut1 x l = some (a,r) → l = a ++ x :: r
 | _,[],_,_,h=>by cases h
 | x,c :: l,a,r,h=>by
  rw [cut1] at h
  by_cases hc:c = x
  ·rw [if_pos hc] at h
   cases h
   rw [hc]; rfl
  ·rw [if_neg hc] at h
   cases hq:cut1 x l with
   | none=>rw [hq] at h; cases h
   | some p =>
    rw [hq] at h
    cases h
    rw [cut1_parts x l p.1 p.2 hq]
    rfl
theorem cutZ_parts:∀ (x:UInt8) (l a r:Bs),cutZ x l = some (a,r) → l = a ++ x :: r
 | _,[],_,_,h=>by cases h
 | x,c :: l,a,r,h=>by
  rw [cutZ] at h
  cases hq:cutZ x l with
  | none =>
   rw [hq] at h
   by_cases hc:c = x
   ·simp [hc] at h
    obtain ⟨rfl,rfl⟩:=h
    rw [hc]; rfl
   ·simp [hc] at h
  | some p =>
   rw [hq] at h
   cases h
   rw [cutZ_parts x l p.1 p.2 hq]
   rfl
def epF (l:Bs):Bs × Bs × Bool:=match cut1 58 l with
 | none=>([48],l,true)
 | some (e,r)=>(e,r,decide (1 ≤ e.length ∧ e.length ≤ 9 ∧ e.all dig = true))
theorem ep_is (l:Bs):epochOf l = if (epF l).2.2 = true then some ((epF l).1,(epF l).2.1) else none:=by
 unfold epochOf epF
 cases cut1 58 l with
 | none=>rfl
 | some p =>
  obtain ⟨e,r⟩:=p
  simp only [decide_eq_true_eq]
def rvF (l:Bs):Bs × Bs × Bool:=match cutZ 45 l with
 | none=>(l,[],true)
 | some (u,v)=>(u,v,decide (v ≠ [] ∧ v.all sig = true))
theorem rvF_is (l:Bs):revOf l = if (rvF l).2.2 = true then some ((rvF l).1,(rvF l).2.1) else none:=by
 unfold revOf rvF
 cases cutZ 45 l with
 | none=>rfl
 | some p =>
  obtain ⟨e,r⟩:=p
  simp only [decide_eq_true_eq]
theorem spn_all:∀ l:Bs,spn true l = l.length ↔ l.all dig = true
 | []=>by simp [spn]
 | c :: r=>by
  have:=spn_all r
  have hl:=spn_le true r
  unfold spn
  by_cases h:dig c = true
  ·rw [if_pos h]
   simp only [List.length_cons,List.all_cons,h,Bool.true_and,Nat.add_right_cancel_iff]
   exact this
  ·rw [if_neg h]
   simp only [List.length_cons,List.all_cons,h,Bool.false_and]
   constructor
   ·intro k; omega
   ·intro k; cases k
set_option maxRecDepth 100000 in
set_option maxHeartbeats 1000000 in
theorem cutEpoch_gb (s:ByteArray) (w:World) (hs:s.size < 4294967281) (hm:MaxLen w) :
  Calls Tryz.prog 153 #[.string s] w fun e w'=>e = .returned (.tuple #[.string (S (epF (li s)).1),.string (S (epF (li s)).2.1),.bool (epF (li s)).2.2]) ∧ Gb w.heap.size w w':=by
 have c1:=cut_gb s w hs hm
 unfold epF
 cases hc:cut1 58 (li s) with
 | none =>
  rw [hc] at c1
  have e:S (li s) = s:=S_self s
  rw [e]
  have e48:S [48] = ⟨#[48]⟩:=rfl
  rw [e48]
  clear hc e e48
  go_enter Tryz.func153,Tryz.ntmps153
  go_wp2_with fail
  refine c1.mono ?_
  rintro e w' ⟨rfl,k1⟩
  go_wp2_with fail
  go_ret3
  exact ⟨rfl,k1⟩
 | some p =>
  obtain ⟨a,r⟩:=p
  rw [hc] at c1
  have c1:Calls Tryz.prog 172 #[.string s,.string ⟨#[58]⟩] w fun e w'=>e = .returned (.tuple #[.string (S a),.string (S r),.bool true]) ∧ Gb w.heap.size w w':=c1
  have hp:=cut1_parts _ _ _ _ hc
  have hl:=congrArg List.length hp
  rw [li_len,List.length_append,List.length_cons] at hl
  have hza:(S a).size = a.length:=S_size a
  have c2:=fun w=>span_gb (S a) true w (by omega)
  rw [S_li] at c2
  obtain ⟨G,hG⟩:∃ G,decide (1 ≤ a.length ∧ a.length ≤ 9 ∧ a.all dig = true) = G:=⟨_,rfl⟩
  have hsp:=spn_all a
  have hG2:decide (1 ≤ a.length ∧ a.length ≤ 9 ∧ spn true a = a.length) = G:=by rw [← hG]; congr 1; rw [hsp]
  simp only [hG]
  rw [← hza] at hG2
  obtain ⟨K,hK⟩:∃ K,spn true a = K:=⟨_,rfl⟩
  rw [hK] at c2 hG2
  have hze:(S a).size = 0 → (S a).toList.isEmpty = true:=fun h=>(empty_is h).1
  have hzn:(S a).size ≠ 0 → (S a).toList.isEmpty = false:=fun h=>(empty_no h).1
  have HG:=Lib.hid hG2
  clear hK hG2 hG hsp hza hl hp hc
  generalize S a = x at *
  generalize S r = y at *
  by_cases h0:x.size = 0
  ·have he:=hze h0
   have hF:G = false:=by rw [← HG.out]; exact decide_eq_false fun k=>by omega
   subst hF
   clear hze hzn HG
   go_enter Tryz.func153,Tryz.ntmps153
   go_wp2_with fail
   refine c1.mono ?_
   rintro e w' ⟨rfl,k1⟩
   go_wp2_with fail
   go_ret3
   exact ⟨rfl,k1⟩
  ·have he:=hzn h0
   by_cases h9:x.size ≤ 9
   ·have h9':(x.size:Int) ≤ 9:=by omega
    have hkk:((K:Int) == (x.size:Int)) = G:=by
     rw [← HG.out,Bool.eq_iff_iff,beq_iff_eq,decide_eq_true_eq]
     constructor
     ·intro h; exact ⟨by omega,h9,by omega⟩
     ·intro h; have:=h.2.2; omega
    clear hze hzn HG
    go_enter Tryz.func153,Tryz.ntmps153
    go_wp2_with fail
    refine c1.mono ?_
    rintro e w' ⟨rfl,k1⟩
    go_wp2_with fail
    refine (c2 _).mono ?_
    rintro e w2 ⟨rfl,k2⟩
    go_wp2_with fail
    go_ret3
    exact ⟨rfl,k1.trans (k2.mono k1.size)⟩
   ·have h9':¬ (x.size:Int) ≤ 9:=by omega
    have hF:G = false:=by rw [← HG.out]; exact decide_eq_false fun k=>by omega
    subst hF
    clear hze hzn HG
    go_enter Tryz.func153,Tryz.ntmps153
    go_wp2_with fail
    refine c1.mono ?_
    rintro e w' ⟨rfl,k1⟩
    go_wp2_with fail
    go_ret3
    exact ⟨rfl,k1⟩
theorem bang_b (s:ByteArray) (j:Nat) (h:j < s.size):(s.data[j]!).toNat = b s j:=by
 unfold b
 rw [dif_pos h,getElem!_pos s.data j h]
 rfl
set_option maxRecDepth 100000 in
set_option maxHeartbeats 1000000 in
theorem cutRevision_gb (s:ByteArray) (w:World) (hs:s.size < 4294967281) :
  Calls Tryz.prog 154 #[.string s] w fun e w'=>e = .returned (.tuple #[.string (S (rvF (li s)).1),.string (S (rvF (li s)).2.1),.bool (rvF (li s)).2.2]) ∧ Gb w.heap.size w w':=by
 have c1:=Tryz.strings_LastIndex_one s ⟨#[45]⟩ rfl (by omega) w
 have e45:(((⟨#[45]⟩:ByteArray)[0]'(by decide)).toNat:Int) = 45:=rfl
 rw [e45] at c1
 rcases Lib.lastIndexByte_spec s 45 with ⟨h1,h2⟩ | ⟨i,hi,h1,h2,h3⟩
 ·have hc:cutZ 45 (li s) = none:=cutZ_none fun j hj hh=>h2 j hj (by rw [bang_b s j hj,hh]; rfl)
  unfold rvF
  rw [hc]
  rw [h1] at c1
  have e:S (li s) = s:=S_self s
  have e0:S [] = ⟨#[]⟩:=rfl
  simp only [e,e0]
  clear hc e e0 h1 h2 e45
  go_enter Tryz.func154,Tryz.ntmps154
  go_wp2_with fail
  refine c1.mono ?_
  rintro e w' ⟨rfl,rfl⟩
  go_wp2_with fail
  go_ret3
  exact ⟨rfl,Gb.refl _ _⟩
 ·have hc:cutZ 45 (li s) = some ((li s).take i,(li s).drop (i + 1)):=cutZ_at hi (by rw [bang_b s i hi] at h2; have h4:b s i = 45:=by omega
                                                                                    exact h4) fun j hj hj2 hh=>h3 j hj hj2 (by rw [bang_b s j hj2,hh]; rfl)
  unfold rvF
  rw [hc]
  rw [h1] at c1
  obtain ⟨k,hk⟩:∃ k,i + 1 = k:=⟨_,rfl⟩
  have hsum:(i:Int) + 1 = (k:Int):=by omega
  rw [hk]
  have e1:S ((li s).take i) = s.extract 0 i:=(S_of (li_ext_zero s i (by omega))).symm
  have e2:S ((li s).drop k) = s.extract k s.size:=(S_of (li_ext_end s k)).symm
  have c2:=fun w=>isRevision_gb (s.extract k s.size) w (by simp [ByteArray.size_extract]; omega)
  have hd:decide ((li s).drop k ≠ [] ∧ ((li s).drop k).all sig = true) = decide (rvP (s.extract k s.size)):=by
   congr 1
   rw [← rv_is,li_ext_end]
  simp only [e1,e2,hd]
  obtain ⟨G,hG⟩:∃ G,decide (rvP (s.extract k s.size)) = G:=⟨_,rfl⟩
  rw [hG] at c2 ⊢
  have hi1:(i:Int) ≤ s.size:=by omega
  have hi2:(k:Int) ≤ s.size:=by omega
  have hwr:IntKind.i64.wrap (k:Int) = (k:Int):=IntWalk.i64_in _ (by omega)
  clear hc e1 e2 h1 h2 h3 hG hd e45 hk
  go_enter Tryz.func154,Tryz.ntmps154
  go_wp2_with fail
  refine c1.mono ?_
  rintro e w' ⟨rfl,rfl⟩
  go_wp2_with fail
  go_quiet (fail)
  have kq:=gb_drewN w' nq
  generalize w'.drewN nq = wd at *
  go_wp2_with fail
  refine (c2 _).mono ?_
  rintro e w2 ⟨rfl,k2⟩
  go_wp2_with fail
  go_ret3
  exact ⟨rfl,kq.trans (k2.mono kq.size)⟩
end Ver
end Go.Proofs.YtmhpjjjjgakpiaaGreatDoor

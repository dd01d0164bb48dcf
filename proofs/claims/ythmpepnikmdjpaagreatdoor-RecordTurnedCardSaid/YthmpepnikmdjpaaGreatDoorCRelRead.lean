/-
Parse: a version's parts, or that it is none. The reader of package relation: white space, signs, words; what is done, taken, run over. The reader of package relation in memory: made, done, a sign taken, a run of signs.
-/
import Derived.Test.YthmpepnikmdjpaaGreatDoorCVerMay
import Derived.OwnWalk
import Derived.Test.YthmpepnikmdjpaaGreatDoorCVerDef
import Derived.StillTailTactics
import Derived.Deep.QuietTactic
import Derived.BigQuiet
namespace Go.Proofs.YthmpepnikmdjpaaGreatDoor
open Go.RowKit
set_option linter.unusedSimpArgs false
set_option linter.unusedVariables false
namespace Ver
open Txt (b b_eq b_lt)
def MaxLen (w:World):Prop:=∃ m,w.cell? ⟨2,0,none⟩ = some (.int .i64 m)
theorem lt_cell {w:World} {p:Addr} {v:Value} (h:w.cell? p = some v):p.block < w.heap.size:=by
 by_cases hc:p.block < w.heap.size
 ·exact hc
 ·exfalso
  unfold World.cell? at h
  rw [Array.getElem?_eq_none (by omega)] at h
  cases h
theorem MaxLen.below {w w':World} {B:Nat} (h:MaxLen w) (hb:Below B w w') (hB:2 < B):MaxLen w':=by
 obtain ⟨m,hm⟩:=h
 exact ⟨m,by rw [hb.cell (p:=⟨2,0,none⟩) hB]; exact hm⟩
theorem MaxLen.lt {w:World} (h:MaxLen w):2 < w.heap.size:=by
 obtain ⟨m,hm⟩:=h
 exact lt_cell hm
theorem MaxLen.on {w w':World} (h:MaxLen w) (hb:Below w.heap.size w w'):MaxLen w':=h.below hb h.lt
theorem cut_colon (l:Bs):Lib.cut l [58] = (match cut1 58 l with | none=>(l,[],false) | some (a,r)=>(a,r,true)):=by
 have key:∀ l:Bs,(cut1 58 l = none ∧ Lib.index l [58] = -1) ∨ ∃ a r,cut1 58 l = some (a,r) ∧ Lib.index l [58] = (a.length:Int) ∧ l = a ++ 58 :: r:=by
  intro l
  induction l with
  | nil=>exact .inl ⟨rfl,rfl⟩
  | cons c l ih =>
   have e1:Lib.index (c :: l) [58] = if ([58]:List UInt8).isPrefixOf (c :: l) then 0 else if Lib.index l [58] == -1 then -1 else Lib.index l [58] + 1:=rfl
   have e2:cut1 58 (c :: l) = if c = 58 then some ([],l) else (cut1 58 l).map fun p=>(c :: p.1,p.2):=rfl
   by_cases hc:c = 58
   ·subst hc
    exact .inr ⟨[],l,by rw [e2,if_pos rfl],by rw [e1]; rfl,rfl⟩
   ·have hp:([58]:List UInt8).isPrefixOf (c :: l) = false:=by
     simp [List.isPrefixOf]
     exact fun h=>hc h.symm
    rw [e1,e2,if_neg hc,hp]
    rcases ih with ⟨h1,h2⟩ | ⟨a,r,h1,h2,h3⟩
    ·left
     rw [h1,h2]
     exact ⟨rfl,rfl⟩
    ·right
     refine ⟨c :: a,r,by rw [h1]; rfl,?_,by rw [h3]; rfl⟩
     rw [h2]
     have:((a.length:Int) == -1) = false:=by rw [beq_eq_false_iff_ne]; omega
     simp [this]
 unfold Lib.cut
 rcases key l with ⟨h1,h2⟩ | ⟨a,r,h1,h2,h3⟩
 ·rw [h1,h2]; rfl
 ·rw [h1,h2,if_pos (by omega),Int.toNat_natCast]
  simp only
  rw [h3,List.take_left]
  congr 2
  show List.drop (a.length + 1) (a ++ 58 :: r) = r
  rw [← List.drop_drop,List.drop_left]
  rfl
theorem cut_any (s:ByteArray) (w:World) (hs:s.size < 4294967281) (hm:MaxLen w) :
  Calls Tryz.prog 184 #[.string s,.string ⟨#[58]⟩] w fun e w'=>e = .returned (match cut1 58 (li s) with
   | none=>.tuple #[.string s,.string (S []),.bool false]
   | some (a,r)=>.tuple #[.string (S a),.string (S r),.bool true]) ∧ Below w.heap.size w w':=by
 obtain ⟨m,hm⟩:=hm
 refine (Tryz.strings_Cut s ⟨#[58]⟩ m w hs hm).mono fun e w' h=>⟨?_,?_⟩
 ·rw [h.1,show (⟨#[58]⟩:ByteArray).data.toList = [58] from rfl,cut_colon]
  show _ = Ending.returned (match cut1 58 s.data.toList with
   | none=>.tuple #[.string s,.string (S []),.bool false]
   | some (a,r)=>.tuple #[.string (S a),.string (S r),.bool true])
  cases cut1 58 s.data.toList with
  | none =>
   show Ending.returned (.tuple #[.string (S s.data.toList),.string (S []),.bool false]) = _
   rw [S_self]
  | some p=>rfl
 ·obtain ⟨_,n,rfl⟩:=h
  exact below_drewN _ _
theorem cut1_parts:∀ (x:UInt8) (l a r:Bs),cut1 x l = some (a,r) → l = a ++ x :: r
 | _,[],_,_,h=>by cases h
 | x,c :: l,a,r,h=>by
  rw [cut1] at h
  by_cases hc:c = x
  ·rw [if_pos hc] at h
   cases h
   rw [hc]; rfl
  ·rw [if_neg hc] at h
   cases hq:cut1 x l with
   | none=>rw [hq] at h; cases h
   | some p =>
    rw [hq] at h
    cases h
    rw [cut1_parts x l p.1 p.2 hq]
    rfl
theorem cutZ_parts:∀ (x:UInt8) (l a r:Bs),cutZ x l = some (a,r) → l = a ++ x :: r
 | _,[],_,_,h=>by cases h
 | x,c :: l,a,r,h=>by
  rw [cutZ] at h
  cases hq:cutZ x l with
  | none =>
   rw [hq] at h
   by_cases hc:c = x
   ·simp [hc] at h
    obtain ⟨rfl,rfl⟩:=h
    rw [hc]; rfl
   ·simp [hc] at h
  | some p =>
   rw [hq] at h
   cases h
   rw [cutZ_parts x l p.1 p.2 hq]
   rfl
def epF (l:Bs):Bs × Bs × Bool:=match cut1 58 l with
 | none=>([48],l,true)
 | some (e,r)=>(e,r,decide (1 ≤ e.length ∧ e.length ≤ 9 ∧ e.all dig = true))
theorem ep_is (l:Bs):epochOf l = if (epF l).2.2 = true then some ((epF l).1,(epF l).2.1) else none:=by
 unfold epochOf epF
 cases cut1 58 l with
 | none=>rfl
 | some p =>
  obtain ⟨e,r⟩:=p
  simp only [decide_eq_true_eq]
def rvF (l:Bs):Bs × Bs × Bool:=match cutZ 45 l with
 | none=>(l,[],true)
 | some (u,v)=>(u,v,decide (v ≠ [] ∧ v.all sig = true))
theorem rvF_is (l:Bs):revOf l = if (rvF l).2.2 = true then some ((rvF l).1,(rvF l).2.1) else none:=by
 unfold revOf rvF
 cases cutZ 45 l with
 | none=>rfl
 | some p =>
  obtain ⟨e,r⟩:=p
  simp only [decide_eq_true_eq]
theorem spn_all:∀ l:Bs,spn true l = l.length ↔ l.all dig = true
 | []=>by simp [spn]
 | c :: r=>by
  have:=spn_all r
  have hl:=spn_le true r
  unfold spn
  by_cases h:dig c = true
  ·rw [if_pos h]
   simp only [List.length_cons,List.all_cons,h,Bool.true_and,Nat.add_right_cancel_iff]
   exact this
  ·rw [if_neg h]
   simp only [List.length_cons,List.all_cons,h,Bool.false_and]
   constructor
   ·intro k; omega
   ·intro k; cases k
set_option maxRecDepth 100000 in
set_option maxHeartbeats 1000000 in
theorem cutEpoch_any (s:ByteArray) (w:World) (hs:s.size < 4294967281) (hm:MaxLen w) :
  Calls Tryz.prog 138 #[.string s] w fun e w'=>e = .returned (.tuple #[.string (S (epF (li s)).1),.string (S (epF (li s)).2.1),.bool (epF (li s)).2.2]) ∧ Below w.heap.size w w':=by
 have c1:=cut_any s w hs hm
 unfold epF
 cases hc:cut1 58 (li s) with
 | none =>
  rw [hc] at c1
  have e:S (li s) = s:=S_self s
  rw [e]
  have e48:S [48] = ⟨#[48]⟩:=rfl
  rw [e48]
  clear hc e e48
  go_enter Tryz.func138,Tryz.ntmps138
  go_wp2_with fail
  refine c1.mono ?_
  rintro e w' ⟨rfl,k1⟩
  go_wp2_with fail
  go_ret3
  exact ⟨rfl,k1⟩
 | some p =>
  obtain ⟨a,r⟩:=p
  rw [hc] at c1
  have c1:Calls Tryz.prog 184 #[.string s,.string ⟨#[58]⟩] w fun e w'=>e = .returned (.tuple #[.string (S a),.string (S r),.bool true]) ∧ Below w.heap.size w w':=c1
  have hp:=cut1_parts _ _ _ _ hc
  have hl:=congrArg List.length hp
  rw [li_len,List.length_append,List.length_cons] at hl
  have hza:(S a).size = a.length:=S_size a
  have c2:=fun w=>span_any (S a) true w (by omega)
  rw [S_li] at c2
  obtain ⟨G,hG⟩:∃ G,decide (1 ≤ a.length ∧ a.length ≤ 9 ∧ a.all dig = true) = G:=⟨_,rfl⟩
  have hsp:=spn_all a
  have hG2:decide (1 ≤ a.length ∧ a.length ≤ 9 ∧ spn true a = a.length) = G:=by rw [← hG]; congr 1; rw [hsp]
  simp only [hG]
  rw [← hza] at hG2
  obtain ⟨K,hK⟩:∃ K,spn true a = K:=⟨_,rfl⟩
  rw [hK] at c2 hG2
  have hze:(S a).size = 0 → (S a).toList.isEmpty = true:=fun h=>(empty_is h).1
  have hzn:(S a).size ≠ 0 → (S a).toList.isEmpty = false:=fun h=>(empty_no h).1
  have HG:=Lib.hid hG2
  clear hK hG2 hG hsp hza hl hp hc
  generalize S a = x at *
  generalize S r = y at *
  by_cases h0:x.size = 0
  ·have he:=hze h0
   have hF:G = false:=by rw [← HG.out]; exact decide_eq_false fun k=>by omega
   subst hF
   clear hze hzn HG
   go_enter Tryz.func138,Tryz.ntmps138
   go_wp2_with fail
   refine c1.mono ?_
   rintro e w' ⟨rfl,k1⟩
   go_wp2_with fail
   go_ret3
   exact ⟨rfl,k1⟩
  ·have he:=hzn h0
   by_cases h9:x.size ≤ 9
   ·have h9':(x.size:Int) ≤ 9:=by omega
    have hkk:((K:Int) == (x.size:Int)) = G:=by
     rw [← HG.out,Bool.eq_iff_iff,beq_iff_eq,decide_eq_true_eq]
     constructor
     ·intro h; exact ⟨by omega,h9,by omega⟩
     ·intro h; have:=h.2.2; omega
    clear hze hzn HG
    go_enter Tryz.func138,Tryz.ntmps138
    go_wp2_with fail
    refine c1.mono ?_
    rintro e w' ⟨rfl,k1⟩
    go_wp2_with fail
    refine (c2 _).mono ?_
    rintro e w2 ⟨rfl,k2⟩
    go_wp2_with fail
    go_ret3
    exact ⟨rfl,k1.trans (k2.mono k1.size)⟩
   ·have h9':¬ (x.size:Int) ≤ 9:=by omega
    have hF:G = false:=by rw [← HG.out]; exact decide_eq_false fun k=>by omega
    subst hF
    clear hze hzn HG
    go_enter Tryz.func138,Tryz.ntmps138
    go_wp2_with fail
    refine c1.mono ?_
    rintro e w' ⟨rfl,k1⟩
    go_wp2_with fail
    go_ret3
    exact ⟨rfl,k1⟩
theorem bang_b (s:ByteArray) (j:Nat) (h:j < s.size):(s.data[j]!).toNat = b s j:=by
 unfold b
 rw [dif_pos h,getElem!_pos s.data j h]
 rfl
set_option maxRecDepth 100000 in
set_option maxHeartbeats 1000000 in
theorem cutRevision_any (s:ByteArray) (w:World) (hs:s.size < 4294967281) :
  Calls Tryz.prog 139 #[.string s] w fun e w'=>e = .returned (.tuple #[.string (S (rvF (li s)).1),.string (S (rvF (li s)).2.1),.bool (rvF (li s)).2.2]) ∧ Below w.heap.size w w':=by
 have c1:=Tryz.strings_LastIndex_one s ⟨#[45]⟩ rfl (by omega) w
 have e45:(((⟨#[45]⟩:ByteArray)[0]'(by decide)).toNat:Int) = 45:=rfl
 rw [e45] at c1
 rcases Lib.lastIndexByte_spec s 45 with ⟨h1,h2⟩ | ⟨i,hi,h1,h2,h3⟩
 ·have hc:cutZ 45 (li s) = none:=cutZ_none fun j hj hh=>h2 j hj (by rw [bang_b s j hj,hh]; rfl)
  unfold rvF
  rw [hc]
  rw [h1] at c1
  have e:S (li s) = s:=S_self s
  have e0:S [] = ⟨#[]⟩:=rfl
  simp only [e,e0]
  clear hc e e0 h1 h2 e45
  go_enter Tryz.func139,Tryz.ntmps139
  go_wp2_with fail
  refine c1.mono ?_
  rintro e w' ⟨rfl,rfl⟩
  go_wp2_with fail
  go_ret3
  exact ⟨rfl,Below.refl _ _⟩
 ·have hc:cutZ 45 (li s) = some ((li s).take i,(li s).drop (i + 1)):=cutZ_at hi (by rw [bang_b s i hi] at h2; have h4:b s i = 45:=by omega
                                                                                    exact h4) fun j hj hj2 hh=>h3 j hj hj2 (by rw [bang_b s j hj2,hh]; rfl)
  unfold rvF
  rw [hc]
  rw [h1] at c1
  obtain ⟨k,hk⟩:∃ k,i + 1 = k:=⟨_,rfl⟩
  have hsum:(i:Int) + 1 = (k:Int):=by omega
  rw [hk]
  have e1:S ((li s).take i) = s.extract 0 i:=(S_of (li_ext_zero s i (by omega))).symm
  have e2:S ((li s).drop k) = s.extract k s.size:=(S_of (li_ext_end s k)).symm
  have c2:=fun w=>isRevision_any (s.extract k s.size) w (by simp [ByteArray.size_extract]; omega)
  have hd:decide ((li s).drop k ≠ [] ∧ ((li s).drop k).all sig = true) = decide (rvP (s.extract k s.size)):=by
   congr 1
   rw [← rv_is,li_ext_end]
  simp only [e1,e2,hd]
  obtain ⟨G,hG⟩:∃ G,decide (rvP (s.extract k s.size)) = G:=⟨_,rfl⟩
  rw [hG] at c2 ⊢
  have hi1:(i:Int) ≤ s.size:=by omega
  have hi2:(k:Int) ≤ s.size:=by omega
  have hwr:IntKind.i64.wrap (k:Int) = (k:Int):=IntWalk.i64_in _ (by omega)
  clear hc e1 e2 h1 h2 h3 hG hd e45 hk
  go_enter Tryz.func139,Tryz.ntmps139
  go_wp2_with fail
  refine c1.mono ?_
  rintro e w' ⟨rfl,rfl⟩
  go_wp2_with fail
  go_quiet (fail)
  have kq:=below_drewN w' nq
  generalize w'.drewN nq = wd at *
  go_wp2_with fail
  refine (c2 _).mono ?_
  rintro e w2 ⟨rfl,k2⟩
  go_wp2_with fail
  go_ret3
  exact ⟨rfl,kq.trans (k2.mono kq.size)⟩
end Ver
end Go.Proofs.YthmpepnikmdjpaaGreatDoor
namespace Go.Proofs.YthmpepnikmdjpaaGreatDoor
open Go.RowKit
set_option linter.unusedSimpArgs false
set_option linter.unusedVariables false
namespace Rl
open Ver (Bs li li_len S S_self S_of S_size S_li below_drewN)
def whN (c:Nat):Bool:=decide (c = 32) || decide (c = 9)
def sgN (c:Nat):Bool:=decide (c = 60) || decide (c = 61) || decide (c = 62)
def mkN (c:Nat):Bool:=decide (c = 44) || decide (c = 124) || decide (c = 40) || decide (c = 41)
def wdN (c:Nat):Bool:=!whN c && !sgN c && !mkN c
theorem wh_n (c:UInt8):whN c.toNat = wh c:=by unfold wh whN; simp [← UInt8.toNat_inj]
theorem sg_n (c:UInt8):sgN c.toNat = sg c:=by unfold sg sgN; simp [← UInt8.toNat_inj]
theorem mk_n (c:UInt8):mkN c.toNat = mk c:=by unfold mk mkN; simp [← UInt8.toNat_inj]
theorem wd_n (c:UInt8):wdN c.toNat = wd c:=by unfold wd wdN; rw [wh_n,sg_n,mk_n]
theorem isWhite_any (r:Nat) (w:World):Calls Tryz.prog 285 #[.int .i32 r] w fun e w'=>e = .returned (.bool (whN r)) ∧ w' = w:=by
 go_enter Tryz.func285,Tryz.ntmps285
 go_wp2_with fail
 all_goals
  go_ret
  refine Ver.ret_bool ?_
  simp [whN]
  try omega
theorem isSign_any (r:Nat) (w:World):Calls Tryz.prog 249 #[.int .i32 r] w fun e w'=>e = .returned (.bool (sgN r)) ∧ w' = w:=by
 go_enter Tryz.func249,Tryz.ntmps249
 go_wp2_with fail
 all_goals
  go_ret
  refine Ver.ret_bool ?_
  simp [sgN]
  try omega
theorem index_marks (r:Nat) (h:r < 128):decide (0 ≤ Lib.indexByte [44,124,40,41] (r:Int).toNat.toUInt8) = mkN r:=by
 have:∀ x:BitVec 7,decide (0 ≤ Lib.indexByte [44,124,40,41] (x.toNat:Int).toNat.toUInt8) = mkN x.toNat:=by decide +kernel
 have e:=this (BitVec.ofNat 7 r)
 rwa [BitVec.toNat_ofNat,Nat.mod_eq_of_lt (by omega)] at e
theorem contains_any (r:Nat) (w:World):Calls Tryz.prog 286 #[.string ⟨#[44,124,40,41]⟩,.int .i32 r] w fun e w'=>e = .returned (.bool (mkN r)) ∧ Below w.heap.size w w':=by
 by_cases h:r < 128
 ·have c:=Tryz.strings_ContainsRune_ascii ⟨#[44,124,40,41]⟩ (r:Int) w (by omega) (by omega)
  rw [show (⟨#[44,124,40,41]⟩:ByteArray).data.toList = [44,124,40,41] from rfl,index_marks r h] at c
  exact c.mono fun e w' hh=>⟨hh.1,by rw [hh.2]; exact Below.refl _ _⟩
 ·have c:=fun w=>indexRune_high (r:Int) w (by omega)
  unfold marks at c
  rw [show mkN r = false by unfold mkN; simp; omega]
  clear h
  go_enter Tryz.func286,Tryz.ntmps286
  go_wp2_with fail
  refine (c _).mono ?_
  rintro e w' ⟨rfl,k⟩
  go_wp2_with fail
  go_ret
  exact ⟨rfl,k⟩
set_option maxRecDepth 100000 in
theorem isWord_any (r:Nat) (w:World):Calls Tryz.prog 246 #[.int .i32 r] w fun e w'=>e = .returned (.bool (wdN r)) ∧ Below w.heap.size w w':=by
 have c1:=fun w=>isWhite_any r w
 have c2:=fun w=>isSign_any r w
 have c3:=fun w=>contains_any r w
 unfold wdN
 generalize whN r = a at *
 generalize sgN r = d at *
 generalize mkN r = f at *
 cases a
 ·cases d
  ·cases f
   all_goals
    go_enter Tryz.func246,Tryz.ntmps246
    go_wp2_with fail
    refine (c1 _).mono ?_
    rintro e w' ⟨rfl,rfl⟩
    go_wp2_with fail
    refine (c2 _).mono ?_
    rintro e w' ⟨rfl,rfl⟩
    go_wp2_with fail
    refine (c3 _).mono ?_
    rintro e w' ⟨rfl,k⟩
    go_wp2_with fail
    go_ret
    exact ⟨rfl,k⟩
  ·go_enter Tryz.func246,Tryz.ntmps246
   go_wp2_with fail
   refine (c1 _).mono ?_
   rintro e w' ⟨rfl,rfl⟩
   go_wp2_with fail
   refine (c2 _).mono ?_
   rintro e w' ⟨rfl,rfl⟩
   go_wp2_with fail
   go_ret
   exact ⟨rfl,Below.refl _ _⟩
 ·go_enter Tryz.func246,Tryz.ntmps246
  go_wp2_with fail
  refine (c1 _).mono ?_
  rintro e w' ⟨rfl,rfl⟩
  go_wp2_with fail
  go_ret
  exact ⟨rfl,Below.refl _ _⟩
/-! ### parts of a text -/
theorem spq_wh (l:Bs):spq whN l = (l.takeWhile wh).length:=by unfold spq; simp only [wh_n]
theorem spq_sg (l:Bs):spq sgN l = (l.takeWhile sg).length:=by unfold spq; simp only [sg_n]
theorem spq_wd (l:Bs):spq wdN l = (l.takeWhile wd).length:=by unfold spq; simp only [wd_n]
theorem span_white (s:ByteArray) (w:World) (hs:s.size ≤ 9223372036854775807) :
  Calls Tryz.prog 284 #[.string s,.func (.func 285) #[] #[]] w fun e w'=>e = .returned (.int .i64 ((li s).takeWhile wh).length) ∧ Below w.heap.size w w':=by
 have:=span_any 285 whN false (fun r h=>by unfold whN; simp; omega) Tryz.call285 (fun r w=>(isWhite_any r w).mono fun e w' hh=>⟨hh.1,by rw [hh.2]; exact Below.refl _ _⟩) s w hs
 rwa [spq_wh] at this
theorem span_sign (s:ByteArray) (w:World) (hs:s.size ≤ 9223372036854775807) :
  Calls Tryz.prog 284 #[.string s,.func (.func 249) #[] #[]] w fun e w'=>e = .returned (.int .i64 ((li s).takeWhile sg).length) ∧ Below w.heap.size w w':=by
 have:=span_any 249 sgN false (fun r h=>by unfold sgN; simp; omega) Tryz.call249 (fun r w=>(isSign_any r w).mono fun e w' hh=>⟨hh.1,by rw [hh.2]; exact Below.refl _ _⟩) s w hs
 rwa [spq_sg] at this
theorem span_word (s:ByteArray) (w:World) (hs:s.size ≤ 9223372036854775807) :
  Calls Tryz.prog 284 #[.string s,.func (.func 246) #[] #[]] w fun e w'=>e = .returned (.int .i64 ((li s).takeWhile wd).length) ∧ Below w.heap.size w w':=by
 have:=span_any 246 wdN true (fun r h=>by unfold wdN whN sgN mkN; simp; omega) Tryz.call246 isWord_any s w hs
 rwa [spq_wd] at this
theorem tw_len (p:UInt8 → Bool) (l:Bs):(l.takeWhile p).length ≤ l.length:=(List.takeWhile_sublist _).length_le
theorem drop_tw (p:UInt8 → Bool) (l:Bs):l.drop (l.takeWhile p).length = l.dropWhile p:=by
 have:=List.drop_left (l₁:=l.takeWhile p) (l₂:=l.dropWhile p)
 rwa [List.takeWhile_append_dropWhile] at this
theorem take_tw (p:UInt8 → Bool) (l:Bs):l.take (l.takeWhile p).length = l.takeWhile p:=by
 have:=List.take_left (l₁:=l.takeWhile p) (l₂:=l.dropWhile p)
 rwa [List.takeWhile_append_dropWhile] at this
theorem skip_le (l:Bs):(skip l).length ≤ l.length:=(List.dropWhile_sublist _).length_le
set_option maxRecDepth 100000 in
theorem skip_any (s:ByteArray) (w:World) (hs:s.size ≤ 4611686018427387904) :
  Calls Tryz.prog 283 #[.string s] w fun e w'=>e = .returned (.string (S (skip (li s)))) ∧ Below w.heap.size w w':=by
 have c:=fun w=>span_white s w (by omega)
 have hl:=tw_len wh (li s)
 rw [li_len] at hl
 have hres:S (skip (li s)) = s.extract ((li s).takeWhile wh).length s.size:=(S_of (by rw [Ver.li_ext_end,drop_tw]; rfl)).symm
 rw [hres]
 generalize ((li s).takeWhile wh).length = n at *
 have hl':(n:Int) ≤ s.size:=by omega
 have hwr:IntKind.i64.wrap (n:Int) = (n:Int):=IntWalk.i64_in _ (by omega)
 clear hres
 go_enter Tryz.func283,Tryz.ntmps283
 go_wp2_with fail

 refine (c _).mono ?_
 rintro e w' ⟨rfl,k⟩
 go_wp2_with fail
 go_ret
 exact ⟨rfl,k⟩
end Rl
end Go.Proofs.YthmpepnikmdjpaaGreatDoor
namespace Go.Proofs.YthmpepnikmdjpaaGreatDoor
open Go.RowKit
set_option linter.unusedSimpArgs false
set_option linter.unusedVariables false
namespace Rl
open Ver (Bs li li_len S S_self S_of S_size S_li below_drewN empty_is empty_no)
def Rd (w:World) (p:Nat) (l:Bs):Prop:=Blk.Is w p 285 #[.string (S l)] ∧ l.length ≤ 4611686018427387904
theorem Rd.chg {w w':World} {p:Nat} {l:Bs} {Q:Nat → Prop} (h:Rd w p l) (hc:Blk.Chg Q w w') (hn:¬ Q p):Rd w' p l:=⟨hc.is h.1 hn,h.2⟩
theorem Rd.below {w w':World} {p:Nat} {l:Bs} (h:Rd w p l) (hb:Below w.heap.size w w'):Rd w' p l:=h.chg (Q:=fun _=>False) (Blk.Chg.ofBelow' hb) (by simp)
theorem Rd.set {w:World} {p:Nat} {l:Bs} (h:Rd w p l) (m:Bs) (hm:m.length ≤ 4611686018427387904):Rd (w.setCell ⟨p,0,none⟩ (.string (S m))) p m:=⟨by have:=h.1.set 0 (.string (S m)); simpa using this,hm⟩
set_option maxRecDepth 100000 in
theorem new_any (s:ByteArray) (w:World) (hs:s.size ≤ 4611686018427387904) :
  Calls Tryz.prog 241 #[.string s] w fun e w'=>∃ p,e = .returned (.pointer (some ⟨p,0,none⟩)) ∧ w.heap.size ≤ p ∧ Rd w' p (skip (li s)) ∧ Below w.heap.size w w':=by
 have c:=fun w=>skip_any s w hs
 have hl:=skip_le (li s)
 rw [li_len] at hl
 have hl2:(skip (li s)).length ≤ 4611686018427387904:=by omega
 have HL:=Lib.hid hl2
 clear hl hl2
 obtain ⟨m,hm⟩:∃ m,skip (li s) = m:=⟨_,rfl⟩
 rw [hm] at c HL ⊢
 clear hm
 go_enter Tryz.func241,Tryz.ntmps241
 go_wp2_with fail
 refine (c _).mono ?_
 rintro e w' ⟨rfl,k⟩
 go_wp2_with fail
 go_ret
 exact ⟨_,rfl,k.size,⟨Blk.Is.new _ _ _,HL.out⟩,k.alloc k.size _⟩
set_option maxRecDepth 100000 in
theorem done_any (p:Nat) (l:Bs) (w:World) (h:Rd w p l) :
  Calls Tryz.prog 242 #[.pointer (some ⟨p,0,none⟩)] w fun e w'=>e = .returned (.bool (decide (l = []))) ∧ w' = w:=by
 have c0:w.cell? ⟨p,0,none⟩ = some (.string (S l)):=h.1.at rfl
 have he:(S l).toList.isEmpty = decide (l = []):=by
  rw [Lib.toList_data]; show (l.toArray.toList).isEmpty = _; cases l <;> rfl
 generalize S l = s at *
 go_enter Tryz.func242,Tryz.ntmps242
 go_wp2_with fail
 go_ret
 exact ⟨rfl,rfl⟩
theorem prefix_one (c:UInt8) (l:Bs):Lib.hasPrefix l [c] = (tk c l).isSome:=by
 cases l with
 | nil=>rfl
 | cons x l =>
  show List.isPrefixOf [c] (x :: l) = _
  rw [tk_eq]
  by_cases h:x = c
  ·rw [if_pos h,h]; simp [List.isPrefixOf]
  ·rw [if_neg h]; simp [List.isPrefixOf]; exact fun e=>h e.symm
set_option maxRecDepth 100000 in
theorem take_any (p:Nat) (l:Bs) (c:UInt8) (w:World) (h:Rd w p l) :
  Calls Tryz.prog 247 #[.pointer (some ⟨p,0,none⟩),.string ⟨#[c]⟩] w fun e w'=>e = .returned (.bool (tk c l).isSome) ∧ Rd w' p ((tk c l).getD l) ∧ Blk.Chg (fun k=>k = p) w w':=by
 have c0:w.cell? ⟨p,0,none⟩ = some (.string (S l)):=h.1.at rfl
 have cp:=fun w=>Tryz.strings_CutPrefix (S l) ⟨#[c]⟩ w
 rw [show (S l).data.toList = l from S_li l,show (⟨#[c]⟩:ByteArray).data.toList = [c] from rfl,prefix_one] at cp
 have hpl:=h.1.lt
 cases ht:tk c l with
 | none =>
  rw [ht] at cp
  generalize (Lib.trimPrefix l [c]).toArray = y at *
  have H:=Lib.hid h
  clear h ht
  go_enter Tryz.func247,Tryz.ntmps247
  go_wp2_with fail
  refine (cp _).mono ?_
  rintro e w' ⟨rfl,rfl⟩
  go_wp2_with fail
  go_ret
  exact ⟨rfl,H.out,Blk.Chg.refl _ _⟩
 | some r =>
  obtain ⟨t,rfl,rfl⟩:=tk_some ht
  have e1:(Lib.trimPrefix (c :: t) [c]).toArray = t.toArray:=by
   unfold Lib.trimPrefix
   rw [prefix_one,ht]
   rfl
  rw [ht,e1] at cp
  have hlt:t.length ≤ 4611686018427387904:=by have:=h.2; simp at this; omega
  have cs:=fun w=>skip_any ⟨t.toArray⟩ w (by show t.toArray.size ≤ _; simpa using hlt)
  rw [show li ⟨t.toArray⟩ = t from by show t.toArray.toList = t; simp] at cs
  have hm:(skip t).length ≤ 4611686018427387904:=Nat.le_trans (skip_le t) hlt
  have HM:=Lib.hid hm
  have H:=Lib.hid h
  clear h ht e1 hlt hm
  generalize (⟨t.toArray⟩:ByteArray) = y at *
  simp only [Option.getD_some,Option.isSome_some]
  generalize skip t = m at *
  generalize S (c :: t) = z at *
  go_enter Tryz.func247,Tryz.ntmps247
  go_wp2_with fail
  refine (cp _).mono ?_
  rintro e w' ⟨rfl,rfl⟩
  go_wp2_with fail
  refine (cs _).mono ?_
  rintro e w1 ⟨rfl,k⟩
  have h1:=H.out.below k
  have c1:=h1.1.at (i:=0) rfl
  have f1:=h1.1.free 0
  have hs1:=h1.set m HM.out
  have k1:Blk.Chg (fun k=>k = p) w' (w1.setCell ⟨p,0,none⟩ (.string (S m))):=(Blk.Chg.ofBelow (S:=fun k=>k = p) k (fun j h1 h2=>by omega)).setAt rfl
  have HS:=Lib.hid hs1
  have HK:=Lib.hid k1
  clear hs1 k1 h1 k
  go_wp2_with fail
  go_ret
  exact ⟨rfl,HS.out,HK.out⟩
set_option maxRecDepth 100000 in
theorem run_gen (f:Nat) (pr:UInt8 → Bool) (hspan:∀ (s:ByteArray) (w:World),s.size ≤ 9223372036854775807 → Calls Tryz.prog 284 #[.string s,.func (.func f) #[] #[]] w fun e w'=>e = .returned (.int .i64 ((li s).takeWhile pr).length) ∧ Below w.heap.size w w')
  (p:Nat) (l:Bs) (w:World) (h:Rd w p l) :
  Calls Tryz.prog 245 #[.pointer (some ⟨p,0,none⟩),.func (.func f) #[] #[]] w fun e w'=>e = .returned (.string (S (l.takeWhile pr))) ∧ Rd w' p (skip (l.dropWhile pr)) ∧ Blk.Chg (fun k=>k = p) w w':=by
 have c0:w.cell? ⟨p,0,none⟩ = some (.string (S l)):=h.1.at rfl
 have hlen:=h.2
 have cs:=fun w=>hspan (S l) w (by rw [S_size]; omega)
 rw [S_li] at cs
 have hl:=tw_len pr l
 have e1:S (l.takeWhile pr) = (S l).extract 0 (l.takeWhile pr).length:=(S_of (by rw [Ver.li_ext_zero _ _ (by rw [S_size]; exact hl),S_li,take_tw])).symm
 have e2:li ((S l).extract (l.takeWhile pr).length (S l).size) = l.dropWhile pr:=by rw [Ver.li_ext_end,S_li,drop_tw]
 have e3:(l.dropWhile pr).length ≤ l.length:=(List.dropWhile_sublist _).length_le
 have ck:=fun w=>skip_any ((S l).extract (l.takeWhile pr).length (S l).size) w (by rw [← li_len,e2]; omega)
 rw [e2] at ck
 have hm:(skip (l.dropWhile pr)).length ≤ 4611686018427387904:=by have:=skip_le (l.dropWhile pr); omega
 have hz:(S l).size = l.length:=S_size l
 have hl':((l.takeWhile pr).length:Int) ≤ (S l).size:=by rw [hz]; omega
 have hwr:IntKind.i64.wrap ((l.takeWhile pr).length:Int) = ((l.takeWhile pr).length:Int):=IntWalk.i64_in _ (by omega)
 have hpl:=h.1.lt
 rw [e1]
 have HM:=Lib.hid hm
 have H:=Lib.hid h
 clear h hm e1 e2 e3 hl hz hlen
 generalize skip (l.dropWhile pr) = m at *
 generalize (l.takeWhile pr).length = n at *
 generalize hq:S l = z at *
 clear hq
 go_enter Tryz.func245,Tryz.ntmps245
 go_wp2_with fail
 refine (cs _).mono ?_
 rintro e w1 ⟨rfl,k1⟩
 have c1:=(k1.cell (p:=⟨p,0,none⟩) hpl).trans c0
 have hpl1:=Nat.lt_of_lt_of_le hpl k1.size
 have H1:=Lib.hid (H.out.below k1)
 clear c0
 go_wp2_with fail
 refine (ck _).mono ?_
 rintro e w2 ⟨rfl,k2⟩
 have h2:=H1.out.below k2
 have c2:=(k2.cell (p:=⟨p,0,none⟩) hpl1).trans c1
 have f2:=h2.1.free 0
 have hs2:=h2.set m HM.out
 have k3:Blk.Chg (fun k=>k = p) w (w2.setCell ⟨p,0,none⟩ (.string (S m))):=(Blk.Chg.ofBelow (S:=fun k=>k = p) (k1.trans (k2.mono k1.size)) (fun j h1 h2=>by omega)).setAt rfl
 have HS:=Lib.hid hs2
 have HK:=Lib.hid k3
 clear hs2 k3 h2 k1 k2 c1
 go_wp2_with fail
 go_ret
 exact ⟨rfl,HS.out,HK.out⟩
theorem run_word (p:Nat) (l:Bs) (w:World) (h:Rd w p l) :
  Calls Tryz.prog 245 #[.pointer (some ⟨p,0,none⟩),.func (.func 246) #[] #[]] w fun e w'=>e = .returned (.string (S (l.takeWhile wd))) ∧ Rd w' p (skip (l.dropWhile wd)) ∧ Blk.Chg (fun k=>k = p) w w':=run_gen 246 wd span_word p l w h
theorem run_sign (p:Nat) (l:Bs) (w:World) (h:Rd w p l) :
  Calls Tryz.prog 245 #[.pointer (some ⟨p,0,none⟩),.func (.func 249) #[] #[]] w fun e w'=>e = .returned (.string (S (l.takeWhile sg))) ∧ Rd w' p (skip (l.dropWhile sg)) ∧ Blk.Chg (fun k=>k = p) w w':=run_gen 249 sg span_sign p l w h
end Rl
end Go.Proofs.YthmpepnikmdjpaaGreatDoor

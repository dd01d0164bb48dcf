/-
What may be an upstream part, a revision; the first and the last of a sign.
-/
import Derived.Test.YtmhpjjjjgakpiaaGreatDoorCVerPartK
namespace Go.Proofs.YtmhpjjjjgakpiaaGreatDoor
open Go.RowKit
set_option linter.unusedSimpArgs false
set_option linter.unusedVariables false
namespace Ver
open Txt (b dec_low dec_high)
theorem all_bytes (p:UInt8 → Bool) (q:Nat → Bool) (h:∀ c:UInt8,p c = q c.toNat) (s:ByteArray):(li s).all p = true ↔ ∀ j,j < s.size → q (b s j) = true:=by
 rw [List.all_eq_true]
 constructor
 ·intro k j hj
  obtain ⟨c,hc,hb⟩:=li_drop s j hj
  have:c ∈ li s:=List.mem_of_mem_drop (i:=j) (by rw [hc]; exact .head _)
  rw [← hb,← h]; exact k c this
 ·intro k c hc
  obtain ⟨j,hj,rfl⟩:=List.mem_iff_getElem.1 hc
  have hj':j < s.size:=by rw [← li_len]; exact hj
  have:=k j hj'
  rw [h]
  unfold b at this
  rw [dif_pos hj'] at this
  exact this
def upP (s:ByteArray):Prop:=0 < s.size ∧ digN (b s 0) = true ∧ ∀ j,j < s.size → upsN (b s j) = true
instance (s:ByteArray):Decidable (upP s):=inferInstanceAs (Decidable (_ ∧ _))
theorem up_is (s:ByteArray):upOK (li s) = decide (upP s):=by
 rw [Bool.eq_iff_iff,decide_eq_true_eq]
 unfold upP
 rw [← all_bytes ups upsN ups_n]
 by_cases h0:s.size = 0
 ·rw [(empty_is h0).2]
  simp [upOK]; omega
 ·obtain ⟨c,hc,hb⟩:=li_drop s 0 (by omega)
  rw [List.drop_zero] at hc
  rw [hc,← hb]
  show (dig c && _) = true ↔ _
  rw [← dig_n]
  simp
  omega
def rvP (s:ByteArray):Prop:=0 < s.size ∧ ∀ j,j < s.size → sigN (b s j) = true
instance (s:ByteArray):Decidable (rvP s):=inferInstanceAs (Decidable (_ ∧ _))
theorem rv_is (s:ByteArray):(li s ≠ [] ∧ (li s).all sig = true) ↔ rvP s:=by
 unfold rvP
 rw [← all_bytes sig sigN sig_n]
 have:li s ≠ [] ↔ 0 < s.size:=by
  rw [← li_len]; exact ⟨fun h=>List.length_pos_iff.2 h,fun h=>List.length_pos_iff.1 h⟩
 rw [this]
theorem dig_sig {c:Nat} (h:digN c = true):sigN c = true:=by unfold sigN; rw [h]; simp
theorem high_sig {c:Nat} (h:128 ≤ c):sigN c = false:=by unfold sigN alfN smlN digN; simp; omega
theorem high_ups {c:Nat} (h:128 ≤ c):upsN c = false:=by unfold upsN; rw [high_sig h]; simp; omega
theorem high_dig {c:Nat} (h:128 ≤ c):digN c = false:=by unfold digN; simp; omega
theorem more {p:Nat → Bool} {i:Nat} (h:∀ j,j < i → p j = true) (hi:p i = true):∀ j,j < i + 1 → p j = true:=fun j hj=>by
 by_cases e:j = i
 ·subst e; exact hi
 ·exact h j (by omega)
set_option maxRecDepth 100000 in
set_option maxHeartbeats 2000000 in
theorem isRevision_gb (s:ByteArray) (w:World) (hs:s.size ≤ 9223372036854775807) :
  Calls Tryz.prog 174 #[.string s] w fun e w'=>e = .returned (.bool (decide (rvP s))) ∧ Gb w.heap.size w w':=by
 obtain ⟨G,hG⟩:∃ G,decide (rvP s) = G:=⟨_,rfl⟩
 have HG:=Lib.hid hG
 rw [hG]
 clear hG
 go_enter Tryz.func174,Tryz.ntmps174
 go_wp2
 go_loopg [] s.size (fun gf wx=>∃ pos:Nat,wx.heap[w.heap.size]? = some (.stringIter s pos) ∧ Gb w.heap.size w wx ∧ Hid (∀ j,j < pos → sigN (b s j) = true) ∧ s.size ≤ pos + gf ∧ pos ≤ s.size)
 case atStart=>exact ⟨0,World.iter_heap w s 0,(Gb.refl _ _).alloc (Nat.le_refl _) _,fun j hj=>by omega,by omega,by omega⟩
 case round =>
  obtain ⟨pos,hit,hbw,HN,hfu,hps⟩:=hrel
  by_cases hlt:pos < s.size
  ·obtain ⟨g',rfl⟩:∃ g',gk = g' + 1:=⟨gk - 1,by omega⟩
   have hnx:∀ ty,(Instr.next (.pointer (some ⟨w.heap.size,0,none⟩)) true ty).run Tryz.prog wr = _:=fun ty=>Lib.run_next_any_at wr w.heap.size s pos ty hit hlt
   obtain ⟨W,hW⟩:∃ W,wr.iterAt w.heap.size s (pos + (Utf8.decode s pos).2) = W:=⟨_,rfl⟩
   have hit2:=Lib.iterAt_heap wr w.heap.size s pos (pos + (Utf8.decode s pos).2) hit
   have hbw2:=hbw.iterAt (k:=w.heap.size) (Nat.le_refl _) s (pos + (Utf8.decode s pos).2)
   rw [hW] at hnx hit2 hbw2
   clear hW hit hbw
   by_cases hb:b s pos < 128
   ·rw [dec_low s pos hlt hb] at hnx hit2
    have hm:=fun h=>more (p:=fun j=>sigN (b s j)) HN.out h
    have ht:sigN (b s pos) = false → G = false:=fun h=>by
     rw [← HG.out]; exact decide_eq_false fun k=>by have:=k.2 pos hlt; rw [h] at this; cases this
    obtain ⟨c,hc⟩:∃ c,b s pos = c:=⟨_,rfl⟩
    rw [hc] at hnx hb hm ht
    clear hc
    go_wp2_with fail
    refine (isSign_any _ _).mono ?_
    rintro e w' ⟨rfl,rfl⟩
    cases hd:sigN c
    ·obtain rfl:=ht hd
     clear hm ht hd HN HG
     go_wp2_with fail
     go_ret
     exact ⟨rfl,hbw2⟩
    ·have HM:=Lib.hid (hm hd)
     clear hm ht hd HN
     go_wp2_with fail
     go_roundg g'
     case measure=>omega
     case rel=>exact ⟨pos + 1,hit2,hbw2,HM,by omega,by omega⟩
   ·have hr:128 ≤ (Utf8.decode s pos).1:=by
     rcases dec_high s pos hlt (by omega) with ⟨_,hd⟩ | ⟨_,_,_,hr⟩
     ·rw [hd]; decide
     ·exact hr
    have hF:G = false:=by
     rw [← HG.out]; exact decide_eq_false fun k=>by have:=k.2 pos hlt; rw [high_sig (by omega)] at this; cases this
    subst hF
    obtain ⟨R,hR⟩:∃ R,(Utf8.decode s pos).1 = R:=⟨_,rfl⟩
    rw [hR] at hnx hr
    obtain ⟨N,hNN⟩:∃ N,(Utf8.decode s pos).2 = N:=⟨_,rfl⟩
    rw [hNN] at hit2
    clear hR HG hNN HN
    go_wp2_with fail
    refine (isSign_any _ _).mono ?_
    rintro e w' ⟨rfl,rfl⟩
    rw [high_sig hr]
    go_wp2_with fail
    go_ret
    exact ⟨rfl,hbw2⟩
  ·have hne:∀ ty,(Instr.next (.pointer (some ⟨w.heap.size,0,none⟩)) true ty).run Tryz.prog wr = _:=fun ty=>Lib.run_next_end_at wr w.heap.size s pos ty hit hlt
   by_cases h0:s.size = 0
   ·obtain ⟨e1,_⟩:=empty_is h0
    have hG:G = false:=by rw [← HG.out]; exact decide_eq_false fun k=>by have:=k.1; omega
    subst hG
    clear HN HG
    go_wp2_with fail
    go_ret
    exact ⟨rfl,hbw⟩
   ·obtain ⟨e1,_⟩:=empty_no h0
    have hG:G = true:=by rw [← HG.out]; exact decide_eq_true ⟨by omega,fun j hj=>HN.out j (by omega)⟩
    subst hG
    clear HN HG
    go_wp2_with fail
    go_ret
    exact ⟨rfl,hbw⟩
set_option maxRecDepth 100000 in
set_option maxHeartbeats 2000000 in
theorem isUpstream_gb (s:ByteArray) (w:World) (hs:s.size ≤ 9223372036854775807) :
  Calls Tryz.prog 155 #[.string s] w fun e w'=>e = .returned (.bool (decide (upP s))) ∧ Gb w.heap.size w w':=by
 obtain ⟨G,hG⟩:∃ G,decide (upP s) = G:=⟨_,rfl⟩
 have HG:=Lib.hid hG
 rw [hG]
 clear hG
 go_enter Tryz.func155,Tryz.ntmps155
 go_wp2
 go_loopg [] s.size (fun gf wx=>∃ pos:Nat,wx.heap[w.heap.size]? = some (.stringIter s pos) ∧ Gb w.heap.size w wx ∧ Hid ((∀ j,j < pos → upsN (b s j) = true) ∧ (0 < pos → digN (b s 0) = true)) ∧ s.size ≤ pos + gf ∧ pos ≤ s.size)
 case atStart=>exact ⟨0,World.iter_heap w s 0,(Gb.refl _ _).alloc (Nat.le_refl _) _,⟨fun j hj=>by omega,fun h=>by omega⟩,by omega,by omega⟩
 case round =>
  obtain ⟨pos,hit,hbw,HN,hfu,hps⟩:=hrel
  by_cases hlt:pos < s.size
  ·obtain ⟨g',rfl⟩:∃ g',gk = g' + 1:=⟨gk - 1,by omega⟩
   have hnx:∀ ty,(Instr.next (.pointer (some ⟨w.heap.size,0,none⟩)) true ty).run Tryz.prog wr = _:=fun ty=>Lib.run_next_any_at wr w.heap.size s pos ty hit hlt
   obtain ⟨W,hW⟩:∃ W,wr.iterAt w.heap.size s (pos + (Utf8.decode s pos).2) = W:=⟨_,rfl⟩
   have hit2:=Lib.iterAt_heap wr w.heap.size s pos (pos + (Utf8.decode s pos).2) hit
   have hbw2:=hbw.iterAt (k:=w.heap.size) (Nat.le_refl _) s (pos + (Utf8.decode s pos).2)
   rw [hW] at hnx hit2 hbw2
   have hpz:(pos:Int) = 0 ∨ ¬ (pos:Int) = 0:=by omega
   clear hW hit hbw
   by_cases hb:b s pos < 128
   ·rw [dec_low s pos hlt hb] at hnx hit2
    rcases hpz with hz | hz
    ·have hz0:pos = 0:=by omega
     subst hz0
     have hm:digN (b s 0) = true → (∀ j,j < 0 + 1 → upsN (b s j) = true) ∧ (0 < 0 + 1 → digN (b s 0) = true):=fun h=>by
      refine ⟨fun j hj=>?_,fun _=>h⟩
      have hj0:j = 0:=by omega
      subst hj0
      unfold upsN
      rw [dig_sig h]
      simp
     have ht:digN (b s 0) = false → G = false:=fun h=>by
      rw [← HG.out]; exact decide_eq_false fun k=>by have:=k.2.1; rw [h] at this; cases this
     obtain ⟨c,hc⟩:∃ c,b s 0 = c:=⟨_,rfl⟩
     rw [hc] at hnx hb ht
     have HM:=Lib.hid hm
     have HC:=Lib.hid hc
     clear hc hm HN
     cases hd:digN c
     ·obtain rfl:=ht hd
      have cd:=isDigit_any c W
      rw [hd] at cd
      clear HM HC ht hd HG
      go_wp2_with fail
      refine cd.mono ?_
      rintro e w' ⟨rfl,rfl⟩
      go_wp2_with fail
      go_ret
      exact ⟨rfl,hbw2⟩
     ·have HM2:=Lib.hid (HM.out (by rw [HC.out]; exact hd))
      have cd:=isDigit_any c W
      have cs:=isSign_any c W
      rw [hd] at cd
      rw [dig_sig hd] at cs
      clear HM HC ht hd
      go_wp2_with fail
      refine cd.mono ?_
      rintro e w' ⟨rfl,rfl⟩
      go_wp2_with fail
      refine cs.mono ?_
      rintro e w' ⟨rfl,rfl⟩
      go_wp2_with fail
      go_roundg g'
      case measure=>omega
      case rel=>exact ⟨0 + 1,hit2,hbw2,HM2,by omega,by omega⟩
    ·have hm:upsN (b s pos) = true → (∀ j,j < pos + 1 → upsN (b s j) = true) ∧ (0 < pos + 1 → digN (b s 0) = true):=fun h=>⟨more (p:=fun j=>upsN (b s j)) HN.out.1 h,fun _=>HN.out.2 (by omega)⟩
     have ht:upsN (b s pos) = false → G = false:=fun h=>by
      rw [← HG.out]; exact decide_eq_false fun k=>by have:=k.2.2 pos hlt; rw [h] at this; cases this
     have hups:upsN (b s pos) = (sigN (b s pos) || decide (b s pos = 45) || decide (b s pos = 58)):=rfl
     have HM:=Lib.hid hm
     clear hm
     obtain ⟨c,hc⟩:∃ c,b s pos = c:=⟨_,rfl⟩
     have HMC:Hid (upsN c = true → (∀ j,j < pos + 1 → upsN (b s j) = true) ∧ (0 < pos + 1 → digN (b s 0) = true)):=by rw [← hc]; exact HM
     rw [hc] at hnx hb ht hups
     clear hc HN HM
     have cs:=isSign_any c W
     cases hd:sigN c
     ·rw [hd] at cs hups
      by_cases h45:c = 45
      ·subst h45
       have HM2:=Lib.hid (HMC.out hups)
       clear HMC ht hd hups
       go_wp2_with fail
       refine cs.mono ?_
       rintro e w' ⟨rfl,rfl⟩
       go_wp2_with fail
       go_roundg g'
       case measure=>omega
       case rel=>exact ⟨pos + 1,hit2,hbw2,HM2,by omega,by omega⟩
      ·by_cases h58:c = 58
       ·subst h58
        have HM2:=Lib.hid (HMC.out hups)
        clear HMC ht hd hups
        go_wp2_with fail
        refine cs.mono ?_
        rintro e w' ⟨rfl,rfl⟩
        go_wp2_with fail
        go_roundg g'
        case measure=>omega
        case rel=>exact ⟨pos + 1,hit2,hbw2,HM2,by omega,by omega⟩
       ·obtain rfl:=ht (by rw [hups]; simp [h45,h58])
        have q1:((c:Int) != 45) = true:=by simp; omega
        have q2:((c:Int) != 58) = true:=by simp; omega
        clear HMC ht hd hups HG
        go_wp2_with fail
        refine cs.mono ?_
        rintro e w' ⟨rfl,rfl⟩
        go_wp2_with fail
        go_ret
        exact ⟨rfl,hbw2⟩
     ·rw [hd] at cs hups
      have HM2:=Lib.hid (HMC.out hups)
      clear HMC ht hd hups
      go_wp2_with fail
      refine cs.mono ?_
      rintro e w' ⟨rfl,rfl⟩
      go_wp2_with fail
      go_roundg g'
      case measure=>omega
      case rel=>exact ⟨pos + 1,hit2,hbw2,HM2,by omega,by omega⟩
   ·have hr:128 ≤ (Utf8.decode s pos).1:=by
     rcases dec_high s pos hlt (by omega) with ⟨_,hd⟩ | ⟨_,_,_,hr⟩
     ·rw [hd]; decide
     ·exact hr
    have hF:G = false:=by
     rw [← HG.out]; exact decide_eq_false fun k=>by have:=k.2.2 pos hlt; rw [high_ups (by omega)] at this; cases this
    subst hF
    obtain ⟨R,hR⟩:∃ R,(Utf8.decode s pos).1 = R:=⟨_,rfl⟩
    rw [hR] at hnx hr
    obtain ⟨N,hNN⟩:∃ N,(Utf8.decode s pos).2 = N:=⟨_,rfl⟩
    rw [hNN] at hit2
    have cd:=isDigit_any R W
    have cs:=isSign_any R W
    rw [high_dig hr] at cd
    rw [high_sig hr] at cs
    have q1:((R:Int) != 45) = true:=by simp; omega
    have q2:((R:Int) != 58) = true:=by simp; omega
    clear hR HG hNN HN
    rcases hpz with hz | hz
    ·go_wp2_with fail
     refine cd.mono ?_
     rintro e w' ⟨rfl,rfl⟩
     go_wp2_with fail
     go_ret
     exact ⟨rfl,hbw2⟩
    ·go_wp2_with fail
     refine cs.mono ?_
     rintro e w' ⟨rfl,rfl⟩
     go_wp2_with fail
     go_ret
     exact ⟨rfl,hbw2⟩
  ·have hne:∀ ty,(Instr.next (.pointer (some ⟨w.heap.size,0,none⟩)) true ty).run Tryz.prog wr = _:=fun ty=>Lib.run_next_end_at wr w.heap.size s pos ty hit hlt
   by_cases h0:s.size = 0
   ·obtain ⟨e1,_⟩:=empty_is h0
    have hG:G = false:=by rw [← HG.out]; exact decide_eq_false fun k=>by have:=k.1; omega
    subst hG
    clear HN HG
    go_wp2_with fail
    go_ret
    exact ⟨rfl,hbw⟩
   ·obtain ⟨e1,_⟩:=empty_no h0
    have hG:G = true:=by rw [← HG.out]; exact decide_eq_true ⟨by omega,HN.out.2 (by omega),fun j hj=>HN.out.1 j (by omega)⟩
    subst hG
    clear HN HG
    go_wp2_with fail
    go_ret
    exact ⟨rfl,hbw⟩
/-! ### the first,the last of a sign -/
theorem cut1_of:∀ (x:UInt8) (a r:Bs),x ∉ a → cut1 x (a ++ x :: r) = some (a,r)
 | x,[],r,_=>by simp [cut1]
 | x,c :: a,r,h=>by
  have hc:c ≠ x:=fun e=>h (by rw [e]; exact .head _)
  show cut1 x (c :: (a ++ x :: r)) = _
  rw [cut1,if_neg hc,cut1_of x a r fun k=>h (.tail _ k)]
  rfl
theorem cut1_no:∀ (x:UInt8) (l:Bs),x ∉ l → cut1 x l = none
 | _,[],_=>rfl
 | x,c :: l,h=>by
  have hc:c ≠ x:=fun e=>h (by rw [e]; exact .head _)
  rw [cut1,if_neg hc,cut1_no x l fun k=>h (.tail _ k)]
  rfl
theorem cutZ_no:∀ (x:UInt8) (l:Bs),x ∉ l → cutZ x l = none
 | _,[],_=>rfl
 | x,c :: l,h=>by
  have hc:c ≠ x:=fun e=>h (by rw [e]; exact .head _)
  rw [cutZ,cutZ_no x l fun k=>h (.tail _ k)]
  simp [hc]
theorem cutZ_of:∀ (x:UInt8) (a r:Bs),x ∉ r → cutZ x (a ++ x :: r) = some (a,r)
 | x,[],r,h=>by
  show cutZ x (x :: r) = _
  rw [cutZ,cutZ_no x r h]; simp
 | x,c :: a,r,h=>by
  show cutZ x (c :: (a ++ x :: r)) = _
  rw [cutZ,cutZ_of x a r h]
theorem no_mem {s:ByteArray} {x:UInt8} {i j:Nat} (h:∀ k,i ≤ k → k < j → k < s.size → b s k ≠ x.toNat):x ∉ ((li s).drop i).take (j - i):=by
 intro hm
 obtain ⟨k,hk,he⟩:=List.mem_iff_getElem.1 hm
 rw [List.length_take,List.length_drop,li_len] at hk
 rw [List.getElem_take,List.getElem_drop] at he
 have hs:i + k < s.size:=by omega
 apply h (i + k) (by omega) (by omega) hs
 unfold b
 rw [dif_pos hs,← he]
 rfl
theorem cut1_at {s:ByteArray} {x:UInt8} {i:Nat} (hi:i < s.size) (hx:b s i = x.toNat) (h:∀ j,j < i → b s j ≠ x.toNat):cut1 x (li s) = some ((li s).take i,(li s).drop (i + 1)):=by
 obtain ⟨c,hc,hb⟩:=li_drop s i hi
 have hcx:c = x:=UInt8.toNat_inj.1 (hb.trans hx)
 have e:li s = (li s).take i ++ x :: (li s).drop (i + 1):=by
  rw [← hcx,← hc,List.take_append_drop]
 have hn:=no_mem (s:=s) (x:=x) (i:=0) (j:=i) fun k _ hk _=>h k hk
 rw [List.drop_zero,Nat.sub_zero] at hn
 conv=>lhs; rw [e]
 exact cut1_of x _ _ hn
theorem cut1_none {s:ByteArray} {x:UInt8} (h:∀ j,j < s.size → b s j ≠ x.toNat):cut1 x (li s) = none:=by
 have hn:=no_mem (s:=s) (x:=x) (i:=0) (j:=s.size) fun k _ hk _=>h k hk
 rw [List.drop_zero,Nat.sub_zero,List.take_of_length_le (by rw [li_len]; exact Nat.le_refl _)] at hn
 exact cut1_no x _ hn
theorem cutZ_at {s:ByteArray} {x:UInt8} {i:Nat} (hi:i < s.size) (hx:b s i = x.toNat) (h:∀ j,i < j → j < s.size → b s j ≠ x.toNat):cutZ x (li s) = some ((li s).take i,(li s).drop (i + 1)):=by
 obtain ⟨c,hc,hb⟩:=li_drop s i hi
 have hcx:c = x:=UInt8.toNat_inj.1 (hb.trans hx)
 have e:li s = (li s).take i ++ x :: (li s).drop (i + 1):=by
  rw [← hcx,← hc,List.take_append_drop]
 have hn:=no_mem (s:=s) (x:=x) (i:=i + 1) (j:=s.size) fun k hk1 hk2 _=>h k (by omega) hk2
 rw [List.take_of_length_le (by rw [List.length_drop,li_len]; exact Nat.le_refl _)] at hn
 conv=>lhs; rw [e]
 exact cutZ_of x _ _ hn
theorem cutZ_none {s:ByteArray} {x:UInt8} (h:∀ j,j < s.size → b s j ≠ x.toNat):cutZ x (li s) = none:=by
 have hn:=no_mem (s:=s) (x:=x) (i:=0) (j:=s.size) fun k _ hk _=>h k hk
 rw [List.drop_zero,Nat.sub_zero,List.take_of_length_le (by rw [li_len]; exact Nat.le_refl _)] at hn
 exact cutZ_no x _ hn
end Ver
end Go.Proofs.YtmhpjjjjgakpiaaGreatDoor

/-
What may be an upstream part, a revision; the first and the last of a sign. Parse: a version's parts, or that it is none. The reader of package relation: white space, signs, words; what is done, taken, run over. The reader of package relation in memory: made, done, a sign taken, a run of signs.
-/
import Derived.Test.YtmhpjjjjgakpiaaGreatDoorDVerPartK
import Derived.OwnWalk
import Derived.Test.YtmhpjjjjgakpiaaGreatDoorDRelDef
import Derived.Test.YtmhpjjjjgakpiaaGreatDoorShelf
import Derived.Test.YtmhpjjjjgakpiaaGreatDoorDTextUtf
import Derived.Laws.Runes
import Derived.Deep.QuietTactic
import Derived.StillTailTactics
import Derived.WalkMore
import Derived.WalkKit
import Derived.ProofKit
import Derived.Below
import Derived.Lib.Hide
import Derived.LoopN
import Derived.Deep.LoopGhost
import Derived.Lib.OthersKept
import Derived.IntWalk
import Derived.BigQuiet
namespace Go.Proofs.YtmhpjjjjgakpiaaGreatDoor
open Go.RowKit
set_option linter.unusedSimpArgs false
set_option linter.unusedVariables false
namespace Ver
open Txt (b dec_low dec_high)
theorem all_bytes (p:UInt8 → Bool) (q:Nat → Bool) (h:∀ c:UInt8,p c = q c.toNat) (s:ByteArray):(li s).all p = true ↔ ∀ j,j < s.size → q (b s j) = true:=by
 rw [List.all_eq_true]
 constructor
 ·intro k j hj
  obtain ⟨c,hc,hb⟩:=li_drop s j hj
  have:c ∈ li s:=List.mem_of_mem_drop (i:=j) (by rw [hc]; exact .head _)
  rw [← hb,← h]; exact k c this
 ·intro k c hc
  obtain ⟨j,hj,rfl⟩:=List.mem_iff_getElem.1 hc
  have hj':j < s.size:=by rw [← li_len]; exact hj
  have:=k j hj'
  rw [h]
  unfold b at this
  rw [dif_pos hj'] at this
  exact this
def upP (s:ByteArray):Prop:=0 < s.size ∧ digN (b s 0) = true ∧ ∀ j,j < s.size → upsN (b s j) = true
instance (s:ByteArray):Decidable (upP s):=inferInstanceAs (Decidable (_ ∧ _))
theorem up_is (s:ByteArray):upOK (li s) = decide (upP s):=by
 rw [Bool.eq_iff_iff,decide_eq_true_eq]
 unfold upP
 rw [← all_bytes ups upsN ups_n]
 by_cases h0:s.size = 0
 ·rw [(empty_is h0).2]
  simp [upOK]; omega
 ·obtain ⟨c,hc,hb⟩:=li_drop s 0 (by omega)
  rw [List.drop_zero] at hc
  rw [hc,← hb]
  show (dig c && _) = true ↔ _
  rw [← dig_n]
  simp
  omega
def rvP (s:ByteArray):Prop:=0 < s.size ∧ ∀ j,j < s.size → sigN (b s j) = true
instance (s:ByteArray):Decidable (rvP s):=inferInstanceAs (Decidable (_ ∧ _))
theorem rv_is (s:ByteArray):(li s ≠ [] ∧ (li s).all sig = true) ↔ rvP s:=by
 unfold rvP
 rw [← all_bytes sig sigN sig_n]
 have:li s ≠ [] ↔ 0 < s.size:=by
  rw [← li_len]; exact ⟨fun h=>List.length_pos_iff.2 h,fun h=>List.length_pos_iff.1 h⟩
 rw [this]
theorem dig_sig {c:Nat} (h:digN c = true):sigN c = true:=by unfold sigN; rw [h]; simp
theorem high_sig {c:Nat} (h:128 ≤ c):sigN c = false:=by unfold sigN alfN smlN digN; simp; omega
theorem high_ups {c:Nat} (h:128 ≤ c):upsN c = false:=by unfold upsN; rw [high_sig h]; simp; omega
theorem high_dig {c:Nat} (h:128 ≤ c):digN c = false:=by unfold digN; simp; omega
theorem more {p:Nat → Bool} {i:Nat} (h:∀ j,j < i → p j = true) (hi:p i = true):∀ j,j < i + 1 → p j = true:=fun j hj=>by
 by_cases e:j = i
 ·subst e; exact hi
 ·exact h j (by omega)
set_option maxRecDepth 100000 in
set_option maxHeartbeats 2000000 in
theorem isRevision_gb (s:ByteArray) (w:World) (hs:s.size ≤ 9223372036854775807) :
  Calls Tryz.prog 174 #[.string s] w fun e w'=>e = .returned (.bool (decide (rvP s))) ∧ Gb w.heap.size w w':=by
 obtain ⟨G,hG⟩:∃ G,decide (rvP s) = G:=⟨_,rfl⟩
 have HG:=Lib.hid hG
 rw [hG]
 clear hG
 go_enter Tryz.func174,Tryz.ntmps174
 go_wp2
 go_loopg [] s.size (fun gf wx=>∃ pos:Nat,wx.heap[w.heap.size]? = some (.stringIter s pos) ∧ Gb w.heap.size w wx ∧ Hid (∀ j,j < pos → sigN (b s j) = true) ∧ s.size ≤ pos + gf ∧ pos ≤ s.size)
 case atStart=>exact ⟨0,World.iter_heap w s 0,(Gb.refl _ _).alloc (Nat.le_refl _) _,fun j hj=>by omega,by omega,by omega⟩
 case round =>
  obtain ⟨pos,hit,hbw,HN,hfu,hps⟩:=hrel
  by_cases hlt:pos < s.size
  ·obtain ⟨g',rfl⟩:∃ g',gk = g' + 1:=⟨gk - 1,by omega⟩
   have hnx:∀ ty,(Instr.next (.pointer (some ⟨w.heap.size,0,none⟩)) true ty).run Tryz.prog wr = _:=fun ty=>Lib.run_next_any_at wr w.heap.size s pos ty hit hlt
   obtain ⟨W,hW⟩:∃ W,wr.iterAt w.heap.size s (pos + (Utf8.decode s pos).2) = W:=⟨_,rfl⟩
   have hit2:=Lib.iterAt_heap wr w.heap.size s pos (pos + (Utf8.decode s pos).2) hit
   have hbw2:=hbw.iterAt (k:=w.heap.size) (Nat.le_refl _) s (pos + (Utf8.decode s pos).2)
   rw [hW] at hnx hit2 hbw2
   clear hW hit hbw
   by_cases hb:b s pos < 128
   ·rw [dec_low s pos hlt hb] at hnx hit2
    have hm:=fun h=>more (p:=fun j=>sigN (b s j)) HN.out h
    have ht:sigN (b s pos) = false → G = false:=fun h=>by
     rw [← HG.out]; exact decide_eq_false fun k=>by have:=k.2 pos hlt; rw [h] at this; cases this
    obtain ⟨c,hc⟩:∃ c,b s pos = c:=⟨_,rfl⟩
    rw [hc] at hnx hb hm ht
    clear hc
    go_wp2_with fail
    refine (isSign_any _ _).mono ?_
    rintro e w' ⟨rfl,rfl⟩
    cases hd:sigN c
    ·obtain rfl:=ht hd
     clear hm ht hd HN HG
     go_wp2_with fail
     go_ret
     exact ⟨rfl,hbw2⟩
    ·have HM:=Lib.hid (hm hd)
     clear hm ht hd HN
     go_wp2_with fail
     go_roundg g'
     case measure=>omega
     case rel=>exact ⟨pos + 1,hit2,hbw2,HM,by omega,by omega⟩
   ·have hr:128 ≤ (Utf8.decode s pos).1:=by
     rcases dec_high s pos hlt (by omega) with ⟨_,hd⟩ | ⟨_,_,_,hr⟩
     ·rw [hd]; decide
     ·exact hr
    have hF:G = false:=by
     rw [← HG.out]; exact decide_eq_false fun k=>by have:=k.2 pos hlt; rw [high_sig (by omega)] at this; cases this
    subst hF
    obtain ⟨R,hR⟩:∃ R,(Utf8.decode s pos).1 = R:=⟨_,rfl⟩
    rw [hR] at hnx hr
    obtain ⟨N,hNN⟩:∃ N,(Utf8.decode s pos).2 = N:=⟨_,rfl⟩
    rw [hNN] at hit2
    clear hR HG hNN HN
    go_wp2_with fail
    refine (isSign_any _ _).mono ?_
    rintro e w' ⟨rfl,rfl⟩
    rw [high_sig hr]
    go_wp2_with fail
    go_ret
    exact ⟨rfl,hbw2⟩
  ·have hne:∀ ty,(Instr.next (.pointer (some ⟨w.heap.size,0,none⟩)) true ty).run Tryz.prog wr = _:=fun ty=>Lib.run_next_end_at wr w.heap.size s pos ty hit hlt
   by_cases h0:s.size = 0
   ·obtain ⟨e1,_⟩:=empty_is h0
    have hG:G = false:=by rw [← HG.out]; exact decide_eq_false fun k=>by have:=k.1; omega
    subst hG
    clear HN HG
    go_wp2_with fail
    go_ret
    exact ⟨rfl,hbw⟩
   ·obtain ⟨e1,_⟩:=empty_no h0
    have hG:G = true:=by rw [← HG.out]; exact decide_eq_true ⟨by omega,fun j hj=>HN.out j (by omega)⟩
    subst hG
    clear HN HG
    go_wp2_with fail
    go_ret
    exact ⟨rfl,hbw⟩
set_option maxRecDepth 100000 in
set_option maxHeartbeats 2000000 in
theorem isUpstream_gb (s:ByteArray) (w:World) (hs:s.size ≤ 9223372036854775807) :
  Calls Tryz.prog 155 #[.string s] w fun e w'=>e = .returned (.bool (decide (upP s))) ∧ Gb w.heap.size w w':=by
 obtain ⟨G,hG⟩:∃ G,decide (upP s) = G:=⟨_,rfl⟩
 have HG:=Lib.hid hG
 rw [hG]
 clear hG
 go_enter Tryz.func155,Tryz.ntmps155
 go_wp2
 go_loopg [] s.size (fun gf wx=>∃ pos:Nat,wx.heap[w.heap.size]? = some (.stringIter s pos) ∧ Gb w.heap.size w wx ∧ Hid ((∀ j,j < pos → upsN (b s j) = true) ∧ (0 < pos → digN (b s 0) = true)) ∧ s.size ≤ pos + gf ∧ pos ≤ s.size)
 case atStart=>exact ⟨0,World.iter_heap w s 0,(Gb.refl _ _).alloc (Nat.le_refl _) _,⟨fun j hj=>by omega,fun h=>by omega⟩,by omega,by omega⟩
 case round =>
  obtain ⟨pos,hit,hbw,HN,hfu,hps⟩:=hrel
  by_cases hlt:pos < s.size
  ·obtain ⟨g',rfl⟩:∃ g',gk = g' + 1:=⟨gk - 1,by omega⟩
   have hnx:∀ ty,(Instr.next (.pointer (some ⟨w.heap.size,0,none⟩)) true ty).run Tryz.prog wr = _:=fun ty=>Lib.run_next_any_at wr w.heap.size s pos ty hit hlt
   obtain ⟨W,hW⟩:∃ W,wr.iterAt w.heap.size s (pos + (Utf8.decode s pos).2) = W:=⟨_,rfl⟩
   have hit2:=Lib.iterAt_heap wr w.heap.size s pos (pos + (Utf8.decode s pos).2) hit
   have hbw2:=hbw.iterAt (k:=w.heap.size) (Nat.le_refl _) s (pos + (Utf8.decode s pos).2)
   rw [hW] at hnx hit2 hbw2
   have hpz:(pos:Int) = 0 ∨ ¬ (pos:Int) = 0:=by omega
   clear hW hit hbw
   by_cases hb:b s pos < 128
   ·rw [dec_low s pos hlt hb] at hnx hit2
    rcases hpz with hz | hz
    ·have hz0:pos = 0:=by omega
     subst hz0
     have hm:digN (b s 0) = true → (∀ j,j < 0 + 1 → upsN (b s j) = true) ∧ (0 < 0 + 1 → digN (b s 0) = true):=fun h=>by
      refine ⟨fun j hj=>?_,fun _=>h⟩
      have hj0:j = 0:=by omega
      subst hj0
      unfold upsN
      rw [dig_sig h]
      simp
     have ht:digN (b s 0) = false → G = false:=fun h=>by
      rw [← HG.out]; exact decide_eq_false fun k=>by have:=k.2.1; rw [h] at this; cases this
     obtain ⟨c,hc⟩:∃ c,b s 0 = c:=⟨_,rfl⟩
     rw [hc] at hnx hb ht
     have HM:=Lib.hid hm
     have HC:=Lib.hid hc
     clear hc hm HN
     cases hd:digN c
     ·obtain rfl:=ht hd
      have cd:=isDigit_any c W
      rw [hd] at cd
      clear HM HC ht hd HG
      go_wp2_with fail
      refine cd.mono ?_
      rintro e w' ⟨rfl,rfl⟩
      go_wp2_with fail
      go_ret
      exact ⟨rfl,hbw2⟩
     ·have HM2:=Lib.hid (HM.out (by rw [HC.out]; exact hd))
      have cd:=isDigit_any c W
      have cs:=isSign_any c W
      rw [hd] at cd
      rw [dig_sig hd] at cs
      clear HM HC ht hd
      go_wp2_with fail
      refine cd.mono ?_
      rintro e w' ⟨rfl,rfl⟩
      go_wp2_with fail
      refine cs.mono ?_
      rintro e w' ⟨rfl,rfl⟩
      go_wp2_with fail
      go_roundg g'
      case measure=>omega
      case rel=>exact ⟨0 + 1,hit2,hbw2,HM2,by omega,by omega⟩
    ·have hm:upsN (b s pos) = true → (∀ j,j < pos + 1 → upsN (b s j) = true) ∧ (0 < pos + 1 → digN (b s 0) = true):=fun h=>⟨more (p:=fun j=>upsN (b s j)) HN.out.1 h,fun _=>HN.out.2 (by omega)⟩
     have ht:upsN (b s pos) = false → G = false:=fun h=>by
      rw [← HG.out]; exact decide_eq_false fun k=>by have:=k.2.2 pos hlt; rw [h] at this; cases this
     have hups:upsN (b s pos) = (sigN (b s pos) || decide (b s pos = 45) || decide (b s pos = 58)):=rfl
     have HM:=Lib.hid hm
     clear hm
     obtain ⟨c,hc⟩:∃ c,b s pos = c:=⟨_,rfl⟩
     have HMC:Hid (upsN c = true → (∀ j,j < pos + 1 → upsN (b s j) = true) ∧ (0 < pos + 1 → digN (b s 0) = true)):=by rw [← hc]; exact HM
     rw [hc] at hnx hb ht hups
     clear hc HN HM
     have cs:=isSign_any c W
     cases hd:sigN c
     ·rw [hd] at cs hups
      by_cases h45:c = 45
      ·subst h45
       have HM2:=Lib.hid (HMC.out hups)
       clear HMC ht hd hups
       go_wp2_with fail
       refine cs.mono ?_
       rintro e w' ⟨rfl,rfl⟩
       go_wp2_with fail
       go_roundg g'
       case measure=>omega
       case rel=>exact ⟨pos + 1,hit2,hbw2,HM2,by omega,by omega⟩
      ·by_cases h58:c = 58
       ·subst h58
        have HM2:=Lib.hid (HMC.out hups)
        clear HMC ht hd hups
        go_wp2_with fail
        refine cs.mono ?_
        rintro e w' ⟨rfl,rfl⟩
        go_wp2_with fail
        go_roundg g'
        case measure=>omega
        case rel=>exact ⟨pos + 1,hit2,hbw2,HM2,by omega,by omega⟩
       ·obtain rfl:=ht (by rw [hups]; simp [h45,h58])
        have q1:((c:Int) != 45) = true:=by simp; omega
        have q2:((c:Int) != 58) = true:=by simp; omega
        clear HMC ht hd hups HG
        go_wp2_with fail
        refine cs.mono ?_
        rintro e w' ⟨rfl,rfl⟩
        go_wp2_with fail
        go_ret
        exact ⟨rfl,hbw2⟩
     ·rw [hd] at cs hups
      have HM2:=Lib.hid (HMC.out hups)
      clear HMC ht hd hups
      go_wp2_with fail
      refine cs.mono ?_
      rintro e w' ⟨rfl,rfl⟩
      go_wp2_with fail
      go_roundg g'
      case measure=>omega
      case rel=>exact ⟨pos + 1,hit2,hbw2,HM2,by omega,by omega⟩
   ·have hr:128 ≤ (Utf8.decode s pos).1:=by
     rcases dec_high s pos hlt (by omega) with ⟨_,hd⟩ | ⟨_,_,_,hr⟩
     ·rw [hd]; decide
     ·exact hr
    have hF:G = false:=by
     rw [← HG.out]; exact decide_eq_false fun k=>by have:=k.2.2 pos hlt; rw [high_ups (by omega)] at this; cases this
    subst hF
    obtain ⟨R,hR⟩:∃ R,(Utf8.decode s pos).1 = R:=⟨_,rfl⟩
    rw [hR] at hnx hr
    obtain ⟨N,hNN⟩:∃ N,(Utf8.decode s pos).2 = N:=⟨_,rfl⟩
    rw [hNN] at hit2
    have cd:=isDigit_any R W
    have cs:=isSign_any R W
    rw [high_dig hr] at cd
    rw [high_sig hr] at cs
    have q1:((R:Int) != 45) = true:=by simp; omega
    have q2:((R:Int) != 58) = true:=by simp; omega
    clear hR HG hNN HN
    rcases hpz with hz | hz
    ·go_wp2_with fail
     refine cd.mono ?_
     rintro e w' ⟨rfl,rfl⟩
     go_wp2_with fail
     go_ret
     exact ⟨rfl,hbw2⟩
    ·go_wp2_with fail
     refine cs.mono ?_
     rintro e w' ⟨rfl,rfl⟩
     go_wp2_with fail
     go_ret
     exact ⟨rfl,hbw2⟩
  ·have hne:∀ ty,(Instr.next (.pointer (some ⟨w.heap.size,0,none⟩)) true ty).run Tryz.prog wr = _:=fun ty=>Lib.run_next_end_at wr w.heap.size s pos ty hit hlt
   by_cases h0:s.size = 0
   ·obtain ⟨e1,_⟩:=empty_is h0
    have hG:G = false:=by rw [← HG.out]; exact decide_eq_false fun k=>by have:=k.1; omega
    subst hG
    clear HN HG
    go_wp2_with fail
    go_ret
    exact ⟨rfl,hbw⟩
   ·obtain ⟨e1,_⟩:=empty_no h0
    have hG:G = true:=by rw [← HG.out]; exact decide_eq_true ⟨by omega,HN.out.2 (by omega),fun j hj=>HN.out.1 j (by omega)⟩
    subst hG
    clear HN HG
    go_wp2_with fail
    go_ret
    exact ⟨rfl,hbw⟩
/-! ### the first,the last of a sign -/
theorem cut1_of:∀ (x:UInt8) (a r:Bs),x ∉ a → cut1 x (a ++ x :: r) = some (a,r)
 | x,[],r,_=>by simp [cut1]
 | x,c :: a,r,h=>by
  have hc:c ≠ x:=fun e=>h (by rw [e]; exact .head _)
  show cut1 x (c :: (a ++ x :: r)) = _
  rw [cut1,if_neg hc,cut1_of x a r fun k=>h (.tail _ k)]
  rfl
theorem cut1_no:∀ (x:UInt8) (l:Bs),x ∉ l → cut1 x l = none
 | _,[],_=>rfl
 | x,c :: l,h=>by
  have hc:c ≠ x:=fun e=>h (by rw [e]; exact .head _)
  rw [cut1,if_neg hc,cut1_no x l fun k=>h (.tail _ k)]
  rfl
theorem cutZ_no:∀ (x:UInt8) (l:Bs),x ∉ l → cutZ x l = none
 | _,[],_=>rfl
 | x,c :: l,h=>by
  have hc:c ≠ x:=fun e=>h (by rw [e]; exact .head _)
  rw [cutZ,cutZ_no x l fun k=>h (.tail _ k)]
  simp [hc]
theorem cutZ_of:∀ (x:UInt8) (a r:Bs),x ∉ r → cutZ x (a ++ x :: r) = some (a,r)
 | x,[],r,h=>by
  show cutZ x (x :: r) = _
  rw [cutZ,cutZ_no x r h]; simp
 | x,c :: a,r,h=>by
  show cutZ x (c :: (a ++ x :: r)) = _
  rw [cutZ,cutZ_of x a r h]
theorem no_mem {s:ByteArray} {x:UInt8} {i j:Nat} (h:∀ k,i ≤ k → k < j → k < s.size → b s k ≠ x.toNat):x ∉ ((li s).drop i).take (j - i):=by
 intro hm
 obtain ⟨k,hk,he⟩:=List.mem_iff_getElem.1 hm
 rw [List.length_take,List.length_drop,li_len] at hk
 rw [List.getElem_take,List.getElem_drop] at he
 have hs:i + k < s.size:=by omega
 apply h (i + k) (by omega) (by omega) hs
 unfold b
 rw [dif_pos hs,← he]
 rfl
theorem cut1_at {s:ByteArray} {x:UInt8} {i:Nat} (hi:i < s.size) (hx:b s i = x.toNat) (h:∀ j,j < i → b s j ≠ x.toNat):cut1 x (li s) = some ((li s).take i,(li s).drop (i + 1)):=by
 obtain ⟨c,hc,hb⟩:=li_drop s i hi
 have hcx:c = x:=UInt8.toNat_inj.1 (hb.trans hx)
 have e:li s = (li s).take i ++ x :: (li s).drop (i + 1):=by
  rw [← hcx,← hc,List.take_append_drop]
 have hn:=no_mem (s:=s) (x:=x) (i:=0) (j:=i) fun k _ hk _=>h k hk
 rw [List.drop_zero,Nat.sub_zero] at hn
 conv=>lhs; rw [e]
 exact cut1_of x _ _ hn
theorem cut1_none {s:ByteArray} {x:UInt8} (h:∀ j,j < s.size → b s j ≠ x.toNat):cut1 x (li s) = none:=by
 have hn:=no_mem (s:=s) (x:=x) (i:=0) (j:=s.size) fun k _ hk _=>h k hk
 rw [List.drop_zero,Nat.sub_zero,List.take_of_length_le (by rw [li_len]; exact Nat.le_refl _)] at hn
 exact cut1_no x _ hn
theorem cutZ_at {s:ByteArray} {x:UInt8} {i:Nat} (hi:i < s.size) (hx:b s i = x.toNat) (h:∀ j,i < j → j < s.size → b s j ≠ x.toNat):cutZ x (li s) = some ((li s).take i,(li s).drop (i + 1)):=by
 obtain ⟨c,hc,hb⟩:=li_drop s i hi
 have hcx:c = x:=UInt8.toNat_inj.1 (hb.trans hx)
 have e:li s = (li s).take i ++ x :: (li s).drop (i + 1):=by
  rw [← hcx,← hc,List.take_append_drop]
 have hn:=no_mem (s:=s) (x:=x) (i:=i + 1) (j:=s.size) fun k hk1 hk2 _=>h k (by omega) hk2
 rw [List.take_of_length_le (by rw [List.length_drop,li_len]; exact Nat.le_refl _)] at hn
 conv=>lhs; rw [e]
 exact cutZ_of x _ _ hn
theorem cutZ_none {s:ByteArray} {x:UInt8} (h:∀ j,j < s.size → b s j ≠ x.toNat):cutZ x (li s) = none:=by
 have hn:=no_mem (s:=s) (x:=x) (i:=0) (j:=s.size) fun k _ hk _=>h k hk
 rw [List.drop_zero,Nat.sub_zero,List.take_of_length_le (by rw [li_len]; exact Nat.le_refl _)] at hn
 exact cutZ_no x _ hn
end Ver
end Go.Proofs.YtmhpjjjjgakpiaaGreatDoor
namespace Go.Proofs.YtmhpjjjjgakpiaaGreatDoor
open Go.RowKit
set_option linter.unusedSimpArgs false
set_option linter.unusedVariables false
namespace Ver
open Txt (b)
def MaxLen (w:World):Prop:=∃ m,w.cell? ⟨1,0,none⟩ = some (.int .i64 m)
theorem lt_cell {w:World} {p:Addr} {v:Value} (h:w.cell? p = some v):p.block < w.heap.size:=by
 by_cases hc:p.block < w.heap.size
 ·exact hc
 ·exfalso
  unfold World.cell? at h
  rw [Array.getElem?_eq_none (by omega)] at h
  cases h
theorem MaxLen.below {w w':World} {B:Nat} (h:MaxLen w) (hb:Below B w w') (hB:1 < B):MaxLen w':=by
 obtain ⟨m,hm⟩:=h
 exact ⟨m,by rw [hb.cell (p:=⟨1,0,none⟩) hB]; exact hm⟩
theorem MaxLen.lt {w:World} (h:MaxLen w):1 < w.heap.size:=by
 obtain ⟨m,hm⟩:=h
 exact lt_cell hm
theorem MaxLen.on {w w':World} (h:MaxLen w) (hb:Below w.heap.size w w'):MaxLen w':=h.below hb h.lt
theorem cut_colon (l:Bs):Lib.cut l [58] = (match cut1 58 l with | none=>(l,[],false) | some (a,r)=>(a,r,true)):=by
 have key:∀ l:Bs,(cut1 58 l = none ∧ Lib.index l [58] = -1) ∨ ∃ a r,cut1 58 l = some (a,r) ∧ Lib.index l [58] = (a.length:Int) ∧ l = a ++ 58 :: r:=by
  intro l
  induction l with
  | nil=>exact .inl ⟨rfl,rfl⟩
  | cons c l ih =>
   have e1:Lib.index (c :: l) [58] = if ([58]:List UInt8).isPrefixOf (c :: l) then 0 else if Lib.index l [58] == -1 then -1 else Lib.index l [58] + 1:=rfl
   have e2:cut1 58 (c :: l) = if c = 58 then some ([],l) else (cut1 58 l).map fun p=>(c :: p.1,p.2):=rfl
   by_cases hc:c = 58
   ·subst hc
    exact .inr ⟨[],l,by rw [e2,if_pos rfl],by rw [e1]; rfl,rfl⟩
   ·have hp:([58]:List UInt8).isPrefixOf (c :: l) = false:=by
     simp [List.isPrefixOf]
     exact fun h=>hc h.symm
    rw [e1,e2,if_neg hc,hp]
    rcases ih with ⟨h1,h2⟩ | ⟨a,r,h1,h2,h3⟩
    ·left
     rw [h1,h2]
     exact ⟨rfl,rfl⟩
    ·right
     refine ⟨c :: a,r,by rw [h1]; rfl,?_,by rw [h3]; rfl⟩
     rw [h2]
     have:((a.length:Int) == -1) = false:=by rw [beq_eq_false_iff_ne]; omega
     simp [this]
 unfold Lib.cut
 rcases key l with ⟨h1,h2⟩ | ⟨a,r,h1,h2,h3⟩
 ·rw [h1,h2]; rfl
 ·rw [h1,h2,if_pos (by omega),Int.toNat_natCast]
  simp only
  rw [h3,List.take_left]
  congr 2
  show List.drop (a.length + 1) (a ++ 58 :: r) = r
  rw [← List.drop_drop,List.drop_left]
  rfl
theorem cut_gb (s:ByteArray) (w:World) (hs:s.size < 4294967281) (hm:MaxLen w) :
  Calls Tryz.prog 172 #[.string s,.string ⟨#[58]⟩] w fun e w'=>e = .returned (match cut1 58 (li s) with
   | none=>.tuple #[.string s,.string (S []),.bool false]
   | some (a,r)=>.tuple #[.string (S a),.string (S r),.bool true]) ∧ Gb w.heap.size w w':=by
 obtain ⟨m,hm⟩:=hm
 refine (Tryz.strings_Cut s ⟨#[58]⟩ m w hs hm).mono fun e w' h=>⟨?_,?_⟩
 ·rw [h.1,show (⟨#[58]⟩:ByteArray).data.toList = [58] from rfl,cut_colon]
  show _ = Ending.returned (match cut1 58 s.data.toList with
   | none=>.tuple #[.string s,.string (S []),.bool false]
   | some (a,r)=>.tuple #[.string (S a),.string (S r),.bool true])
  cases cut1 58 s.data.toList with
  | none =>
   show Ending.returned (.tuple #[.string (S s.data.toList),.string (S []),.bool false]) = _
   rw [S_self]
  | some p=>rfl
 ·obtain ⟨_,n,rfl⟩:=h
  exact gb_drewN _ _
theorem cut1_parts:∀ (x:UInt8) (l a r:Bs),cut1 x l = some (a,r) → l = a ++ x :: r
 | _,[],_,_,h=>by cases h
 | x,c :: l,a,r,h=>by
  rw [cut1] at h
  by_cases hc:c = x
  ·rw [if_pos hc] at h
   cases h
   rw [hc]; rfl
  ·rw [if_neg hc] at h
   cases hq:cut1 x l with
   | none=>rw [hq] at h; cases h
   | some p =>
    rw [hq] at h
    cases h
    rw [cut1_parts x l p.1 p.2 hq]
    rfl
theorem cutZ_parts:∀ (x:UInt8) (l a r:Bs),cutZ x l = some (a,r) → l = a ++ x :: r
 | _,[],_,_,h=>by cases h
 | x,c :: l,a,r,h=>by
  rw [cutZ] at h
  cases hq:cutZ x l with
  | none =>
   rw [hq] at h
   by_cases hc:c = x
   ·simp [hc] at h
    obtain ⟨rfl,rfl⟩:=h
    rw [hc]; rfl
   ·simp [hc] at h
  | some p =>
   rw [hq] at h
   cases h
   rw [cutZ_parts x l p.1 p.2 hq]
   rfl
def epF (l:Bs):Bs × Bs × Bool:=match cut1 58 l with
 | none=>([48],l,true)
 | some (e,r)=>(e,r,decide (1 ≤ e.length ∧ e.length ≤ 9 ∧ e.all dig = true))
theorem ep_is (l:Bs):epochOf l = if (epF l).2.2 = true then some ((epF l).1,(epF l).2.1) else none:=by
 unfold epochOf epF
 cases cut1 58 l with
 | none=>rfl
 | some p =>
  obtain ⟨e,r⟩:=p
  simp only [decide_eq_true_eq]
def rvF (l:Bs):Bs × Bs × Bool:=match cutZ 45 l with
 | none=>(l,[],true)
 | some (u,v)=>(u,v,decide (v ≠ [] ∧ v.all sig = true))
theorem rvF_is (l:Bs):revOf l = if (rvF l).2.2 = true then some ((rvF l).1,(rvF l).2.1) else none:=by
 unfold revOf rvF
 cases cutZ 45 l with
 | none=>rfl
 | some p =>
  obtain ⟨e,r⟩:=p
  simp only [decide_eq_true_eq]
theorem spn_all:∀ l:Bs,spn true l = l.length ↔ l.all dig = true
 | []=>by simp [spn]
 | c :: r=>by
  have:=spn_all r
  have hl:=spn_le true r
  unfold spn
  by_cases h:dig c = true
  ·rw [if_pos h]
   simp only [List.length_cons,List.all_cons,h,Bool.true_and,Nat.add_right_cancel_iff]
   exact this
  ·rw [if_neg h]
   simp only [List.length_cons,List.all_cons,h,Bool.false_and]
   constructor
   ·intro k; omega
   ·intro k; cases k
set_option maxRecDepth 100000 in
set_option maxHeartbeats 1000000 in
theorem cutEpoch_gb (s:ByteArray) (w:World) (hs:s.size < 4294967281) (hm:MaxLen w) :
  Calls Tryz.prog 153 #[.string s] w fun e w'=>e = .returned (.tuple #[.string (S (epF (li s)).1),.string (S (epF (li s)).2.1),.bool (epF (li s)).2.2]) ∧ Gb w.heap.size w w':=by
 have c1:=cut_gb s w hs hm
 unfold epF
 cases hc:cut1 58 (li s) with
 | none =>
  rw [hc] at c1
  have e:S (li s) = s:=S_self s
  rw [e]
  have e48:S [48] = ⟨#[48]⟩:=rfl
  rw [e48]
  clear hc e e48
  go_enter Tryz.func153,Tryz.ntmps153
  go_wp2_with fail
  refine c1.mono ?_
  rintro e w' ⟨rfl,k1⟩
  go_wp2_with fail
  go_ret3
  exact ⟨rfl,k1⟩
 | some p =>
  obtain ⟨a,r⟩:=p
  rw [hc] at c1
  have c1:Calls Tryz.prog 172 #[.string s,.string ⟨#[58]⟩] w fun e w'=>e = .returned (.tuple #[.string (S a),.string (S r),.bool true]) ∧ Gb w.heap.size w w':=c1
  have hp:=cut1_parts _ _ _ _ hc
  have hl:=congrArg List.length hp
  rw [li_len,List.length_append,List.length_cons] at hl
  have hza:(S a).size = a.length:=S_size a
  have c2:=fun w=>span_gb (S a) true w (by omega)
  rw [S_li] at c2
  obtain ⟨G,hG⟩:∃ G,decide (1 ≤ a.length ∧ a.length ≤ 9 ∧ a.all dig = true) = G:=⟨_,rfl⟩
  have hsp:=spn_all a
  have hG2:decide (1 ≤ a.length ∧ a.length ≤ 9 ∧ spn true a = a.length) = G:=by rw [← hG]; congr 1; rw [hsp]
  simp only [hG]
  rw [← hza] at hG2
  obtain ⟨K,hK⟩:∃ K,spn true a = K:=⟨_,rfl⟩
  rw [hK] at c2 hG2
  have hze:(S a).size = 0 → (S a).toList.isEmpty = true:=fun h=>(empty_is h).1
  have hzn:(S a).size ≠ 0 → (S a).toList.isEmpty = false:=fun h=>(empty_no h).1
  have HG:=Lib.hid hG2
  clear hK hG2 hG hsp hza hl hp hc
  generalize S a = x at *
  generalize S r = y at *
  by_cases h0:x.size = 0
  ·have he:=hze h0
   have hF:G = false:=by rw [← HG.out]; exact decide_eq_false fun k=>by omega
   subst hF
   clear hze hzn HG
   go_enter Tryz.func153,Tryz.ntmps153
   go_wp2_with fail
   refine c1.mono ?_
   rintro e w' ⟨rfl,k1⟩
   go_wp2_with fail
   go_ret3
   exact ⟨rfl,k1⟩
  ·have he:=hzn h0
   by_cases h9:x.size ≤ 9
   ·have h9':(x.size:Int) ≤ 9:=by omega
    have hkk:((K:Int) == (x.size:Int)) = G:=by
     rw [← HG.out,Bool.eq_iff_iff,beq_iff_eq,decide_eq_true_eq]
     constructor
     ·intro h; exact ⟨by omega,h9,by omega⟩
     ·intro h; have:=h.2.2; omega
    clear hze hzn HG
    go_enter Tryz.func153,Tryz.ntmps153
    go_wp2_with fail
    refine c1.mono ?_
    rintro e w' ⟨rfl,k1⟩
    go_wp2_with fail
    refine (c2 _).mono ?_
    rintro e w2 ⟨rfl,k2⟩
    go_wp2_with fail
    go_ret3
    exact ⟨rfl,k1.trans (k2.mono k1.size)⟩
   ·have h9':¬ (x.size:Int) ≤ 9:=by omega
    have hF:G = false:=by rw [← HG.out]; exact decide_eq_false fun k=>by omega
    subst hF
    clear hze hzn HG
    go_enter Tryz.func153,Tryz.ntmps153
    go_wp2_with fail
    refine c1.mono ?_
    rintro e w' ⟨rfl,k1⟩
    go_wp2_with fail
    go_ret3
    exact ⟨rfl,k1⟩
theorem bang_b (s:ByteArray) (j:Nat) (h:j < s.size):(s.data[j]!).toNat = b s j:=by
 unfold b
 rw [dif_pos h,getElem!_pos s.data j h]
 rfl
set_option maxRecDepth 100000 in
set_option maxHeartbeats 1000000 in
theorem cutRevision_gb (s:ByteArray) (w:World) (hs:s.size < 4294967281) :
  Calls Tryz.prog 154 #[.string s] w fun e w'=>e = .returned (.tuple #[.string (S (rvF (li s)).1),.string (S (rvF (li s)).2.1),.bool (rvF (li s)).2.2]) ∧ Gb w.heap.size w w':=by
 have c1:=Tryz.strings_LastIndex_one s ⟨#[45]⟩ rfl (by omega) w
 have e45:(((⟨#[45]⟩:ByteArray)[0]'(by decide)).toNat:Int) = 45:=rfl
 rw [e45] at c1
 rcases Lib.lastIndexByte_spec s 45 with ⟨h1,h2⟩ | ⟨i,hi,h1,h2,h3⟩
 ·have hc:cutZ 45 (li s) = none:=cutZ_none fun j hj hh=>h2 j hj (by rw [bang_b s j hj,hh]; rfl)
  unfold rvF
  rw [hc]
  rw [h1] at c1
  have e:S (li s) = s:=S_self s
  have e0:S [] = ⟨#[]⟩:=rfl
  simp only [e,e0]
  clear hc e e0 h1 h2 e45
  go_enter Tryz.func154,Tryz.ntmps154
  go_wp2_with fail
  refine c1.mono ?_
  rintro e w' ⟨rfl,rfl⟩
  go_wp2_with fail
  go_ret3
  exact ⟨rfl,Gb.refl _ _⟩
 ·have hc:cutZ 45 (li s) = some ((li s).take i,(li s).drop (i + 1)):=cutZ_at hi (by rw [bang_b s i hi] at h2; have h4:b s i = 45:=by omega
                                                                                    exact h4) fun j hj hj2 hh=>h3 j hj hj2 (by rw [bang_b s j hj2,hh]; rfl)
  unfold rvF
  rw [hc]
  rw [h1] at c1
  obtain ⟨k,hk⟩:∃ k,i + 1 = k:=⟨_,rfl⟩
  have hsum:(i:Int) + 1 = (k:Int):=by omega
  rw [hk]
  have e1:S ((li s).take i) = s.extract 0 i:=(S_of (li_ext_zero s i (by omega))).symm
  have e2:S ((li s).drop k) = s.extract k s.size:=(S_of (li_ext_end s k)).symm
  have c2:=fun w=>isRevision_gb (s.extract k s.size) w (by simp [ByteArray.size_extract]; omega)
  have hd:decide ((li s).drop k ≠ [] ∧ ((li s).drop k).all sig = true) = decide (rvP (s.extract k s.size)):=by
   congr 1
   rw [← rv_is,li_ext_end]
  simp only [e1,e2,hd]
  obtain ⟨G,hG⟩:∃ G,decide (rvP (s.extract k s.size)) = G:=⟨_,rfl⟩
  rw [hG] at c2 ⊢
  have hi1:(i:Int) ≤ s.size:=by omega
  have hi2:(k:Int) ≤ s.size:=by omega
  have hwr:IntKind.i64.wrap (k:Int) = (k:Int):=IntWalk.i64_in _ (by omega)
  clear hc e1 e2 h1 h2 h3 hG hd e45 hk
  go_enter Tryz.func154,Tryz.ntmps154
  go_wp2_with fail
  refine c1.mono ?_
  rintro e w' ⟨rfl,rfl⟩
  go_wp2_with fail
  go_quiet (fail)
  have kq:=gb_drewN w' nq
  generalize w'.drewN nq = wd at *
  go_wp2_with fail
  refine (c2 _).mono ?_
  rintro e w2 ⟨rfl,k2⟩
  go_wp2_with fail
  go_ret3
  exact ⟨rfl,kq.trans (k2.mono kq.size)⟩
end Ver
end Go.Proofs.YtmhpjjjjgakpiaaGreatDoor
namespace Go.Proofs.YtmhpjjjjgakpiaaGreatDoor
open Go.RowKit
set_option linter.unusedSimpArgs false
set_option linter.unusedVariables false
namespace Rl
open Ver (Bs li li_len S S_of S_li)
theorem drop_tw (p:UInt8 → Bool) (l:Bs):l.drop (l.takeWhile p).length = l.dropWhile p:=by
 have:=List.drop_left (l₁:=l.takeWhile p) (l₂:=l.dropWhile p)
 rwa [List.takeWhile_append_dropWhile] at this
theorem take_tw (p:UInt8 → Bool) (l:Bs):l.take (l.takeWhile p).length = l.takeWhile p:=by
 have:=List.take_left (l₁:=l.takeWhile p) (l₂:=l.dropWhile p)
 rwa [List.takeWhile_append_dropWhile] at this
end Rl
end Go.Proofs.YtmhpjjjjgakpiaaGreatDoor
namespace Go.Proofs.YtmhpjjjjgakpiaaGreatDoor
open Go.RowKit
set_option linter.unusedSimpArgs false
set_option linter.unusedVariables false
namespace Rl
open Ver (Bs li li_len S S_of S_li)
end Rl
end Go.Proofs.YtmhpjjjjgakpiaaGreatDoor

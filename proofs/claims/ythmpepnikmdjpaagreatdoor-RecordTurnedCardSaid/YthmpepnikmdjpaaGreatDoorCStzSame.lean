/-
One field's name, whatever its letters' case: package stanza's Same, and the reference's.
-/
import Derived.Test.YthmpepnikmdjpaaGreatDoorProg
import Derived.Test.YthmpepnikmdjpaaGreatDoorCVerDef
import Derived.WalkKit
import Derived.ProofKit
import Derived.Below
import Derived.Lib.Hide
import Derived.Deep.LoopGhost
import Derived.Lib.OthersKept
import Derived.Deep.QuietTactic
import Derived.BigQuiet
namespace Go.Proofs.YthmpepnikmdjpaaGreatDoor
open Go.RowKit
set_option linter.unusedSimpArgs false
set_option linter.unusedVariables false
namespace Stz
open Txt (b b_eq b_lt)
def low (c:UInt8):UInt8:=if 65 ≤ c ∧ c ≤ 90 then c + 32 else c
def sameB (a b:List UInt8):Bool:=a.map low == b.map low
theorem sz_list (s:ByteArray):s.data.toList.length = s.size:=by rw [Array.length_toList]; rfl
def lowN (c:Nat):Nat:=if 65 ≤ c ∧ c ≤ 90 then c + 32 else c
theorem low_toNat (c:UInt8):(low c).toNat = lowN c.toNat:=by
 unfold low lowN
 by_cases h:65 ≤ c ∧ c ≤ 90
 ·have h':65 ≤ c.toNat ∧ c.toNat ≤ 90:=by simpa [UInt8.le_iff_toNat_le] using h
  rw [if_pos h,if_pos h',UInt8.toNat_add]
  have:(32:UInt8).toNat = 32:=rfl
  rw [this]; omega
 ·have h':¬ (65 ≤ c.toNat ∧ c.toNat ≤ 90):=by simpa [UInt8.le_iff_toNat_le] using h
  rw [if_neg h,if_neg h']
theorem ret_u8 {a c:Int} {w:World} (h:a = c):Ending.returned (Value.int .u8 a) = Ending.returned (.int .u8 c) ∧ w = w:=⟨by rw [h],rfl⟩
set_option maxRecDepth 100000 in
theorem lower_any (c:Nat) (hc:c < 256) (w:World):Calls Tryz.prog 202 #[.int .u8 c] w fun e w'=>e = .returned (.int .u8 (lowN c:Nat)) ∧ w' = w:=by
 have hc':(c:Int) < 256:=by omega
 obtain ⟨K,hK⟩:∃ K,lowN c = K:=⟨_,rfl⟩
 have HK:=Lib.hid hK
 rw [hK]
 clear hK
 go_enter Tryz.func202,Tryz.ntmps202
 go_wp2_with fail
 all_goals
  go_ret
  refine ret_u8 ?_
  rw [← HK.out]
  unfold lowN
  first
   | (rw [if_pos (by omega)]; omega)
   | (rw [if_neg (by omega)])
set_option maxRecDepth 100000 in
theorem ylow_any (c:Nat) (hc:c < 256) (w:World):Calls Tryz.prog 176 #[.int .u8 c] w fun e w'=>e = .returned (.int .u8 (lowN c:Nat)) ∧ w' = w:=by
 have hc':(c:Int) < 256:=by omega
 obtain ⟨K,hK⟩:∃ K,lowN c = K:=⟨_,rfl⟩
 have HK:=Lib.hid hK
 rw [hK]
 clear hK
 go_enter Tryz.func176,Tryz.ntmps176
 go_wp2_with fail
 all_goals
  go_ret
  refine ret_u8 ?_
  rw [← HK.out]
  unfold lowN
  first
   | (rw [if_pos (by omega)]; omega)
   | (rw [if_neg (by omega)])
def sameS (s t:ByteArray):Bool:=sameB s.data.toList t.data.toList
theorem sameS_len {s t:ByteArray} (h:s.size ≠ t.size):sameS s t = false:=by
 unfold sameS sameB
 rw [beq_eq_false_iff_ne]
 intro e
 have:=congrArg List.length e
 simp only [List.length_map,sz_list] at this
 exact h this
theorem sameS_no {s t:ByteArray} {k:Nat} (hs:k < s.size) (ht:k < t.size) (h:lowN (b s k) ≠ lowN (b t k)):sameS s t = false:=by
 unfold sameS sameB
 rw [beq_eq_false_iff_ne]
 intro e
 have:=congrArg (fun l=>l[k]?) e
 have h1:k < s.data.toList.length:=by rw [sz_list]; exact hs
 have h2:k < t.data.toList.length:=by rw [sz_list]; exact ht
 simp only [List.getElem?_map,List.getElem?_eq_getElem h1,List.getElem?_eq_getElem h2,Option.map_some,Option.some.injEq] at this
 have:=congrArg UInt8.toNat this
 rw [low_toNat,low_toNat] at this
 apply h
 unfold b
 rw [dif_pos hs,dif_pos ht]
 exact this
theorem sameS_yes {s t:ByteArray} (hl:s.size = t.size) (h:∀ j,j < s.size → lowN (b s j) = lowN (b t j)):sameS s t = true:=by
 unfold sameS sameB
 rw [beq_iff_eq]
 apply List.ext_getElem
 ·simp only [List.length_map,sz_list]; exact hl
 ·intro i h1 h2
  simp only [List.length_map,sz_list] at h1 h2
  simp only [List.getElem_map]
  apply UInt8.toNat_inj.1
  rw [low_toNat,low_toNat]
  have:=h i h1
  unfold b at this
  rw [dif_pos h1,dif_pos h2] at this
  exact this
set_option maxRecDepth 100000 in
set_option maxHeartbeats 1000000 in
theorem same_any (s t:ByteArray) (w:World) (hs:s.size ≤ 9223372036854775807) :
  Calls Tryz.prog 152 #[.string s,.string t] w fun e w'=>e = .returned (.bool (sameS s t)) ∧ ∃ n,w' = w.drewN n:=by
 by_cases hl:s.size = t.size
 ·have heq:((s.size:Int) != (t.size:Int)) = false:=by simp [hl]
  obtain ⟨n,hn⟩:∃ n,s.size = n:=⟨_,rfl⟩
  have hm:t.size = n:=by omega
  have HL:=Lib.hid hn
  have HM:=Lib.hid hm
  obtain ⟨R,hR⟩:∃ R,sameS s t = R:=⟨_,rfl⟩
  have HR:=Lib.hid hR
  rw [hR]
  rw [hn] at hs
  clear hn hm hR hl
  go_enter Tryz.func152,Tryz.ntmps152
  go_wp2_with fail
  go_loopw [13] (fun i u=>∃ k:Nat,k ≤ n ∧ i = .int .i64 k ∧ (∀ j,j < k → lowN (b s j) = lowN (b t j)) ∧ ∃ m,u = w.drewN m) (fun i _=>n - (intOf i).toNat)
  case atStart=>exact ⟨0,by omega,rfl,fun j hj=>absurd hj (by omega),0,rfl⟩
  case round =>
   obtain ⟨k,hk,rfl,hsame,m,hu⟩:=hrel
   have HS:=Lib.hid hsame
   have HU:=Lib.hid hu
   clear hsame hu
   by_cases hlt:k < n
   ·have k0:(0:Int) ≤ k:=by omega
    have k1:(k:Int) < n:=by omega
    have hks:k < s.size:=by have:=HL.out; omega
    have hkt:k < t.size:=by have:=HM.out; omega
    have k2:(k:Int) < s.size:=by omega
    have k3:(k:Int) < t.size:=by omega
    have b1:=b_eq s k hks
    have b2:=b_eq t k hkt
    have l1:=b_lt s k
    have l2:=b_lt t k
    obtain ⟨c,hc⟩:∃ c,b s k = c:=⟨_,rfl⟩
    obtain ⟨d,hd⟩:∃ d,b t k = d:=⟨_,rfl⟩
    rw [hc] at b1 l1
    rw [hd] at b2 l2
    have c1:=fun w=>lower_any c l1 w
    have c2:=fun w=>lower_any d l2 w
    obtain ⟨X,hX⟩:∃ X,lowN c = X:=⟨_,rfl⟩
    obtain ⟨Y,hY⟩:∃ Y,lowN d = Y:=⟨_,rfl⟩
    rw [hX] at c1
    rw [hY] at c2
    have C1:=Lib.hid c1
    have C2:=Lib.hid c2
    clear c1 c2
    have HC:=Lib.hid hc
    have HD:=Lib.hid hd
    have HX:=Lib.hid hX
    have HY:=Lib.hid hY
    clear hc hd hX hY
    by_cases hxy:X = Y
    ·have hbeq:((X:Int) != (Y:Int)) = false:=by simp [hxy]
     have HXY:=Lib.hid hxy
     clear hxy
     go_wp2_with fail
     go_quiet ((first | (with_reducible exact Calls.quiet_of_same (C1.out _)) | (with_reducible exact Calls.quiet_of_same (C2.out _))))
     go_wp2
     refine ⟨⟨k + 1,by omega,by go_num,fun j hj=>?_,m + nq,by rw [HU.out,World.drewN_drewN]⟩,?_⟩
     ·by_cases e:j = k
      ·subst e; rw [HC.out,HD.out,HX.out,HY.out]; exact HXY.out
      ·exact HS.out j (by omega)
     ·simp [intOf]; omega
    ·have hbeq:((X:Int) != (Y:Int)) = true:=by simp; omega
     have HXY:=Lib.hid hxy
     clear hxy
     go_wp2_with fail
     go_quiet ((first | (with_reducible exact Calls.quiet_of_same (C1.out _)) | (with_reducible exact Calls.quiet_of_same (C2.out _))))
     go_wp2
     go_ret
     refine ⟨?_,m + nq,by rw [HU.out,World.drewN_drewN]⟩
     rw [← HR.out,sameS_no hks hkt (by rw [HC.out,HD.out,HX.out,HY.out]; exact HXY.out)]
     rfl
   ·obtain rfl:k = n:=by omega
    have k2:¬ (k:Int) < (s.size:Int):=by have:=HL.out; omega
    go_wp2
    go_ret
    refine ⟨?_,m,HU.out⟩
    rw [← HR.out,sameS_yes (by rw [HL.out,HM.out]) (by rw [HL.out]; exact HS.out)]
    rfl
 ·have hne:((s.size:Int) != (t.size:Int)) = true:=by simp; omega
  rw [sameS_len hl]
  clear hl
  go_enter Tryz.func152,Tryz.ntmps152
  go_wp2_with fail
  go_ret
  exact ⟨rfl,0,rfl⟩
set_option maxRecDepth 100000 in
set_option maxHeartbeats 1000000 in
theorem ysame_any (s t:ByteArray) (w:World) (hs:s.size ≤ 9223372036854775807) :
  Calls Tryz.prog 120 #[.string s,.string t] w fun e w'=>e = .returned (.bool (sameS s t)) ∧ ∃ n,w' = w.drewN n:=by
 by_cases hl:s.size = t.size
 ·have heq:((s.size:Int) != (t.size:Int)) = false:=by simp [hl]
  obtain ⟨n,hn⟩:∃ n,s.size = n:=⟨_,rfl⟩
  have hm:t.size = n:=by omega
  have HL:=Lib.hid hn
  have HM:=Lib.hid hm
  obtain ⟨R,hR⟩:∃ R,sameS s t = R:=⟨_,rfl⟩
  have HR:=Lib.hid hR
  rw [hR]
  rw [hn] at hs
  clear hn hm hR hl
  go_enter Tryz.func120,Tryz.ntmps120
  go_wp2_with fail
  go_loopw [13] (fun i u=>∃ k:Nat,k ≤ n ∧ i = .int .i64 k ∧ (∀ j,j < k → lowN (b s j) = lowN (b t j)) ∧ ∃ m,u = w.drewN m) (fun i _=>n - (intOf i).toNat)
  case atStart=>exact ⟨0,by omega,rfl,fun j hj=>absurd hj (by omega),0,rfl⟩
  case round =>
   obtain ⟨k,hk,rfl,hsame,m,hu⟩:=hrel
   have HS:=Lib.hid hsame
   have HU:=Lib.hid hu
   clear hsame hu
   by_cases hlt:k < n
   ·have k0:(0:Int) ≤ k:=by omega
    have k1:(k:Int) < n:=by omega
    have hks:k < s.size:=by have:=HL.out; omega
    have hkt:k < t.size:=by have:=HM.out; omega
    have k2:(k:Int) < s.size:=by omega
    have k3:(k:Int) < t.size:=by omega
    have b1:=b_eq s k hks
    have b2:=b_eq t k hkt
    have l1:=b_lt s k
    have l2:=b_lt t k
    obtain ⟨c,hc⟩:∃ c,b s k = c:=⟨_,rfl⟩
    obtain ⟨d,hd⟩:∃ d,b t k = d:=⟨_,rfl⟩
    rw [hc] at b1 l1
    rw [hd] at b2 l2
    have c1:=fun w=>ylow_any c l1 w
    have c2:=fun w=>ylow_any d l2 w
    obtain ⟨X,hX⟩:∃ X,lowN c = X:=⟨_,rfl⟩
    obtain ⟨Y,hY⟩:∃ Y,lowN d = Y:=⟨_,rfl⟩
    rw [hX] at c1
    rw [hY] at c2
    have C1:=Lib.hid c1
    have C2:=Lib.hid c2
    clear c1 c2
    have HC:=Lib.hid hc
    have HD:=Lib.hid hd
    have HX:=Lib.hid hX
    have HY:=Lib.hid hY
    clear hc hd hX hY
    by_cases hxy:X = Y
    ·have hbeq:((X:Int) != (Y:Int)) = false:=by simp [hxy]
     have HXY:=Lib.hid hxy
     clear hxy
     go_wp2_with fail
     go_quiet ((first | (with_reducible exact Calls.quiet_of_same (C1.out _)) | (with_reducible exact Calls.quiet_of_same (C2.out _))))
     go_wp2
     refine ⟨⟨k + 1,by omega,by go_num,fun j hj=>?_,m + nq,by rw [HU.out,World.drewN_drewN]⟩,?_⟩
     ·by_cases e:j = k
      ·subst e; rw [HC.out,HD.out,HX.out,HY.out]; exact HXY.out
      ·exact HS.out j (by omega)
     ·simp [intOf]; omega
    ·have hbeq:((X:Int) != (Y:Int)) = true:=by simp; omega
     have HXY:=Lib.hid hxy
     clear hxy
     go_wp2_with fail
     go_quiet ((first | (with_reducible exact Calls.quiet_of_same (C1.out _)) | (with_reducible exact Calls.quiet_of_same (C2.out _))))
     go_wp2
     go_ret
     refine ⟨?_,m + nq,by rw [HU.out,World.drewN_drewN]⟩
     rw [← HR.out,sameS_no hks hkt (by rw [HC.out,HD.out,HX.out,HY.out]; exact HXY.out)]
     rfl
   ·obtain rfl:k = n:=by omega
    have k2:¬ (k:Int) < (s.size:Int):=by have:=HL.out; omega
    go_wp2
    go_ret
    refine ⟨?_,m,HU.out⟩
    rw [← HR.out,sameS_yes (by rw [HL.out,HM.out]) (by rw [HL.out]; exact HS.out)]
    rfl
 ·have hne:((s.size:Int) != (t.size:Int)) = true:=by simp; omega
  rw [sameS_len hl]
  clear hl
  go_enter Tryz.func120,Tryz.ntmps120
  go_wp2_with fail
  go_ret
  exact ⟨rfl,0,rfl⟩
end Stz
end Go.Proofs.YthmpepnikmdjpaaGreatDoor

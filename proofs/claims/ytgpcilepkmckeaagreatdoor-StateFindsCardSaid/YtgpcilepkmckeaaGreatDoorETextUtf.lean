/-
What a text's characters are, by bytes: the reference's reading of a string at a place, held against the model's own decoding.
-/
import Derived.WalkKit
import Derived.Laws.RangeAny
namespace Go.Proofs.YtgpcilepkmckeaaGreatDoor
namespace Txt
def b (s:ByteArray) (k:Nat):Nat:=if h:k < s.size then (s[k]'h).toNat else 0
theorem b_eq (s:ByteArray) (k:Nat) (h:k < s.size):((s[k]'h).toNat:Int) = (b s k:Int):=by unfold b; rw [dif_pos h]
theorem b_get (s:ByteArray) (k:Nat) (h:k < s.size):(s.get! k).toNat = b s k:=by
 have e:=get_at s k h
 rw [Nat.add_zero] at e
 unfold b; rw [dif_pos h,e]
theorem b_lt (s:ByteArray) (k:Nat):b s k < 256:=by
 unfold b; split
 ·exact (s[k]).toNat_lt
 ·omega
def on (s:ByteArray) (k lo hi:Nat):Bool:=decide (k < s.size) && decide (lo ≤ b s k) && decide (b s k ≤ hi)
def sz (s:ByteArray) (i:Nat):Nat :=
 let c:=b s i
 if c < 128 then 1
 else if 194 ≤ c ∧ c ≤ 223 ∧ on s (i + 1) 128 191 = true then 2
 else if c = 224 ∧ on s (i + 1) 160 191 = true ∧ on s (i + 2) 128 191 = true then 3
 else if c = 237 ∧ on s (i + 1) 128 159 = true ∧ on s (i + 2) 128 191 = true then 3
 else if 225 ≤ c ∧ c ≤ 239 ∧ c ≠ 237 ∧ on s (i + 1) 128 191 = true ∧ on s (i + 2) 128 191 = true then 3
 else if c = 240 ∧ on s (i + 1) 144 191 = true ∧ on s (i + 2) 128 191 = true ∧ on s (i + 3) 128 191 = true then 4
 else if c = 244 ∧ on s (i + 1) 128 143 = true ∧ on s (i + 2) 128 191 = true ∧ on s (i + 3) 128 191 = true then 4
 else if 241 ≤ c ∧ c ≤ 243 ∧ on s (i + 1) 128 191 = true ∧ on s (i + 2) 128 191 = true ∧ on s (i + 3) 128 191 = true then 4
 else 0
theorem on_iff (s:ByteArray) (k lo hi:Nat):on s k lo hi = true ↔ k < s.size ∧ lo ≤ b s k ∧ b s k ≤ hi:=by
 unfold on; simp [and_assoc]
theorem dec_low (s:ByteArray) (i:Nat) (h:i < s.size) (hb:b s i < 128):Utf8.decode s i = (b s i,1):=by
 have e:=b_get s i h
 simp only [Utf8.decode,Nat.add_zero,e,hb,if_true]
theorem dec_high (s:ByteArray) (i:Nat) (h:i < s.size) (hb:128 ≤ b s i) :
  (sz s i = 0 ∧ Utf8.decode s i = (65533,1)) ∨ (2 ≤ sz s i ∧ i + sz s i ≤ s.size ∧ (Utf8.decode s i).2 = sz s i ∧ 128 ≤ (Utf8.decode s i).1):=by
 have e0:=b_get s i h
 have e1:=fun h'=>b_get s (i + 1) h'
 have e2:=fun h'=>b_get s (i + 2) h'
 have e3:=fun h'=>b_get s (i + 3) h'
 have hb0:=b_lt s i
 have hb1:=b_lt s (i + 1)
 have hb2:=b_lt s (i + 2)
 have hb3:=b_lt s (i + 3)
 have o1:=fun lo hi=>on_iff s (i + 1) lo hi
 have o2:=fun lo hi=>on_iff s (i + 2) lo hi
 have o3:=fun lo hi=>on_iff s (i + 3) lo hi
 unfold sz
 simp only [Utf8.decode,Nat.add_zero,e0,o1,o2,o3,Utf8.runeError,Utf8.valid]
 generalize (s.get! (i + 1)).toNat = a1 at *
 generalize (s.get! (i + 2)).toNat = a2 at *
 generalize (s.get! (i + 3)).toNat = a3 at *
 clear o1 o2 o3 e0
 generalize b s i = c0 at *
 generalize b s (i + 1) = c1 at *
 generalize b s (i + 2) = c2 at *
 generalize b s (i + 3) = c3 at *
 have k0:¬ c0 < 128:=by omega
 simp only [k0,if_false]
 by_cases r1:c0 < 192
 ·left
  have q1:(c0 / 32 == 6) = false:=beq_eq_false_iff_ne.2 (by omega)
  have q2:(c0 / 16 == 14) = false:=beq_eq_false_iff_ne.2 (by omega)
  have q3:(c0 / 8 == 30) = false:=beq_eq_false_iff_ne.2 (by omega)
  simp only [q1,q2,q3,Bool.false_and,Bool.false_eq_true,if_false,and_true]
  rw [if_neg (by omega),if_neg (by omega),if_neg (by omega),if_neg (by omega),if_neg (by omega),if_neg (by omega),if_neg (by omega)]
 by_cases r2:c0 < 224
 ·have q1:(c0 / 32 == 6) = true:=beq_iff_eq.2 (by omega)
  have q2:(c0 / 16 == 14) = false:=beq_eq_false_iff_ne.2 (by omega)
  have q3:(c0 / 8 == 30) = false:=beq_eq_false_iff_ne.2 (by omega)
  simp only [q1,q2,q3,Bool.false_and,Bool.false_eq_true,if_false,Bool.true_and]
  rw [if_neg (by omega:¬ (c0 = 224 ∧ _)),if_neg (by omega:¬ (c0 = 237 ∧ _)),if_neg (by omega:¬ (225 ≤ c0 ∧ _)),if_neg (by omega:¬ (c0 = 240 ∧ _)),if_neg (by omega:¬ (c0 = 244 ∧ _)),if_neg (by omega:¬ (241 ≤ c0 ∧ _))]
  by_cases h1:i + 1 < s.size
  ·obtain rfl:=e1 h1
   simp only [h1,decide_true,Bool.true_and,true_and,beq_iff_eq]
   repeat' split
   all_goals first | omega | (left; constructor <;> first | rfl | omega) | (right; refine ⟨?_,?_,?_,?_⟩ <;> first | rfl | omega)
  ·left
   simp [h1]
 by_cases r3:c0 < 240
 ·have q1:(c0 / 32 == 6) = false:=beq_eq_false_iff_ne.2 (by omega)
  have q2:(c0 / 16 == 14) = true:=beq_iff_eq.2 (by omega)
  have q3:(c0 / 8 == 30) = false:=beq_eq_false_iff_ne.2 (by omega)
  simp only [q1,q2,q3,Bool.false_and,Bool.false_eq_true,if_false,Bool.true_and]
  rw [if_neg (by omega:¬ (194 ≤ c0 ∧ _)),if_neg (by omega:¬ (c0 = 240 ∧ _)),if_neg (by omega:¬ (c0 = 244 ∧ _)),if_neg (by omega:¬ (241 ≤ c0 ∧ _))]
  by_cases h2:i + 2 < s.size
  ·have h1:i + 1 < s.size:=by omega
   obtain rfl:=e1 h1
   obtain rfl:=e2 h2
   simp only [h1,h2,decide_true,Bool.true_and,true_and,Bool.and_eq_true,beq_iff_eq,decide_eq_true_eq,Bool.or_eq_true]
   by_cases k1:a1 / 64 = 2
   ·by_cases k2:a2 / 64 = 2
    ·simp only [k1,k2,true_and,if_true]
     have g1:128 ≤ a1 ∧ a1 ≤ 191:=by omega
     have g2:128 ≤ a2 ∧ a2 ≤ 191:=by omega
     clear e1 e2 e3 k1 k2 q1 q2 q3 hb1 hb2 hb3 hb hb0
     repeat' split
     all_goals first | omega | (left; constructor <;> first | rfl | omega) | (right; refine ⟨?_,?_,?_,?_⟩ <;> first | rfl | omega)
    ·left
     rw [if_neg (by omega),if_neg (by omega),if_neg (by omega),if_neg (by omega)]
     exact ⟨rfl,rfl⟩
   ·left
    rw [if_neg (by omega),if_neg (by omega),if_neg (by omega),if_neg (by omega)]
    exact ⟨rfl,rfl⟩
  ·left
   simp [h2]
 by_cases r4:c0 < 248
 ·have q1:(c0 / 32 == 6) = false:=beq_eq_false_iff_ne.2 (by omega)
  have q2:(c0 / 16 == 14) = false:=beq_eq_false_iff_ne.2 (by omega)
  have q3:(c0 / 8 == 30) = true:=beq_iff_eq.2 (by omega)
  simp only [q1,q2,q3,Bool.false_and,Bool.false_eq_true,if_false,Bool.true_and]
  rw [if_neg (by omega:¬ (194 ≤ c0 ∧ _)),if_neg (by omega:¬ (c0 = 224 ∧ _)),if_neg (by omega:¬ (c0 = 237 ∧ _)),if_neg (by omega:¬ (225 ≤ c0 ∧ _))]
  by_cases h3:i + 3 < s.size
  ·have h1:i + 1 < s.size:=by omega
   have h2:i + 2 < s.size:=by omega
   obtain rfl:=e1 h1
   obtain rfl:=e2 h2
   obtain rfl:=e3 h3
   simp only [h1,h2,h3,decide_true,Bool.true_and,true_and,Bool.and_eq_true,beq_iff_eq,decide_eq_true_eq,Bool.or_eq_true]
   by_cases k:(a1 / 64 = 2 ∧ a2 / 64 = 2) ∧ a3 / 64 = 2
   ·have g1:128 ≤ a1 ∧ a1 ≤ 191:=by omega
    have g2:128 ≤ a2 ∧ a2 ≤ 191:=by omega
    have g3:128 ≤ a3 ∧ a3 ≤ 191:=by omega
    rw [if_pos k]
    clear e1 e2 e3 k q1 q2 q3 hb1 hb2 hb3 hb hb0
    repeat' split
    all_goals first | omega | (left; constructor <;> first | rfl | omega) | (right; refine ⟨?_,?_,?_,?_⟩ <;> first | rfl | omega)
   ·left
    rw [if_neg k,if_neg (by omega),if_neg (by omega),if_neg (by omega)]
    exact ⟨rfl,rfl⟩
  ·left
   simp [h3]
 ·left
  have q1:(c0 / 32 == 6) = false:=beq_eq_false_iff_ne.2 (by omega)
  have q2:(c0 / 16 == 14) = false:=beq_eq_false_iff_ne.2 (by omega)
  have q3:(c0 / 8 == 30) = false:=beq_eq_false_iff_ne.2 (by omega)
  simp only [q1,q2,q3,Bool.false_and,Bool.false_eq_true,if_false,and_true]
  rw [if_neg (by omega),if_neg (by omega),if_neg (by omega),if_neg (by omega),if_neg (by omega),if_neg (by omega),if_neg (by omega)]
end Txt
end Go.Proofs.YtgpcilepkmckeaaGreatDoor

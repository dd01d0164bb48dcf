/-
The reference's Version: a version's parts, or that it is none.
-/
import Derived.Test.YtgpcilepkmckeaaDoorAVerParse2
namespace Go.Proofs.YtgpcilepkmckeaaDoor
open Go.RowKit
set_option linter.unusedSimpArgs false
set_option linter.unusedVariables false
namespace Ver
open Txt (b b_eq b_lt)
def FirstAt (s:ByteArray) (x:UInt8) (k:Int):Prop:=(k = -1 ∧ cut1 x (li s) = none) ∨ ∃ i:Nat,k = i ∧ i < s.size ∧ cut1 x (li s) = some ((li s).take i,(li s).drop (i + 1))
def LastAt (s:ByteArray) (x:UInt8) (k:Int):Prop:=(k = -1 ∧ cutZ x (li s) = none) ∨ ∃ i:Nat,k = i ∧ i < s.size ∧ cutZ x (li s) = some ((li s).take i,(li s).drop (i + 1))
set_option maxRecDepth 100000 in
theorem yfirst_any (s:ByteArray) (x:UInt8) (w:World) (hs:s.size ≤ 4611686018427387904) :
  Calls Tryd.prog 47 #[.string s,.int .u8 x.toNat] w fun e w'=>∃ k,e = .returned (.int .i64 k) ∧ FirstAt s x k ∧ w' = w:=by
 have hF:∀ i,i < s.size → b s i = x.toNat → (∀ j,j < i → b s j ≠ x.toNat) → FirstAt s x i:=fun i hi hx h=>.inr ⟨i,rfl,hi,cut1_at hi hx h⟩
 have hN:(∀ j,j < s.size → b s j ≠ x.toNat) → FirstAt s x (-1):=fun h=>.inl ⟨rfl,cut1_none h⟩
 have hxl:=UInt8.toNat_lt x
 have HF:=Lib.hid hF
 have HNO:=Lib.hid hN
 clear hF hN
 obtain ⟨X,hX⟩:∃ X,x.toNat = X:=⟨_,rfl⟩
 rw [hX] at HF HNO hxl ⊢
 clear hX
 go_enter Tryd.func47,Tryd.ntmps47
 go_wp2
 go_loopg [8] s.size (fun gf s8 wx=>∃ pos:Nat,s8 = .int .i64 pos ∧ wx = w ∧ Hid (∀ j,j < pos → b s j ≠ X) ∧ s.size ≤ pos + gf ∧ pos ≤ s.size)
 case atStart=>exact ⟨0,rfl,rfl,fun j hj=>by omega,by omega,by omega⟩
 case round =>
  obtain ⟨pos,rfl,rfl,HN,hfu,hps⟩:=hrel
  by_cases hlt:pos < s.size
  ·obtain ⟨g',rfl⟩:∃ g',gk = g' + 1:=⟨gk - 1,by omega⟩
   have hlt':(pos:Int) < (s.size:Int):=by omega
   have hbc:=b_eq s pos hlt
   have hbl:=b_lt s pos
   by_cases hc:b s pos = X
   ·have HK:=Lib.hid (HF.out pos hlt hc HN.out)
    rw [hc] at hbc hbl
    clear HF HNO HN hc
    go_wp2_with fail
    go_ret
    exact ⟨_,rfl,HK.out,rfl⟩
   ·have HM:Hid (∀ j,j < pos + 1 → b s j ≠ X):=fun j hj=>by
     by_cases e:j = pos
     ·subst e; exact hc
     ·exact HN.out j (by omega)
    obtain ⟨c,hcc⟩:∃ c,b s pos = c:=⟨_,rfl⟩
    rw [hcc] at hbc hbl hc
    have hne:((c:Int) == (X:Int)) = false:=by simp; omega
    clear hcc HN
    go_wp2_with fail
    go_roundg g'
    case measure=>omega
    case rel=>exact ⟨pos + 1,by go_num,rfl,HM,by omega,by omega⟩
  ·have hge:¬ (pos:Int) < (s.size:Int):=by omega
   have HK:=Lib.hid (HNO.out fun j hj=>HN.out j (by omega))
   clear HF HNO HN
   go_wp2_with fail
   go_ret
   exact ⟨_,rfl,HK.out,rfl⟩
set_option maxRecDepth 100000 in
theorem ylast_any (s:ByteArray) (x:UInt8) (w:World) (hs:s.size ≤ 4611686018427387904) :
  Calls Tryd.prog 48 #[.string s,.int .u8 x.toNat] w fun e w'=>∃ k,e = .returned (.int .i64 k) ∧ LastAt s x k ∧ w' = w:=by
 have hF:∀ i,i < s.size → b s i = x.toNat → (∀ j,i < j → j < s.size → b s j ≠ x.toNat) → LastAt s x i:=fun i hi hx h=>.inr ⟨i,rfl,hi,cutZ_at hi hx h⟩
 have hN:(∀ j,j < s.size → b s j ≠ x.toNat) → LastAt s x (-1):=fun h=>.inl ⟨rfl,cutZ_none h⟩
 have hxl:=UInt8.toNat_lt x
 have HF:=Lib.hid hF
 have HNO:=Lib.hid hN
 clear hF hN
 obtain ⟨X,hX⟩:∃ X,x.toNat = X:=⟨_,rfl⟩
 rw [hX] at HF HNO hxl ⊢
 clear hX
 go_enter Tryd.func48,Tryd.ntmps48
 go_wp2
 go_loopg [5] s.size (fun gf s5 wx=>s5 = .int .i64 ((gf:Int) - 1) ∧ wx = w ∧ Hid (∀ j,gf ≤ j → j < s.size → b s j ≠ X) ∧ gf ≤ s.size)
 case atStart=>exact ⟨rfl,rfl,fun j h1 h2=>by omega,Nat.le_refl _⟩
 case round =>
  obtain ⟨rfl,rfl,HN,hfu⟩:=hrel
  by_cases h0:gk = 0
  ·subst h0
   have HK:=Lib.hid (HNO.out fun j hj=>HN.out j (by omega) hj)
   clear HF HNO HN
   go_wp2_with fail
   go_ret
   exact ⟨_,rfl,HK.out,rfl⟩
  ·obtain ⟨g',rfl⟩:∃ g',gk = g' + 1:=⟨gk - 1,by omega⟩
   have hg:((g' + 1:Nat):Int) - 1 = (g':Int):=by omega
   rw [hg]
   have hlt':(g':Int) < (s.size:Int):=by omega
   have hlt:g' < s.size:=by omega
   have hbc:=b_eq s g' hlt
   have hbl:=b_lt s g'
   by_cases hc:b s g' = X
   ·have HK:=Lib.hid (HF.out g' hlt hc fun j h1 h2=>HN.out j (by omega) h2)
    rw [hc] at hbc hbl
    clear HF HNO HN hc hg
    go_wp2_with fail
    go_ret
    exact ⟨_,rfl,HK.out,rfl⟩
   ·have HM:Hid (∀ j,g' ≤ j → j < s.size → b s j ≠ X):=fun j h1 h2=>by
     by_cases e:j = g'
     ·subst e; exact hc
     ·exact HN.out j (by omega) h2
    obtain ⟨c,hcc⟩:∃ c,b s g' = c:=⟨_,rfl⟩
    rw [hcc] at hbc hbl hc
    have hne:((c:Int) == (X:Int)) = false:=by simp; omega
    clear hcc HN hg
    go_wp2_with fail
    go_roundg g'
    case measure=>omega
    case rel=>exact ⟨by go_num,rfl,HM,by omega⟩
end Ver
end Go.Proofs.YtgpcilepkmckeaaDoor
